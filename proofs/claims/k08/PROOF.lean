import PyProof.Rows.All
import Wide.All
import OpenK.AllK
import Wide.FinOn
import PyProof.EqAt
import PyProof.EqKinds
import PyProof.TupleCall
import HandS.Base
import HandS.Call
import HandS.List
import HandS.Exc
import HandS.IsInst
import HandS.ExcOwn
import HandS.ExcInit
import HandS.ExcField
import HandS.ExcIs
import HandS.TryOnly
import HandS.CallSlots
import HandS.Words
import HandS.WordsExc
import KE.KExcIs
import HandS.Sort
import PyProof.Rows.RuleN_abs
import HandS.HotCalls
import HandS.ExcInitHot
import HandS.OwnEq
import HandS.IterNext
import PyProof.FactsSeq
import PyProof.TupleIter
import PyProof.WalksMore
import HandS.Star
import HandS.Zip
import HandS.Walk
import HandS.Text
import HandS.Codes
import KE.IntTextLaws
import KE.KIntText
import KE.KDictZip
import HandS.RaiseMore
import HandS.ClsMeth
import HandS.StrMore
import HandS.FStr
import HandS.Iter
import HandS.Spec
import HandS.ReplaceList
import HandS.Replace
import HandS.ReplaceLit
import HandS.ReplaceDef
import HandS.Comp
import HandS.Conv
import HandS.EndBits
import PySem.Challenge.RW_gangbooks_k08_note_first_wrong
set_option Elab.async false
set_option linter.all false
set_option maxRecDepth 100000
set_option maxHeartbeats 4000000
/-! own operators over the layer -/
namespace L2
open PySem PySem.Spec PyProof.Rows
theorem cmpBack_of {Q : Value → Shared → Prop} {v : V} {u : Value} {s : Shared} (r : RelV v u) (q : Q u s) : PySem.W.CmpBack Q u s := by
  cases v with
  | non => cases (show u = Value.none from r); exact q
  | bl b => cases (show u = Value.bool b from r); exact q
  | int i => obtain ⟨t, e⟩ := (show ∃ t, u = Value.int i t from r); cases e; exact q
  | str x => obtain ⟨t, e⟩ := (show ∃ t, u = Value.str x t from r); cases e; exact q
  | byt x => obtain ⟨t, e⟩ := (show ∃ t, u = Value.bytes x t from r); cases e; exact q
  | flt x => obtain ⟨t, e⟩ := (show ∃ t, u = Value.float x t from r); cases e; exact q
  | ref a => cases (show u = Value.ref a from r); exact q
  | ty n => cases (show u = Value.type n from r); exact q
section
variable {X : Cx} {pins : List (Addr × Obj)} {σ : St} {H : Hp} {s : Shared} {a C dx : Addr} {fs : List (Str × V)}
theorem Inv.instAt (I : Inv X pins σ H s) (e : H a = some (.ins C dx fs)) : ∃ od, PySem.W.InstAt s.heap a (PySem.W.instObj C dx) C (some od) := by
  obtain ⟨mA, J, _⟩ := ins_get I.hok e
  obtain ⟨od, h, _⟩ := J.look
  exact ⟨od, h⟩
end
section
variable {X : Cx} {CX : CXT} {k : Nat} {f C : Addr} {fd : FuncData} {ps : List Str} {sp : Sp} {dvs : List V} {ds : List Value} {E : XK}
/-- the callee runs, within some units of the C stack -/
theorem run_fnA {A : Around} {pins : List (Addr × Obj)} {σ : St} {H : Hp} {s : Shared} {Q : VK} {us : List Value} {vs : List V} (hfA : A.frames = X.A.frames) (F : FnOk X.prog X.w X.K X.mg X.base CX k f fd ps sp) (hr : Room k A) (hb : Binds X.K fd ps ds) (hd : Vals dvs ds) (hx : Passes CX X E)
    (I : Inv X pins σ H s) (r : Vals vs us) (h : sp (vs ++ dvs) H Q E) : wpAny (model X.prog X.w) A (call (.ref f) us) (EP X pins σ Q) X.xe s := by
  have r2 : Vals (vs ++ dvs) (us ++ ds) := r.append hd
  have hl : (us ++ ds).length = ps.length := by rw [← r2.length]; exact F.len _ _ _ _ h
  have e0 := I.env0
  have e1 : Env0 X.prog X.w X.K X.mg X.base A X.stack s H := ⟨hfA.trans e0.frames, e0.mod, e0.bs, e0.bsz, e0.funs, e0.frf, e0.hok, e0.bare⟩
  refine wpAny_call (codeAny_mono (F.run A X.stack s H ⟨us, []⟩ (us ++ ds) (vs ++ dvs) Q E hr e1 (hb s us I.kIn hl) r2 h) fun r s' hq => ?_)
  cases r with
  | error e => exact hx pins σ H s e s' I hq
  | ok fl =>
    cases fl with
    | ret u => exact I.after hq
    | next => exact False.elim hq
    | brk => exact False.elim hq
    | cont => exact False.elim hq
/-- x op y, both of the class at C -/
def rOwn (C : Addr) (sp : Sp) (E : XK) : R2 := fun x y H Q => ∃ a dx fs b dy gs, x = .ref a ∧ H a = some (.ins C dx fs) ∧ y = .ref b ∧ H b = some (.ins C dy gs) ∧ sp [x, y] H Q E
theorem op_own {op : Operator} (hm : Meth X.K C (PySem.dunder op.info.2) f) (hc : PySem.W.selfFirst X.K C = true) (F : FnOk X.prog X.w X.K X.mg X.base CX k f fd ps sp) (hr : Room k X.A) (hb : Binds X.K fd ps []) (hx : Passes CX X E) :
    OpR X (binaryOp op) (rOwn C sp E) := by
  intro pins s σ H x y v u Q I rx ry h
  obtain ⟨a, dx, fs, b, dy, gs, rfl, ea, rfl, eb, h⟩ := h
  obtain rfl : v = Value.ref a := rx
  obtain rfl : u = Value.ref b := ry
  obtain ⟨od, J⟩ := I.instAt ea
  obtain ⟨od', J'⟩ := I.instAt eb
  obtain ⟨m, fr⟩ := I.fr
  refine PySem.W.binop_K fr I.ok.mod.kin J J'.type hc hm.at_ hm.fn (thn (run_fnA (us := [.ref a, .ref b]) (vs := [.ref a, .ref b]) (dvs := []) rfl F hr hb .nil hx I (.cons rfl (.cons rfl .nil)) h) fun w s' q => ?_)
  obtain ⟨v', H', I', rv, q⟩ := q
  exact cmpBack_of rv ⟨v', H', I', rv, q⟩
/-- x op i, an int on the right -/
def rOwnI (C : Addr) (sp : Sp) (E : XK) : R2 := fun x y H Q => ∃ a dx fs i, x = .ref a ∧ H a = some (.ins C dx fs) ∧ y = .int i ∧ sp [x, y] H Q E
structure OwnI (K : PySem.W.Frag) (C : Addr) (op : Operator) : Prop where
  r : ∃ rc, PySem.W.findIn K (.ref C) (dunderR op.info.2) = some rc ∧ (rc = none ∨ ∃ g : Addr, rc = some (.ref g))
  i1 : ∃ fo, PySem.W.findIn K (.type "int") (PySem.dunder op.info.2) = some fo
  i2 : ∃ ro, PySem.W.findIn K (.type "int") (dunderR op.info.2) = some ro
  sub : PySem.W.subIn K (.type "int") (.ref C) = some false
theorem op_ownI {op : Operator} (hm : Meth X.K C (PySem.dunder op.info.2) f) (hc : PySem.W.selfFirst X.K C = true) (hi : OwnI X.K C op) (F : FnOk X.prog X.w X.K X.mg X.base CX k f fd ps sp) (hr : Room k X.A) (hb : Binds X.K fd ps []) (hx : Passes CX X E) :
    OpR X (binaryOp op) (rOwnI C sp E) := by
  intro pins s σ H x y v u Q I rx ry h
  obtain ⟨a, dx, fs, i, rfl, ea, rfl, h⟩ := h
  obtain rfl : v = Value.ref a := rx
  obtain ⟨t, rfl⟩ := (show ∃ t, u = Value.int i t from ry)
  obtain ⟨od, J⟩ := I.instAt ea
  obtain ⟨m, fr⟩ := I.fr
  obtain ⟨⟨rc, h1, h2⟩, ⟨fo, h3⟩, ⟨ro, h4⟩, h5⟩ := hi
  refine PySem.W.ksp_binT (T := "int") fr I.ok.mod.kin J rfl hc hm.at_ hm.fn h1 h2 h3 h4 h5 (thn (run_fnA (us := [.ref a, .int i t]) (vs := [.ref a, .int i]) (dvs := []) rfl F hr hb .nil hx I (.cons rfl (.cons ⟨t, rfl⟩ .nil)) h) fun w s' q => ?_)
  obtain ⟨v', H', I', rv, q⟩ := q
  exact cmpBack_of rv ⟨v', H', I', rv, q⟩
/-- -x -/
def rOwn1 (C : Addr) (sp : Sp) (E : XK) : V → Hp → VK → Prop := fun x H Q => ∃ a dx fs, x = .ref a ∧ H a = some (.ins C dx fs) ∧ sp [x] H Q E
theorem un_own (hm : Meth X.K C "__neg__" f) (F : FnOk X.prog X.w X.K X.mg X.base CX k f fd ps sp) (hr : Room k X.A) (hb : Binds X.K fd ps []) (hx : Passes CX X E) :
    UnR X (unaryOp .USub) (rOwn1 C sp E) := by
  intro pins s σ H x v Q I rx h
  obtain ⟨a, dx, fs, rfl, ea, h⟩ := h
  obtain rfl : v = Value.ref a := rx
  obtain ⟨od, J⟩ := I.instAt ea
  obtain ⟨m, fr⟩ := I.fr
  exact PySem.W.ksp_neg fr I.ok.mod.kin J hm.at_ hm.fn (run_fnA (us := [.ref a]) (vs := [.ref a]) (dvs := []) rfl F hr hb .nil hx I (.cons rfl .nil) h)
/-- truth by an own __bool__ -/
def rOwnT (C : Addr) (sp : Sp) (E : XK) : V → Hp → (Bool → Hp → Prop) → Prop := fun x H Q => ∃ a dx fs, x = .ref a ∧ H a = some (.ins C dx fs) ∧ sp [x] H (fun v H' => ∃ b, v = .bl b ∧ Q b H') E
theorem tru_ownA {A : Around} (hfA : A.frames = X.A.frames) (hm : Meth X.K C "__bool__" f) (F : FnOk X.prog X.w X.K X.mg X.base CX k f fd ps sp) (hr : Room k A) (hb : Binds X.K fd ps []) (hx : Passes CX X E) {pins : List (Addr × Obj)} {s : Shared} {σ : St} {H : Hp} {x : V} {v : Value} {Q : Bool → Hp → Prop}
    (I : Inv X pins σ H s) (rx : RelV x v) (h : rOwnT C sp E x H Q) : wpAny (model X.prog X.w) A (truthy v) (TP X pins σ Q) X.xe s := by
  obtain ⟨a, dx, fs, rfl, ea, h⟩ := h
  obtain rfl : v = Value.ref a := rx
  obtain ⟨od, J⟩ := I.instAt ea
  obtain ⟨m, fr⟩ := I.fr
  refine PySem.W.truthy_K fr I.ok.mod.kin J hm.at_ hm.fn (thn (run_fnA (us := [.ref a]) (vs := [.ref a]) (dvs := []) hfA F hr hb .nil hx I (.cons rfl .nil) h) fun w s' q => ?_)
  obtain ⟨v', H', I', rv, b, rfl, q⟩ := q
  obtain rfl : w = Value.bool b := rv
  exact ⟨H', I', q⟩
theorem tru_own (hm : Meth X.K C "__bool__" f) (F : FnOk X.prog X.w X.K X.mg X.base CX k f fd ps sp) (hr : Room k X.A) (hb : Binds X.K fd ps []) (hx : Passes CX X E) : TruR X (rOwnT C sp E) :=
  fun _ _ _ _ _ _ _ I rx h => tru_ownA rfl hm F hr hb hx I rx h
/-- v in x, by an own __contains__ that hands back a bool -/
def rOwnIn (C : Addr) (sp : Sp) (E : XK) : R2 := fun y x H Q => ∃ a dx fs, x = .ref a ∧ H a = some (.ins C dx fs) ∧ sp [x, y] H (fun v H' => ∃ b, v = .bl b ∧ Q (.bl b) H') E
theorem op_inOwn (hm : Meth X.K C "__contains__" f) (F : FnOk X.prog X.w X.K X.mg X.base CX k f fd ps sp) (hr : Room k X.A) (hb : Binds X.K fd ps []) (hx : Passes CX X E) : OpR X (compareOp .In) (rOwnIn C sp E) := by
  intro pins s σ H y x v u Q I ry rx h
  obtain ⟨a, dx, fs, rfl, ea, h⟩ := h
  obtain rfl : u = Value.ref a := rx
  obtain ⟨od, J⟩ := I.instAt ea
  obtain ⟨m, fr⟩ := I.fr
  refine PySem.W.in_K fr I.ok.mod.kin J hm.at_ hm.fn (thn (run_fnA (us := [.ref a, v]) (vs := [.ref a, y]) (dvs := []) rfl F hr hb .nil hx I (.cons rfl (.cons ry .nil)) h) fun w s' q => ?_)
  obtain ⟨v', H', I', rv, b, rfl, q⟩ := q
  obtain rfl : w = Value.bool b := rv
  exact wpAny_truthy_bool ⟨.bl b, H', I', rfl, q⟩
/-- len(x) by an own __len__ -/
def rOwnLen (C : Addr) (sp : Sp) (E : XK) : List V → Hp → VK → Prop := fun xs H Q => ∃ a dx fs, xs = [.ref a] ∧ H a = some (.ins C dx fs) ∧ sp [.ref a] H (fun v H' => ∃ n : Int, v = .int n ∧ 0 ≤ n ∧ n < 2 ^ 63 ∧ Q (.int n) H') E
theorem call_lenOwn (hm : Meth X.K C "__len__" f) (F : FnOk X.prog X.w X.K X.mg X.base CX k f fd ps sp) (hr : Room (k + 1) X.A) (hb : Binds X.K fd ps []) (hx : Passes CX X E) : CallR X (.builtin "len") (rOwnLen C sp E) := by
  intro pins s σ H xs us Q I r h
  obtain ⟨a, dx, fs, rfl, ea, h⟩ := h
  obtain ⟨u, rfl, ru⟩ := vals1 r
  obtain rfl : u = Value.ref a := ru
  obtain ⟨od, J⟩ := I.instAt ea
  obtain ⟨m, fr⟩ := I.fr
  refine PySem.W.len_K fr I.ok.mod.kin J hm.at_ hm.fn (thn (run_fnA (A := X.A.in1) (us := [.ref a]) (vs := [.ref a]) (dvs := []) rfl F hr.in1 hb .nil hx I (.cons rfl .nil) h) fun w s' q => ?_)
  obtain ⟨v', H', I', rv, n, rfl, h0, h1, q⟩ := q
  obtain ⟨t, rfl⟩ := (show ∃ t, w = Value.int n t from rv)
  exact ⟨⟨h0, h1⟩, .int n, H', I'.tok _, ⟨_, rfl⟩, q⟩
end
end L2

namespace L2
open PySem PySem.Spec PyProof.Rows
section
variable {X : Cx} {CX : CXT} {k : Nat} {f C : Addr} {fd : FuncData} {ps : List Str} {sp : Sp} {E : XK}
theorem meets_bool_any {prog : Program} {w : World} (x : Value) : MeetsIn prog w (Builtin.«bool.__new__» ⟨[.type "bool", x], []⟩) (fun A R s => wpAny (model prog w) A.in1 (truthy x) (fun b s' => R (.ok (.ret (.bool b))) s') (fun e s' => R (.error e) s') s) :=
  MeetsIn.of_wp fun A R s hs => by
    have f1 := F.conv_sub_bool
    obtain ⟨hp, g, d, tk, os⟩ := s
    repeat (any_goals (first | assumption | (with_reducible refine wpAny_bind (wpAny_mono hs (fun b s' q => ?_) fun _ _ z => z)) | (with_reducible refine wpAny_mono hs (fun b s' q => ?_) fun _ _ z => z) | wp_step))
    all_goals first | exact ⟨_, rfl, q⟩ | exact q | skip
/-- bool(x), by an own __bool__ -/
def rBoolOwn (C : Addr) (sp : Sp) (E : XK) : List V → Hp → VK → Prop := fun xs H Q => ∃ x, xs = [x] ∧ rOwnT C sp E x H fun b H' => Q (.bl b) H'
theorem call_boolOwn (hm : Meth X.K C "__bool__" f) (Fk : FnOk X.prog X.w X.K X.mg X.base CX k f fd ps sp) (hr : Room (k + 2) X.A) (hb : Binds X.K fd ps []) (hx : Passes CX X E) : CallR X (.type "bool") (rBoolOwn C sp E) := by
  intro pins s σ H xs us Q I r h
  obtain ⟨x, rfl, h⟩ := h
  obtain ⟨u, rfl, ru⟩ := vals1 r
  refine callType_newIn PySem.F.called_bool PySem.F.newNe_bool (PySem.F.typeCall_bool_1 u) (PySem.F.newCall_bool_1 u) (fun obj => PySem.F.args_object_init_2 obj u) PySem.F.entry_bool_new (meets_bool_any u) ?_
  refine thn (tru_ownA (A := X.A.in1.in1) rfl hm Fk hr.in1.in1 hb hx I ru h) fun b s' ⟨H', I', q⟩ => ?_
  exact ⟨rfl, .bl b, H', I', rfl, q⟩
end
end L2
namespace L2
open PySem PySem.Spec PyProof.Rows
section
variable {X : Cx} {CX : CXT} {k : Nat} {f C : Addr} {fd : FuncData} {ps : List Str} {sp : Sp} {E : XK}
/-- x == y by an own __eq__, y of the class or of a kind that is no subclass of it -/
def rEqOwn (K : PySem.W.Frag) (C : Addr) (sp : Sp) (E : XK) : R2 := fun x y H Q => ∃ a dx fs t, x = .ref a ∧ H a = some (.ins C dx fs) ∧ TyX K H y t ∧ PySem.W.notFirst K C t = true ∧ sp [x, y] H Q E
theorem op_eqOwn (hm : Meth X.K C "__eq__" f) (F : FnOk X.prog X.w X.K X.mg X.base CX k f fd ps sp) (hr : Room k X.A) (hb : Binds X.K fd ps []) (hx : Passes CX X E) : OpR X (compareOp .Eq) (rEqOwn X.K C sp E) := by
  intro pins s σ H x y v u Q I rx ry h
  obtain ⟨a, dx, fs, t, rfl, ea, ty, hn, h⟩ := h
  obtain rfl : v = Value.ref a := rx
  obtain ⟨od, J⟩ := I.instAt ea
  obtain ⟨m, fr⟩ := I.fr
  obtain ⟨P, Z, p, _⟩ := kit_of I ry ty
  have hb' := Z.ty (model X.prog X.w) _ I.kIn p
  show wpAny _ _ (richCompare .Eq (.ref a) u) _ _ _
  refine PySem.W.cmp_K (op := .Eq) hr.units0 fr I.ok.mod.kin J hb' hn hm.at_ hm.fn (thn (run_fnA (us := [.ref a, u]) (vs := [.ref a, y]) (dvs := []) rfl F hr hb .nil hx I (.cons rfl (.cons ry .nil)) h) fun w s' q => ?_)
  obtain ⟨v', H', I', rv, q⟩ := q
  exact cmpBack_of rv ⟨v', H', I', rv, q⟩
end
end L2
namespace PySem.W
open PySem PySem.Spec PySem.Calls PyProof.Rows
section
variable {prog : Program} {w : World} {A : Around} {E : Value → Shared → Prop} {s : Shared} {K : Frag} {x D : Addr} {ox : Obj}
theorem gb_kitx_exc {od : Option Obj} (hga : findIn K (.ref D) "__getattribute__" = some (some (.builtin "BaseException.__getattribute__"))) (hgt : findIn K (.ref D) "__getattr__" = some none) (hsub : subIn K (.ref D) (.type "BaseException") = some true) (hdct : hasDictIn K D = true) (ha : findIn K (.ref D) "__class__" = some (some (.builtin "object.__class__")))
    (hn : specialIn K (.builtin "object.__class__") "__get__" = some (some (.builtin "getset_descriptor.__get__"))) (htk : takesIn K (.builtin "object.__class__") = some true) (hm : mroIn K D (.type "object") = some true) :
    KitX K (.ref x) (.ref D) (fun h => InstAt h x ox D od) where
  ty := fun _ _ _ I => I.type
  it := fun _ _ X _ => by
    obtain ⟨cdD, hcD, _⟩ := any_some hdct
    unfold clsIn at hcD
    split at hcD
    · rename_i c' d' cd' sl' ho
      intro A' Q' E' s' k q
      unfold isType loadHead
      exact wpAny_bind (wpAny_loadPart (k _ _ (X _ _ ho)) (wpAny_pure q))
    · cases hcD
  ne := fun h tp dd its n sl X htp => by
    obtain ⟨cdD, hcD, _⟩ := any_some hdct
    refine Bool.eq_false_iff.mpr fun q => ?_
    have e : D = tp := Value.ref.inj (beq_iff_eq.mp q)
    subst e
    unfold clsIn at hcD
    split at hcD
    · rename_i c' d' cd' sl' ho
      have z := (X _ _ ho).symm.trans htp
      cases z
    · cases hcD
  ca := fun X I k => kx_classE X I hga hgt hsub (findObj_dataE (by obtain ⟨cd, hc, _⟩ := any_some hdct; rw [hc]; rfl) ha hn htk) hm k
end
end PySem.W
namespace L2
open PySem PySem.Spec PyProof.Rows
/-- isinstance(e, c), e the exception that the suite holds, with its own dict -/
def rIsX (K : PySem.W.Frag) (a : Addr) (cls : Value) (d : Option Addr) : List V → Hp → VK → Prop := fun xs H Q => ∃ (c : V) (cv : Value) (b : Bool) (D dd : Addr) (fs : List (Str × V)), xs = [.ref a, c] ∧ (∀ u, RelV c u → u = cv) ∧ cls = .ref D ∧ ExcC K D ∧ d = some dd ∧ H dd = some (.xd fs) ∧ PySem.W.kitOne K (.ref D) cv = some b ∧ Q (.bl b) H
theorem instX {X : Cx} {pins : List (Addr × Obj)} {σ : St} {H : Hp} {s : Shared} {a D dd : Addr} {oe : Obj} {pn : List (Addr × Obj)} {fs : List (Str × V)} (I : Inv (X.suite a ((a, oe) :: pn)) pins σ H s) (hz : Zc (.ref D) (some dd) oe) (hf : ∃ vs, oe.data = .fields vs) (he : H dd = some (.xd fs)) : ∃ od, PySem.W.InstAt s.heap a oe D (some od) := by
  obtain ⟨hget, _⟩ := I.pin (a, oe) (List.mem_append.mpr (.inl List.mem_cons_self))
  obtain ⟨vs, hv⟩ := hf
  obtain ⟨mA, ⟨od, es, ep, e1, e2, e3⟩, r⟩ := (show ObjOk X.prog X.w H s.heap dd (.xd fs) from I.hok dd _ he)
  exact ⟨od, hget, hz.1, by unfold PySem.W.notCls; rw [hv] <;> rfl, by rw [hz.2]; exact e1⟩
theorem call_isX {X : Cx} {a : Addr} {cls : Value} {d : Option Addr} {oe : Obj} {pn : List (Addr × Obj)} (hz : Zc cls d oe) (hf : ∃ vs, oe.data = .fields vs) : CallR (X.suite a ((a, oe) :: pn)) (.builtin "isinstance") (rIsX X.K a cls d) := by
  intro pins s σ H xs us Q I r h
  obtain ⟨c, cv, b, D, dd, fs, rfl, hcv, rfl, C, rfl, hd, e, q⟩ := h
  obtain ⟨u1, u2, rfl, rx, rt⟩ := vals2 r
  cases rx
  have ec := hcv _ rt
  subst ec
  obtain ⟨od, J⟩ := instX I hz hf hd
  exact PySem.W.kia_one (PySem.W.gb_kitx_exc C.hg C.hk C.hs C.hd C.ha C.hn C.ht C.hm) I.kIn J e (fun z => nomatch z) fun tk => ⟨.bl b, H, I.kept (t' := tk) fun _ _ z => z, rfl, q⟩
/-- isinstance(e, (c1, c2, ..)) -/
def rIsXT (K : PySem.W.Frag) (a : Addr) (cls : Value) (d : Option Addr) : List V → Hp → VK → Prop := fun xs H Q => ∃ (tp : Addr) (cs : List V) (us : List Value) (b : Bool) (D dd : Addr) (fs : List (Str × V)), xs = [.ref a, .ref tp] ∧ H tp = some (.tup cs) ∧ Paired ClsV cs us ∧ cls = .ref D ∧ ExcC K D ∧ d = some dd ∧ H dd = some (.xd fs) ∧ PySem.W.kitAny K (.ref D) us = some b ∧ Q (.bl b) H
theorem call_isXT {X : Cx} {a : Addr} {cls : Value} {d : Option Addr} {oe : Obj} {pn : List (Addr × Obj)} (hz : Zc cls d oe) (hf : ∃ vs, oe.data = .fields vs) : CallR (X.suite a ((a, oe) :: pn)) (.builtin "isinstance") (rIsXT X.K a cls d) := by
  intro pins s σ H xs us Q I r h
  obtain ⟨tp, cs, ws, b, D, dd, fs, rfl, hT, k, rfl, C, rfl, hd, e, q⟩ := h
  obtain ⟨u1, u2, rfl, rx, rt⟩ := vals2 r
  cases rx
  cases (show u2 = Value.ref tp from rt)
  obtain ⟨od, J⟩ := instX I hz hf hd
  obtain ⟨_, its, rv, o, h1, h2, n, h3⟩ := (show ObjOk X.prog X.w H s.heap tp (.tup cs) from I.hok tp _ hT)
  have e3 := ClsV.all k rv
  subst e3
  obtain ⟨oc, od, dt, sl⟩ := o
  simp only at h2 h3
  subst h2 h3
  exact PySem.W.kia_tup (PySem.W.gb_kitx_exc C.hg C.hk C.hs C.hd C.ha C.hn C.ht C.hm) I.kIn J h1 e (fun z => nomatch z) fun tk => ⟨.bl b, H, I.kept (t' := tk) fun _ _ z => z, rfl, q⟩
theorem exc_heap {H : Hp} {a d : Addr} {o1 o2 o3 u : HO} (h : H a = none) : upd (del (upd (upd (upd H a o1) d o2) a o3) a) d u = upd H d u := by
  funext b
  by_cases hd : b = d
  · subst hd; rw [upd_same, upd_same]
  · rw [upd_ne hd, upd_ne hd]
    by_cases ha : b = a
    · subst ha; rw [del_same, h]
    · rw [del_ne ha, upd_ne ha, upd_ne hd, upd_ne ha]
/-- what the classes of errors are, over one base with __init__(self, subject) -/
structure GExc (K : PySem.W.Frag) (C fI : Addr) : Prop where
  oex : OexC K C
  iC : PySem.W.findIn K (.ref C) "__init__" = some (some (.ref fI))
  tI : PySem.W.typeIn K (.ref fI) = some (.type "function")
  noS : PySem.W.findIn K (.ref C) "subject" = some none
/-- __init__(self, subject): self.subject = subject -/
def spGI (K : PySem.W.Frag) : Sp := fun vs H Q _ => ∃ (a C : Addr) (v : V), vs = [.ref a, v] ∧ OexC K C ∧ PySem.W.findIn K (.ref C) "subject" = some none ∧ H a = some (exo a C none) ∧
  ∀ dx, H dx = none → dx ≠ a → Q .non (upd (upd H dx (exd dx [(("subject" : Str), v)])) a (exo a C (some dx)))
/-- raise X(e): what it wants of e's value and the heap behind it -/
def RaiseG (K : PySem.W.Frag) (C : Addr) (W : WX) (σ : St) (v : V) (H1 : Hp) : Prop := ([v] : List V).length ≤ 1000 ∧ ∀ a, H1 a = none → spGI K (.ref a :: ([v] ++ [])) (upd H1 a (exo a C none))
  (fun v' H2 => v' = .non ∧ ∃ (d : Addr) (fs : List (Str × V)), H2 a = some (exo a C (some d)) ∧ H2 d = some (exd d fs) ∧ H1 d = none ∧ W (.ref C) (some d) σ (upd (del H2 a) d (.xd fs))) (fun _ _ _ => False)
theorem raiseG_in {K : PySem.W.Frag} {C fI : Addr} {W : WX} {σ : St} {v : V} {H1 : Hp} (T : GExc K C fI) (h : ∀ d, H1 d = none → W (.ref C) (some d) σ (upd H1 d (.xd [(("subject" : Str), v)]))) : RaiseG K C W σ v H1 := by
  refine ⟨by show 1 ≤ 1000; decide, fun a ha => ⟨a, C, v, rfl, T.oex, T.noS, upd_same, fun dx hdx hne => ⟨rfl, dx, [(("subject" : Str), v)], upd_same, ?_, ?_, ?_⟩⟩⟩
  · rw [upd_ne hne, upd_same]
  · rw [upd_ne hne] at hdx; exact hdx
  · rw [exc_heap ha]
    rw [upd_ne hne] at hdx
    exact h dx hdx
def tRaiseG (K : PySem.W.Frag) (C : Addr) (W : WX) (te : TE) : TS := fun _ σ H => te σ H fun v H1 => RaiseG K C W σ v H1
theorem ps_raiseG {X : Cx} {x : Str} {C fI : Addr} {k : Nat} {fd : FuncData} {ps : List Str} {W : WX} {e : Expr} {te : TE} {p pos pos2 : Pos} (hc : X.calm = true) (T : GExc X.K C fI)
    (F1 : FnOk X.prog X.w X.K X.mg X.base CX0 k fI fd ps (spGI X.K)) (hr : Room (k + 1) X.A) (hb : Binds X.K fd ps []) (hg : Gl X x) (hm : X.mg x = some (.ref C)) (tk : Takes X W) (ha : PE X e te)
    (hdb : (x == ("__debug__" : Str)) = false := by decide) (he : starEach [e] X.env = (false, eval e X.env) :: starEach [] X.env := by rfl) (hpl : (backTo pos (starEach [] X.env)).any (·.1) = false := by rfl) :
    PS X (.Raise (some (.Call (.Name x p) [e] [] pos)) none pos2) (tRaiseG X.K C W te) :=
  ps_raise (pos := pos2) hc tk (pmk_oex (p := p) (pos := pos) (dvs := []) T.oex T.iC T.tI F1 hr hb .nil (fun _ _ _ _ _ _ _ h => h.elim) hg hm (pa_cons ha pa_nil he) hdb he hpl)
/-- C(e, ..) of an own class in a try's body -/
def tMakeS (C : Addr) (sp : Sp) (E : St → XK) (t : TA) : TE := fun σ H Q => t σ H fun vs H1 => ∀ x dx, H1 x = none → H1 dx = none → dx ≠ x →
  sp (.ref x :: vs) (upd (upd H1 dx (.own x)) x (.ins C dx [])) (fun v H2 => v = .non ∧ Q (.ref x) H2) (E σ)
section
variable {X : Cx} {CX : CXT} {k : Nat} {f C : Addr} {fd : FuncData} {ps : List Str} {sp : Sp} {E : St → XK} {x : Str} {p pos : Pos} {e : Expr} {es : List Expr} {t : TA} {ta tb : TE}
theorem run_makeS {pins : List (Addr × Obj)} {σ : St} {H : Hp} {s : Shared} {Q : VK} {us : List Value} {vs : List V} (M : Mk X.K C f) (F : FnOk X.prog X.w X.K X.mg X.base CX k f fd ps sp) (hr : Room (k + 1) X.A) (hb : Binds X.K fd ps [])
    (hx : PassesAt CX X σ (E σ)) (I : Inv X pins σ H s) (r : Vals vs us)
    (h : ∀ x dx, H x = none → H dx = none → dx ≠ x → sp (.ref x :: vs) (upd (upd H dx (.own x)) x (.ins C dx [])) (fun v H2 => v = .non ∧ Q (.ref x) H2) (E σ)) :
    wpAny (model X.prog X.w) X.A (call (.ref C) us) (EP X pins σ Q) X.xe s := by
  have hq := h (s.heap.objs.size + 1) s.heap.objs.size (I.hok.fresh (Nat.le_succ _)) (I.hok.fresh (Nat.le_refl _)) (Nat.ne_of_lt (Nat.lt_succ_self _))
  have I2 := Inv.made (C := C) I
  have r2 : Vals (V.ref (s.heap.objs.size + 1) :: vs) (Value.ref (s.heap.objs.size + 1) :: us) := .cons rfl r
  have hl : (Value.ref (s.heap.objs.size + 1) :: us).length = ps.length := by
    have e := r2.length
    rw [F.len _ _ _ _ hq] at e
    exact e.symm
  have hb' := hb
  refine wpAny_call (make_map (f := f) I.kIn M.makes M.init (beq_iff_eq.mp M.fn) (codeAny_mono (F.run _ X.stack _ _ ⟨Value.ref (s.heap.objs.size + 1) :: us, []⟩ (Value.ref (s.heap.objs.size + 1) :: us) _ _ (E σ) (hr.make C us [])
    (I2.env0.make C us []) (by have z := hb _ (Value.ref (s.heap.objs.size + 1) :: us) I2.kIn (by rw [List.append_nil]; exact hl); rw [List.append_nil] at z; exact z) r2 hq) fun r s' hq' => ?_))
  cases r with
  | error e => exact hx pins _ _ e s' I2 hq'
  | ok fl =>
    cases fl with
    | ret u =>
      obtain ⟨v, H', I3, rv, ev, q3⟩ := I2.after hq'
      subst ev
      exact ⟨rv, ⟨V.ref (s.heap.objs.size + 1), H', I3, rfl, q3⟩⟩
    | next => exact False.elim hq'
    | brk => exact False.elim hq'
    | cont => exact False.elim hq'
theorem pe_makeS (M : Mk X.K C f) (F : FnOk X.prog X.w X.K X.mg X.base CX k f fd ps sp) (hr : Room (k + 1) X.A) (hg : Gl X x) (hm : X.mg x = some (.ref C)) (hb : Binds X.K fd ps []) (hx : ∀ σ, PassesAt CX X σ (E σ))
    (ha : PA X (e :: es) t) (hdb : (x == ("__debug__" : Str)) = false := by decide) (he : starEach (e :: es) X.env = (false, eval e X.env) :: starEach es X.env := by rfl) (hpl : (backTo pos (starEach es X.env)).any (·.1) = false := by rfl) :
    PE X (.Call (.Name x p) (e :: es) [] pos) (tMakeS C sp E t) := by
  refine ⟨fun pins s σ H Q I h => ?_⟩
  refine wpAny_Call_Name_kw (ld_glob I hg hm ?_ hdb)
  refine PySem.W.callWith_K (h₀ := X.base) I.ok.mod.kin M.kp (thn (ha.run pos pins s σ H _ I h) fun us s1 ⟨vs, H1, I1, r, q⟩ => ⟨I1.kIn, ?_⟩) he hpl
  exact run_makeS M F hr hb (hx σ) I1 r q
theorem run_fnS2 {pins : List (Addr × Obj)} {σ : St} {H : Hp} {s : Shared} {Q : VK} {us : List Value} {vs : List V} (F : FnOk X.prog X.w X.K X.mg X.base CX k f fd ps sp) (hr : Room k X.A) (hb : Binds X.K fd ps []) (hx : PassesAt CX X σ (E σ))
    (I : Inv X pins σ H s) (r : Vals vs us) (h : sp vs H Q (E σ)) : wpAny (model X.prog X.w) X.A (call (.ref f) us) (EP X pins σ Q) X.xe s :=
  run_fnSD (dvs := []) (ds := []) F hr hb .nil hx I r (by rw [List.append_nil]; exact h)
/-- x op y in a try's body: y of the class, or an int -/
def tOpS (C : Addr) (sp : Sp) (E : St → XK) (ta tb : TE) : TE := fun σ H Q => ta σ H fun x H1 => tb σ H1 fun y H2 => ∃ a dx fs, x = .ref a ∧ H2 a = some (.ins C dx fs) ∧ ((∃ b dy gs, y = .ref b ∧ H2 b = some (.ins C dy gs)) ∨ ∃ i, y = .int i) ∧ sp [x, y] H2 Q (E σ)
theorem pe_opS {op : Operator} (hm : Meth X.K C (PySem.dunder op.info.2) f) (hc : PySem.W.selfFirst X.K C = true) (hi : OwnI X.K C op) (F : FnOk X.prog X.w X.K X.mg X.base CX k f fd ps sp) (hr : Room k X.A) (hb : Binds X.K fd ps []) (hx : ∀ σ, PassesAt CX X σ (E σ))
    {l r : Expr} (ha : PE X l ta) (hb' : PE X r tb) : PE X (.BinOp l op r pos) (tOpS C sp E ta tb) := by
  refine ⟨fun pins s σ H Q I h => ?_⟩
  refine wpAny_BinOp (binT ha hb' I h fun v u s2 x y H2 I2 rx ry q => ?_)
  obtain ⟨a, dx, fs, rfl, ea, hy, q⟩ := q
  obtain rfl : v = Value.ref a := rx
  obtain ⟨od, J⟩ := I2.instAt ea
  obtain ⟨m, fr⟩ := I2.fr
  have run := run_fnS2 F hr hb (hx σ) I2 (.cons (show RelV (.ref a) (Value.ref a) from rfl) (.cons ry .nil)) q
  rcases hy with ⟨b, dy, gs, rfl, eb⟩ | ⟨i, rfl⟩
  · obtain rfl : u = Value.ref b := ry
    obtain ⟨od', J'⟩ := I2.instAt eb
    refine PySem.W.binop_K fr I2.ok.mod.kin J J'.type hc hm.at_ hm.fn (thn run fun w s' q => ?_)
    obtain ⟨v', H', I', rv, q⟩ := q
    exact cmpBack_of rv ⟨v', H', I', rv, q⟩
  · obtain ⟨t, rfl⟩ := (show ∃ t, u = Value.int i t from ry)
    obtain ⟨⟨rc, h1, h2⟩, ⟨fo, h3⟩, ⟨ro, h4⟩, h5⟩ := hi
    refine PySem.W.ksp_binT (T := "int") fr I2.ok.mod.kin J rfl hc hm.at_ hm.fn h1 h2 h3 h4 h5 (thn run fun w s' q => ?_)
    obtain ⟨v', H', I', rv, q⟩ := q
    exact cmpBack_of rv ⟨v', H', I', rv, q⟩
end
end L2
namespace L2
open PySem PySem.Spec PyProof.Rows
section
variable {X : Cx}
theorem rangeSize1 (a b : Int) : Builtin.Range.rangeSize a b 1 = if a < b then b - a else 0 := by
  unfold Builtin.Range.rangeSize
  rw [if_pos (by decide)]
  by_cases h : a < b
  · rw [if_pos h, if_pos h]; omega
  · rw [if_neg h, if_neg h]
theorem q_rlen (r : Addr) (a b : Int) (t u v : Tok) (hz : b - a < 2 ^ 63) :
    Meets (Builtin.«range.__len__» ⟨[.ref r], []⟩) (fun _ R s => s.heap.get? r = some { cls := .type "range", dict := none, data := .fields #[.int a t, .int b u, .int 1 v], slots := #[] } ∧ R (.ok (.ret (.int (if a < b then b - a else 0) s.toks))) { s with toks := s.toks + 1 }) :=
  .of_wp fun prog w A R s h => by
    obtain ⟨hp, g, d, tk, os⟩ := s
    obtain ⟨hl, h⟩ := h
    have hn : ¬ (Builtin.Range.rangeSize a b 1 ≥ 2 ^ 63) := by rw [rangeSize1]; split <;> omega
    wp_walk
    rw [rangeSize1] at hn ⊢
    rw [if_neg hn]
    wp_walk
    exact ⟨_, rfl, h⟩
/-- len(r), r a range with step 1 -/
def rLenRng : List V → Hp → VK → Prop := fun xs H Q => ∃ a lo hi, xs = [.ref a] ∧ H a = some (.rng lo hi) ∧ hi - lo < 2 ^ 63 ∧ Q (.int (if lo < hi then hi - lo else 0)) H
theorem call_lenRng : CallR X (.builtin "len") rLenRng := by
  intro pins s σ H xs us Q I r h
  obtain ⟨a, lo, hi, rfl, ea, hz, q⟩ := h
  obtain ⟨u, rfl, ru⟩ := vals1 r
  obtain rfl : u = Value.ref a := ru
  obtain ⟨t1, t2, t3, ho⟩ := I.hok a _ ea
  refine call_len_slot (T := "range") (n := if lo < hi then hi - lo else 0) ⟨_, ho, rfl⟩ PySem.F.slot_range_len (fun Q' q' => ?_) (by split <;> omega) (by split <;> omega) ⟨.int (if lo < hi then hi - lo else 0), H, (I.tok _), ⟨_, rfl⟩, q⟩
  exact call_meets PySem.F.slot_range_len ⟨_, ho, rfl⟩ PySem.F.entry_range_len (PySem.F.args_range_len_1 _) (q_rlen a lo hi t1 t2 t3 hz) ⟨ho, q'⟩
end
end L2
namespace L2
open PySem PySem.Spec PyProof.Rows
section
variable {X : Cx} {a : Expr} {ta : TE}
/-- * of any two ints whose product the machine takes -/
theorem op_mulX : OpR X (binaryOp .Mult) (rI IntMulOk fun i j => .int (i * j)) := opI fun _ _ _ _ _ _ _ hc q => mul_int q hc
theorem mulL {i j : Int} (h : -(2 ^ 64) < i ∧ i < 2 ^ 64) : IntMulOk i j := CMul.ok (.inl h)
theorem mulR {i j : Int} (h : -(2 ^ 64) < j ∧ j < 2 ^ 64) : IntMulOk i j := CMul.ok (.inr h)
/-- a test by an own truth -/
theorem pt_own {r : V → Hp → (Bool → Hp → Prop) → Prop} (ht : TruR X r) (ha : PE X a ta) (he : ∀ whole, isTrue a X.env whole = (do let v ← whole; standAt a.pos; holding [v] (truthy v)) := by intro _; rfl) :
    PT X a (fun σ H Q => ta σ H fun x H' => r x H' Q) := by
  refine ⟨fun pins s σ H Q I h => ?_⟩
  rw [he]
  refine wpAny_bind (thn (ha.run pins s σ H _ I h) fun v s1 ⟨x, H1, I1, r1, q1⟩ => ?_)
  exact wpAny_bind (wpAny_standAt (wpAny_holding (ht pins s1 σ H1 x v Q I1 r1 q1)))
end
/-- what was tracked stays, but for what stands at p -/
def SameBut (p : Addr) (H H' : Hp) : Prop := ∀ b o, b ≠ p → H b = some o → H' b = some o
theorem SameBut.refl {p : Addr} {H : Hp} : SameBut p H H := fun _ _ _ h => h
theorem SameBut.trans {p : Addr} {H H1 H2 : Hp} (a : SameBut p H H1) (b : SameBut p H1 H2) : SameBut p H H2 := fun c o n h => b c o n (a c o n h)
theorem Same.but {p : Addr} {H H' : Hp} (a : Same H H') : SameBut p H H' := fun c o _ h => a c o h
theorem same_new {H : Hp} {p : Addr} {o : HO} (h : H p = none) : Same H (upd H p o) := fun b u e => by rw [upd_ne (ne_of_none e h)]; exact e
theorem sameBut_upd {H : Hp} {p : Addr} {o : HO} : SameBut p H (upd H p o) := fun b u n e => by rw [upd_ne n]; exact e
theorem Same.seqT {K : PySem.W.Frag} {H H' : Hp} {a : Addr} {xs : List V} (e : Same H H') (h : SqT K H a xs) : SqT K H' a xs := by
  rcases h with (h | ⟨o, h⟩) | h
  · exact .inl (.inl (e _ _ h))
  · exact .inl (.inr ⟨o, e _ _ h⟩)
  · exact .inr h
theorem getMap {xs : List Int} {i : Nat} {y : V} (h : (xs.map V.int)[i]? = some y) : ∃ z, xs[i]? = some z ∧ y = V.int z := by
  rw [List.getElem?_map] at h
  cases e : xs[i]? with
  | none => rw [e] at h; cases h
  | some z => rw [e] at h; exact ⟨z, rfl, (Option.some.inj h).symm⟩
theorem bitsMul {i j : Int} (hi : Builtin.Int.intBits i ≤ 1048576) (hj : Builtin.Int.intBits j ≤ 1048576) : IntMulOk i j := IntMulOk.of_le hi hj (by decide)

theorem iteD {p : Prop} [Decidable p] {A B : Prop} (h1 : p → A) (h2 : ¬ p → B) : if decide p = true then A else B := by
  by_cases h : p
  · rw [decide_eq_true h, if_pos rfl]; exact h1 h
  · rw [decide_eq_false h, if_neg Bool.false_ne_true]; exact h2 h
theorem iteDN {p : Prop} [Decidable p] {A B : Prop} (h1 : p → B) (h2 : ¬ p → A) : if (!decide p) = true then A else B := by
  by_cases h : p
  · rw [decide_eq_true h]; exact iteF (h1 h)
  · rw [decide_eq_false h]; exact iteT (h2 h)
theorem qd {Q : VK} {H : Hp} {p q : Prop} [Decidable p] [Decidable q] (e : p ↔ q) (h : Q (.bl (decide p)) H) : Q (.bl (decide q)) H := by
  have z : decide p = decide q := by
    by_cases c : p
    · rw [decide_eq_true c, decide_eq_true (e.mp c)]
    · rw [decide_eq_false c, decide_eq_false fun y => c (e.mpr y)]
  rw [← z]; exact h
theorem qt {Q : VK} {H : Hp} {p : Prop} [Decidable p] (c : p) (h : Q (.bl (decide p)) H) : Q (.bl true) H := by
  rw [decide_eq_true c] at h; exact h
theorem qf {Q : VK} {H : Hp} {p : Prop} [Decidable p] (c : ¬ p) (h : Q (.bl (decide p)) H) : Q (.bl false) H := by
  rw [decide_eq_false c] at h; exact h

/-! ### the pool of draws -/
/-- the list of the pool: four ints, then ints of at least 1 -/
def poolL (a b c n : Int) (bs : List Int) : List V := [.int a, .int b, .int c, .int n] ++ bs.map V.int
def PoolAt (H : Hp) (p : Addr) : Prop := ∃ a b c n bs, H p = some (.lst (poolL a b c n bs)) ∧ bs.length ≤ 63 ∧ ∀ z ∈ bs, 1 ≤ z
theorem pool_len (a b c n : Int) (bs : List Int) : (poolL a b c n bs).length = 4 + bs.length := by
  unfold poolL; rw [List.length_append, List.length_map]; rfl
theorem pool_at0 {a b c n : Int} {bs : List Int} : atI (poolL a b c n bs) 0 = some (.int a) := atI_nat (j := 0) rfl
theorem pool_at1 {a b c n : Int} {bs : List Int} : atI (poolL a b c n bs) 1 = some (.int b) := atI_nat (j := 1) rfl
theorem pool_at2 {a b c n : Int} {bs : List Int} : atI (poolL a b c n bs) 2 = some (.int c) := atI_nat (j := 2) rfl
theorem pool_at3 {a b c n : Int} {bs : List Int} : atI (poolL a b c n bs) 3 = some (.int n) := atI_nat (j := 3) rfl
theorem pool_at4 {a b c n z : Int} {bs : List Int} : atI (poolL a b c n (z :: bs)) 4 = some (.int z) := atI_nat (j := 4) rfl
theorem ixN_of {n : Nat} {j : Nat} (h : j < n) : ixN n (j : Int) = some j := by
  unfold ixN
  rw [if_pos (by omega), if_pos (by omega)]
  simp
theorem pool_ix {a b c n : Int} {bs : List Int} (j : Nat) (h : j < 4) : ixN (poolL a b c n bs).length (j : Int) = some j := ixN_of (by rw [pool_len]; omega)
theorem pool_ix4 {a b c n z : Int} {bs : List Int} : ixN (poolL a b c n (z :: bs)).length 4 = some 4 := ixN_of (j := 4) (by rw [pool_len, List.length_cons]; omega)
theorem pool_seq4 {a b c n z : Int} {bs : List Int} : seqIndex? 4 (poolL a b c n (z :: bs)).length = some 4 := (ixN_seq pool_ix4).1
theorem PoolAt.of {H : Hp} {p : Addr} {a b c n : Int} {bs : List Int} (h : H p = some (.lst (poolL a b c n bs))) (hl : bs.length ≤ 63) (hz : ∀ z ∈ bs, 1 ≤ z) : PoolAt H p := ⟨a, b, c, n, bs, h, hl, hz⟩
theorem PoolAt.mono {H H' : Hp} {p : Addr} (h : PoolAt H p) (e : Same H H') : PoolAt H' p := let ⟨a, b, c, n, bs, q, hl, hz⟩ := h; ⟨a, b, c, n, bs, e _ _ q, hl, hz⟩
theorem PoolAt.ne {H : Hp} {p q : Addr} (h : PoolAt H p) (hq : H q = none) : p ≠ q := let ⟨_, _, _, _, _, e, _, _⟩ := h; ne_of_none e hq
theorem same_of_but {H H' : Hp} {p : Addr} (hp : H p = none) (s : SameBut p H H') : Same H H' := fun b o e => s b o (ne_of_none e hp) e
theorem dp2 {K : PySem.W.Frag} {H : Hp} {t : Addr} {a b : Int} (h : SqT K H t [.int a, .int b]) : Dp K H (.ref t) (.tuple [.int a, .int b]) := .tup h (.cons (.int a) (.cons (.int b) .nil))
theorem eqv2 (a b : Int) : PyData.eqv (.tuple [.int a, .int b]) (.tuple [.int a, .int b]) = true := by simp [PyData.eqv, PyData.eqvAll]
theorem eqv22 (a b c d : Int) : PyData.eqv (.tuple [.int a, .int b]) (.tuple [.int c, .int d]) = decide (a = c ∧ b = d) := by
  simp [PyData.eqv, PyData.eqvAll, Bool.decide_and]
  try rfl
theorem andV_two {p q : Prop} [Decidable p] [Decidable q] {Qk : VK} {σ : L2.St} {H : Hp} {tb : TE} (h1 : Qk (.bl (decide q)) H → tb σ H Qk) (h : Qk (.bl (decide p && decide q)) H) : if decide p = true then tb σ H Qk else Qk (.bl false) H := by
  by_cases c : p
  · rw [decide_eq_true c] at h ⊢; exact h1 h
  · rw [decide_eq_false c] at h ⊢; rw [if_neg Bool.false_ne_true]; exact h
theorem notFirst_self {K : PySem.W.Frag} {C : Addr} : PySem.W.notFirst K C (.ref C) = true := by unfold PySem.W.notFirst; simp
def spPool (K : PySem.W.Frag) : Sp := fun vs H Q _ => ∃ (a : Addr) (ns : List Int), vs = [.ref a] ∧ SqL K H a (ns.map V.int) ∧ ns.length ≤ 63 ∧ (∀ z ∈ ns, Builtin.Int.intBits z ≤ 1048576) ∧
  ∀ p H', H p = none → PoolAt H' p → SameBut p H H' → Q (.ref p) H'
def spDraw : Sp := fun vs H Q _ => ∃ (p : Addr) (m : Int), vs = [.ref p, .int m] ∧ PoolAt H p ∧ 1 ≤ m ∧ m < 1073741824 ∧ ∀ r H', 0 ≤ r → r < m → PoolAt H' p → SameBut p H H' → Q (.int r) H'

/-! ### the rules that speak of K, by the K at hand -/
section
variable {X : Cx} {o e : Expr} {ta tl : TE} {tg : Expr} {f : Str} {pos : Pos}
theorem op_eqDK (K : PySem.W.Frag) (hu : X.A.units + 64 < cLine) (hK : X.K = K := by rfl) : OpR X (compareOp .Eq) (rEqD K) := hK ▸ op_eqD hu
theorem op_neDK (K : PySem.W.Frag) (hu : X.A.units + 64 < cLine) (hK : X.K = K := by rfl) : OpR X (compareOp .NotEq) (rNeD K) := hK ▸ op_neD hu
theorem ix_tupK (K : PySem.W.Frag) (hK : X.K = K := by rfl) : IxR X (rIxT K) := hK ▸ ix_tup
theorem ix_listK (K : PySem.W.Frag) (hK : X.K = K := by rfl) : IxR X (rIxL K) := hK ▸ ix_list
theorem pe_fldK (K : PySem.W.Frag) (he : PE X e ta) (hb : attributeBase e f X.env (eval e X.env) = eval e X.env) (hK : X.K = K := by rfl) : PE X (.Attribute e f pos) (tFld K ta f) := hK ▸ pe_fld he hb
theorem op_in_seqK (K : PySem.W.Frag) (hK : X.K = K := by rfl) : OpR X (compareOp .In) (rIn K false) := hK ▸ op_in_seq
theorem op_notIn_seqK (K : PySem.W.Frag) (hK : X.K = K := by rfl) : OpR X (compareOp .NotIn) (rIn K true) := hK ▸ op_notIn_seq
theorem call_isiK' (K : PySem.W.Frag) (hK : X.K = K := by rfl) : CallR X (.builtin "isinstance") (rIsi K) := hK ▸ call_isi
theorem pi_listK (K : PySem.W.Frag) (hl : PE X o tl) (hK : X.K = K := by rfl) : PI X tg o (iList K tl) := hK ▸ pi_list hl
theorem pi_tupK (K : PySem.W.Frag) (hl : PE X o tl) (hK : X.K = K := by rfl) : PI X tg o (iTup K tl) := hK ▸ pi_tup hl
def rLenSq (K : PySem.W.Frag) : List V → Hp → VK → Prop := fun xs H Q => ∃ p ys, xs = [.ref p] ∧ (SqL K H p ys ∨ SqT K H p ys) ∧ Q (.int ys.length) H
theorem call_len_seqK (K : PySem.W.Frag) (hK : X.K = K := by rfl) : CallR X (.builtin "len") (rLenSq K) := hK ▸ call_len_seq
end
theorem kit_same {K : PySem.W.Frag} {t : Value} : PySem.W.kitOne K t t = some true := by
  unfold PySem.W.kitOne
  rw [if_pos (by simp)]
theorem kit_sub {K : PySem.W.Frag} {t C : Addr} {b : Bool} (hd : PySem.W.hasDictIn K C = true) (ty : PySem.W.typeIn K (.ref C) = some (.type "type")) (self : PySem.W.subIn K (.ref C) (.ref C) = some true) (h : PySem.W.subIn K (.ref t) (.ref C) = some b) :
    PySem.W.kitOne K (.ref t) (.ref C) = some b := by
  unfold PySem.W.kitOne
  by_cases e : t = C
  · subst e
    rw [if_pos (by simp)]
    exact self.symm.trans h
  · rw [if_neg (by simpa using e)]
    obtain ⟨cd, hc, _⟩ := PySem.W.any_some hd
    have e2 : ((PySem.W.clsIn K C).isSome && PySem.W.typeIn K (.ref C) == some (.type "type")) = true := by rw [hc, ty] <;> rfl
    show (if ((PySem.W.clsIn K C).isSome && PySem.W.typeIn K (.ref C) == some (.type "type")) = true then PySem.W.subIn K (.ref t) (.ref C) else none) = some b
    rw [if_pos e2]
    exact h
theorem kit_base {K : PySem.W.Frag} {t : Addr} {T : String} {b : Bool} (hm : PySem.W.kitMeta T = true) (h : PySem.W.subIn K (.ref t) (.type T) = some b) : PySem.W.kitOne K (.ref t) (.type T) = some b := by
  unfold PySem.W.kitOne
  rw [if_neg (by simp)]
  show (if PySem.W.kitMeta T = true then PySem.W.subIn K (.ref t) (.type T) else none) = some b
  rw [if_pos hm]
  exact h
end L2
namespace L2
open PySem PySem.Spec PyProof.Rows
theorem dec_add (i : Int) (t : Tok) (a C dx : Addr) : Meets (Builtin.«int.__add__» ⟨[.int i t, .ref a], []⟩) (fun _ R s => s.heap.get? a = some (PySem.W.instObj C dx) ∧ R (.ok (.ret .notImplemented)) s) :=
  .of_wp fun prog w A R s h => by obtain ⟨hp, g, d, tk, os⟩ := s; obtain ⟨hl, h⟩ := h; unfold PySem.W.instObj at hl; wp_walk; exact ⟨_, rfl, h⟩
theorem dec_sub (i : Int) (t : Tok) (a C dx : Addr) : Meets (Builtin.«int.__sub__» ⟨[.int i t, .ref a], []⟩) (fun _ R s => s.heap.get? a = some (PySem.W.instObj C dx) ∧ R (.ok (.ret .notImplemented)) s) :=
  .of_wp fun prog w A R s h => by obtain ⟨hp, g, d, tk, os⟩ := s; obtain ⟨hl, h⟩ := h; unfold PySem.W.instObj at hl; wp_walk; exact ⟨_, rfl, h⟩
theorem dec_mul (i : Int) (t : Tok) (a C dx : Addr) : Meets (Builtin.«int.__mul__» ⟨[.int i t, .ref a], []⟩) (fun _ R s => s.heap.get? a = some (PySem.W.instObj C dx) ∧ R (.ok (.ret .notImplemented)) s) :=
  .of_wp fun prog w A R s h => by obtain ⟨hp, g, d, tk, os⟩ := s; obtain ⟨hl, h⟩ := h; unfold PySem.W.instObj at hl; wp_walk; exact ⟨_, rfl, h⟩
theorem dec_eq (i : Int) (t : Tok) (a C dx : Addr) : Meets (Builtin.«int.__eq__» ⟨[.int i t, .ref a], []⟩) (fun _ R s => s.heap.get? a = some (PySem.W.instObj C dx) ∧ R (.ok (.ret .notImplemented)) s) :=
  .of_wp fun prog w A R s h => by obtain ⟨hp, g, d, tk, os⟩ := s; obtain ⟨hl, h⟩ := h; unfold PySem.W.instObj at hl; wp_walk; exact ⟨_, rfl, h⟩

/-- what the classes say of an operator with an int on the left -/
structure IntOp (op : Operator) (B : Builtin) (id : String) : Prop where
  fills : fillsNumberSlot (.type "int") op.info.2 = pure true
  slot : Slot "int" (PySem.dunder op.info.2) id
  entry : entryFor table id = some B
  args : ∀ a b, argsOk id ⟨[a, b], []⟩
  dec : ∀ (i : Int) (t : Tok) (a C dx : Addr), Meets (B ⟨[.int i t, .ref a], []⟩) (fun _ R s => s.heap.get? a = some (PySem.W.instObj C dx) ∧ R (.ok (.ret .notImplemented)) s)
theorem intAdd : IntOp .Add Builtin.«int.__add__» "int.__add__" := ⟨F.fills_int_add, F.slot_int_add, F.entry_int_add, F.args_int_add_2, dec_add⟩
theorem intSub : IntOp .Sub Builtin.«int.__sub__» "int.__sub__" := ⟨F.fills_int_sub, F.slot_int_sub, F.entry_int_sub, F.args_int_sub_2, dec_sub⟩
theorem intMul : IntOp .Mult Builtin.«int.__mul__» "int.__mul__" := ⟨F.fills_int_mul, F.slot_int_mul, F.entry_int_mul, F.args_int_mul_2, dec_mul⟩
open PySem.W in
theorem binop_IK {prog : Program} {w : World} {A : Around} {E : Value → Shared → Prop} {s : Shared} {K : Frag} {x C L f f0 dx : Addr} {h₀ : Heap} {m : Str → Option Value} {od : Option Obj} {op : Operator} {B : Builtin} {id : String} {i : Int} {t : Tok} {Q : Value → Shared → Prop} (J : IntOp op B id)
    (Fr0 : Fr h₀ L s.heap m) (X₀ : K.In h₀) (I : PySem.W.InstAt s.heap x (PySem.W.instObj C dx) C od) (hc : selfFirst K C = true) (hs : findIn K (.ref C) (PySem.dunder op.info.2) = some (some (.ref f0)))
    (hr : findIn K (.ref C) (dunderR op.info.2) = some (some (.ref f))) (hf : isFn K (.ref f) = true) (hsub : subIn K (.ref C) (.type "int") = some false)
    (h : wpAny (model prog w) A (call (.ref f) [.ref x, .int i t]) (PySem.W.CmpBack Q) E s) : wpAny (model prog w) A (binaryOp op (.int i t) (.ref x)) Q E s := by
  have X := X₀.keeps Fr0.keep
  obtain ⟨cd, rest, hcd, hm⟩ := ksp_first hc
  obtain ⟨hfT, slot, entry, args, dec⟩ := J
  rcases hi : op.info with ⟨sym, nm⟩
  rw [hi] at hs hr hfT slot
  dsimp only at hs hr hfT slot
  have hne : (Value.type "int" == Value.ref C) = false := Bool.eq_false_iff.mpr fun q => by cases beq_iff_eq.mp q
  simp only [binaryOp, hi]
  refine wpAny_holding (wpAny_bind ?_)
  unfold binaryOp1
  refine wpAny_bind (wpAny_typeOf (show s.TypeIs (.int i t) "int" from rfl) (wpAny_bind (I.type.here (wpAny_bind (wpAny_of_eq hfT ?_)))))
  simp only [hne, Bool.false_eq_true, if_false]
  refine wpAny_bind ((fills_K X hcd hm hs).here ?_)
  simp only [Bool.and_self, if_true]
  refine wpAny_bind ((looks_subIn X hsub).here ?_)
  have hpy : numberSlotInPython (.type "int") nm = pure false := rfl
  simp only [Bool.false_eq_true, if_false, pure_bind, Bool.not_false, Bool.and_self, if_true, hpy]
  refine wpAny_bind (wpAny_tryMethod_declines (T := "int") rfl slot (call_meets slot rfl entry (args _ _) (dec i t x C dx) ⟨I.at_, rfl, ?_⟩))
  show wpAny _ _ (tryMethod (.ref x) (dunderR nm) (.int i t) >>= _) _ _ _
  refine wpAny_bind (wpAny_mono (ksp_try X I hr hf h) (fun r s' hq => ?_) fun _ _ z => z)
  obtain ⟨v, rfl, q⟩ := hq
  first | exact wpAny_bind (wpAny_rule (wpAny_pure (wpAny_pure q))) | exact wpAny_rule (wpAny_pure (wpAny_pure q)) | exact wpAny_bind (wpAny_rule (wpAny_pure q))
open PySem.W in
theorem eq_IK {prog : Program} {w : World} {A : Around} {E : Value → Shared → Prop} {s : Shared} {K : Frag} {x C L f dx : Addr} {h₀ : Heap} {m : Str → Option Value} {od : Option Obj} {i : Int} {t : Tok} {Q : Value → Shared → Prop} (hu : A.units < cLine)
    (Fr0 : Fr h₀ L s.heap m) (X₀ : K.In h₀) (I : PySem.W.InstAt s.heap x (PySem.W.instObj C dx) C od) (hs : findIn K (.ref C) "__eq__" = some (some (.ref f))) (hf : isFn K (.ref f) = true) (hsub : subIn K (.ref C) (.type "int") = some false)
    (h : wpAny (model prog w) A (call (.ref f) [.ref x, .int i t]) (PySem.W.CmpBack Q) E s) : wpAny (model prog w) A (richCompare .Eq (.int i t) (.ref x)) Q E s := by
  have X := X₀.keeps Fr0.keep
  have one : wpAny (model prog w) A (tryCompare (.ref x) "__eq__" (.int i t)) (fun r s' => ∃ v, r = some v ∧ Q v s') E s := by
    unfold tryCompare
    refine wpAny_bind (ifBound_K X I hs hf (wpAny_mono h (fun v s' hv => ?_) fun _ _ e => e))
    cases v <;> first | exact hv.elim | exact wpAny_pure ⟨_, rfl, hv⟩
  have hne : (Value.type "int" != Value.ref C) = true := by
    have : (Value.type "int" == Value.ref C) = false := Bool.eq_false_iff.mpr fun q => by cases beq_iff_eq.mp q
    simp [bne, this]
  unfold richCompare
  refine wpAny_holding (wpAny_bind (wpAny_cRoomFor hu ?_))
  have ho : oneThing? .Eq (.int i t) (.ref x) = none := rfl
  rw [ho]
  refine wpAny_bind (wpAny_typeOf (show s.TypeIs (.int i t) "int" from rfl) (wpAny_bind (I.type.here ?_)))
  rw [if_pos hne]
  refine wpAny_bind ((looks_subIn X hsub).here ?_)
  simp only [Bool.false_eq_true, if_false]
  refine wpAny_bind (wpAny_tryCompare_declines (T := "int") rfl PySem.F.slot_int_eq (call_meets PySem.F.slot_int_eq rfl PySem.F.entry_int_eq (PySem.F.args_int_eq_2 _ _) (dec_eq i t x C dx) ⟨I.at_, rfl, ?_⟩))
  simp only [Bool.not_false, if_true]
  refine wpAny_bind (wpAny_mono one (fun r s' hq => ?_) fun _ _ z => z)
  obtain ⟨v, rfl, q⟩ := hq
  exact wpAny_pure q
section
variable {X : Cx} {CX : CXT} {k : Nat} {f f0 C : Addr} {fd : FuncData} {ps : List Str} {sp : Sp} {E : XK}
/-- i op x, an int on the left: x's reflected method at (x, i) -/
def rIOwn (C : Addr) (sp : Sp) (E : XK) : R2 := fun y x H Q => ∃ a dx fs i, x = .ref a ∧ H a = some (.ins C dx fs) ∧ y = .int i ∧ sp [x, y] H Q E
theorem op_iown {op : Operator} {B : Builtin} {id : String} (J : IntOp op B id) (hm0 : Meth X.K C (PySem.dunder op.info.2) f0) (hm : Meth X.K C (dunderR op.info.2) f) (hc : PySem.W.selfFirst X.K C = true) (hsub : PySem.W.subIn X.K (.ref C) (.type "int") = some false)
    (F : FnOk X.prog X.w X.K X.mg X.base CX k f fd ps sp) (hr : Room k X.A) (hb : Binds X.K fd ps []) (hx : Passes CX X E) : OpR X (binaryOp op) (rIOwn C sp E) := by
  intro pins s σ H y x v u Q I ry rx h
  obtain ⟨a, dx, fs, i, rfl, ea, rfl, h⟩ := h
  obtain rfl : u = Value.ref a := rx
  obtain ⟨t, rfl⟩ := (show ∃ t, v = Value.int i t from ry)
  obtain ⟨od, Ia⟩ := I.instAt ea
  obtain ⟨m, fr⟩ := I.fr
  refine binop_IK J fr I.ok.mod.kin Ia hc hm0.at_ hm.at_ hm.fn hsub (thn (run_fnA (us := [.ref a, .int i t]) (vs := [.ref a, .int i]) (dvs := []) rfl F hr hb .nil hx I (.cons rfl (.cons ⟨t, rfl⟩ .nil)) h) fun w s' q => ?_)
  obtain ⟨v', H', I', rv, q⟩ := q
  exact cmpBack_of rv ⟨v', H', I', rv, q⟩
theorem op_ieq (hm : Meth X.K C "__eq__" f) (hsub : PySem.W.subIn X.K (.ref C) (.type "int") = some false)
    (F : FnOk X.prog X.w X.K X.mg X.base CX k f fd ps sp) (hr : Room k X.A) (hb : Binds X.K fd ps []) (hx : Passes CX X E) : OpR X (compareOp .Eq) (rIOwn C sp E) := by
  intro pins s σ H y x v u Q I ry rx h
  obtain ⟨a, dx, fs, i, rfl, ea, rfl, h⟩ := h
  obtain rfl : u = Value.ref a := rx
  obtain ⟨t, rfl⟩ := (show ∃ t, v = Value.int i t from ry)
  obtain ⟨od, Ia⟩ := I.instAt ea
  obtain ⟨m, fr⟩ := I.fr
  show wpAny _ _ (richCompare .Eq (.int i t) (.ref a)) _ _ _
  refine eq_IK hr.units0 fr I.ok.mod.kin Ia hm.at_ hm.fn hsub (thn (run_fnA (us := [.ref a, .int i t]) (vs := [.ref a, .int i]) (dvs := []) rfl F hr hb .nil hx I (.cons rfl (.cons ⟨t, rfl⟩ .nil)) h) fun w s' q => ?_)
  obtain ⟨v', H', I', rv, q⟩ := q
  exact cmpBack_of rv ⟨v', H', I', rv, q⟩
end
/-- // by any divisor but 0, of less than 9000 bits -/
theorem op_fdivX {X : Cx} : OpR X (binaryOp .FloorDiv) (rI (fun _ j => j ≠ 0 ∧ j.natAbs.log2 < 9000) fun i j => .int (i.fdiv j)) := opI fun i j _ _ _ _ _ hc q => floordiv_int hc.1 q (.inl (PyProof.noPylong_of_log2 hc.2))
section
variable {X : Cx} {CX : CXT} {k : Nat} {f C : Addr} {fd : FuncData} {ps : List Str} {sp : Sp} {E : XK}
/-- abs(x), by an own __abs__ -/
def rAbsOwn (C : Addr) (sp : Sp) (E : XK) : List V → Hp → VK → Prop := fun xs H Q => ∃ a dx fs, xs = [.ref a] ∧ H a = some (.ins C dx fs) ∧ sp [.ref a] H Q E
theorem call_absOwn (hm : Meth X.K C "__abs__" f) (Fk : FnOk X.prog X.w X.K X.mg X.base CX k f fd ps sp) (hr : Room (k + 1) X.A) (hb : Binds X.K fd ps []) (hx : Passes CX X E) : CallR X (.builtin "abs") (rAbsOwn C sp E) := by
  intro pins s σ H xs us Q I r h
  obtain ⟨a, dx, fs, rfl, ea, h⟩ := h
  obtain ⟨u, rfl, ru⟩ := vals1 r
  obtain rfl : u = Value.ref a := ru
  obtain ⟨od, J⟩ := I.instAt ea
  refine PySem.Calls.call_function_entry kind_abs plain_abs entry_abs (args_abs _) ?_
  unfold Builtin.«abs»
  refine wpAny_bind (m := oneArg "abs" _) (wpAny_pure ?_)
  refine wpAny_bind (m := callSpecial? (.ref a) (Str.ofString "__abs__")) (PySem.W.special_fn I.kIn J hm.at_ (beq_iff_eq.mp hm.fn) (thn (run_fnA (A := X.A.in1) (us := [.ref a]) (vs := [.ref a]) (dvs := []) rfl Fk hr.in1 hb .nil hx I (.cons rfl .nil) h) fun w s' q => ?_))
  exact wpAny_pure ⟨_, rfl, q⟩
end
theorem kit_tb {K : PySem.W.Frag} {C : Addr} {T : String} {b : Bool} (hd : PySem.W.hasDictIn K C = true) (ty : PySem.W.typeIn K (.ref C) = some (.type "type")) (h : PySem.W.subIn K (.type T) (.ref C) = some b) : PySem.W.kitOne K (.type T) (.ref C) = some b := by
  unfold PySem.W.kitOne
  rw [if_neg (by simp)]
  obtain ⟨cd, hc, _⟩ := PySem.W.any_some hd
  have e2 : ((PySem.W.clsIn K C).isSome && PySem.W.typeIn K (.ref C) == some (.type "type")) = true := by rw [hc, ty] <;> rfl
  show (if ((PySem.W.clsIn K C).isSome && PySem.W.typeIn K (.ref C) == some (.type "type")) = true then PySem.W.subIn K (.type T) (.ref C) else none) = some b
  rw [if_pos e2]
  exact h
theorem notFirst_ty {K : PySem.W.Frag} {C : Addr} {T : String} (h : PySem.W.subIn K (.type T) (.ref C) = some false) : PySem.W.notFirst K C (.type T) = true := by unfold PySem.W.notFirst; rw [h]; simp
theorem binds_none {K : PySem.W.Frag} {fd : FuncData} {ps : List Str} (h : ∃ ds, Vals ([] : List V) ds ∧ Binds K fd ps ds) : Binds K fd ps [] := by
  obtain ⟨ds, r, b⟩ := h
  cases r
  exact b
end L2
namespace L2
open PySem PySem.Spec PyProof.Rows
section
variable {X : Cx} {CX : CXT} {k : Nat} {f C : Addr} {fd : FuncData} {ps : List Str} {sp : Sp} {E : St → XK} {m : Str} {pos apos : Pos} {e o : Expr} {es : List Expr} {ta : TE} {t : TA}
/-- o.m(e, ..) in a try's body -/
def tMethT (C : Addr) (m : Str) (sp : Sp) (E : St → XK) (ta : TE) (t : TA) : TE := fun σ H Q => ta σ H fun x H1 => ∃ a dx fs, x = .ref a ∧ H1 a = some (.ins C dx fs) ∧ fs.lookup m = none ∧ t σ H1 fun vs H2 => sp (x :: vs) H2 Q (E σ)
theorem pe_methT {pl : Sem Bool} (he : PE X o ta) (c : Cls X.K C) (hm : Meth X.K C m f) (F : FnOk X.prog X.w X.K X.mg X.base CX k f fd ps sp) (hr : Room k X.A) (hb : Binds X.K fd ps []) (hx : ∀ σ, PassesAt CX X σ (E σ)) (ha : PA X (e :: es) t)
    (hst : starEach (e :: es) X.env = (false, eval e X.env) :: starEach es X.env := by rfl) (hpl : (backTo pos (starEach es X.env)).any (·.1) = false := by rfl)
    (ht : eval (.Call (.Attribute o m apos) (e :: es) [] pos) X.env = (do
      let ov ← eval o X.env
      standAt apos.atName
      let (f, first) ← holding [ov] (getMethod ov m pl)
      callWith pos f first (backTo pos (starEach (e :: es) X.env)) (backToKw pos (keywordEach [] X.env))) := by rfl) :
    PE X (.Call (.Attribute o m apos) (e :: es) [] pos) (tMethT C m sp E ta t) := by
  refine ⟨fun pins s σ H Q I h => ?_⟩
  refine PySem.W.methodCall_KW (pl := pl) (thn (he.run pins s σ H _ I h) fun u s1 ⟨x, H1, I1, rx, a, dx, fs, ex, ea, l, q⟩ => ?_) ht
  subst ex
  obtain rfl : u = Value.ref a := rx
  refine getmeth_ok I1 ea c hm l ?_
  refine PySem.W.callWith_K (first := [.ref a]) (h₀ := X.base) I.ok.mod.kin hm.kp (thn (ha.run pos pins s1 σ H1 _ I1 q) fun us s2 ⟨vs, H2, I2, r, q2⟩ => ⟨I2.kIn, ?_⟩) hst hpl
  exact run_fnS2 (us := .ref a :: us) (vs := .ref a :: vs) F hr hb (hx σ) I2 (.cons rfl r) q2
end
theorem op_two {X : Cx} {op : Operator} {r1 r2 : R2} (h1 : OpR X (binaryOp op) r1) (h2 : OpR X (binaryOp op) r2) : OpR X (binaryOp op) (fun x y H Q => r1 x y H Q ∨ r2 x y H Q) := by
  intro pins s σ H x y v u Q I rx ry h
  rcases h with h | h
  · exact h1 _ _ _ _ _ _ _ _ _ I rx ry h
  · exact h2 _ _ _ _ _ _ _ _ _ I rx ry h
end L2
/-! errors whose context is None, so that their handler may call defs that loop -/
namespace L2
open PySem PySem.Spec PyProof.Rows L2H
theorem Fun.okH {P : Program} {w : World} {K : PySem.W.Frag} {mg : Str → Option Value} {base : Heap} {x qual : Str} {st : Stmt} {f : Addr} {fd : FuncData} {N ps : List Str} {k : Nat} {sp : Sp} (F : Fun K x qual st f fd) (S : FnScope N ps (defScope st)) (len : ∀ vs H Q E, sp vs H Q E → vs.length = ps.length)
    (hbody : ∀ (cdv : Value) (A : Around) (outer : List Env) (s : Shared) (H : Hp) (vs : List V) (Q : VK) (E : XK) (p : Addr × Obj), Hot1 A p → RoomH k (A.deeper (envOfC qual (defScope st) s.heap.objs.size f cdv)) → sp vs H Q E →
      ∃ t, PSs (cxH CX0 P w K mg base N qual (defScope st) f cdv A outer s H E p).nox (defBody st) t ∧ t { nx := fun _ H' => Q .non H', rt := Q } (start N vs) H) : FnH P w K mg base CX0 (k + 1) f fd ps sp := by
  obtain ⟨oc, od, kV, doc, pm, an, cdv, ct, osl, rfl, lk, hcd⟩ := F.ex
  refine fn_ofH lk hcd S len fun A outer s H vs Q E p hot hr hsp => ?_
  obtain ⟨t, h, q⟩ := hbody cdv A outer s H vs Q E p hot hr hsp
  exact ⟨t, h.nox, q⟩
theorem hotC_in {CX : CXT} {P : Program} {w : World} {K : PySem.W.Frag} {mg : Str → Option Value} {base : Heap} {N : List Str} {qual : Str} {scope : Scope} {f : Addr} {cd : Value} {A : Around} {outer : List Env} {s : Shared} {H : Hp} {E : XK} {p : Addr × Obj} (h : Hot1 A p) : HotC (cxH CX P w K mg base N qual scope f cd A outer s H E p).nox :=
  ⟨p, ⟨h.1, h.2⟩, List.mem_singleton.mpr rfl⟩
theorem hotC_suite {X : Cx} {a : Addr} {cls : Value} {d : Option Addr} {oe : Obj} {pn : List (Addr × Obj)} (hz : L2N.Zn cls d oe) (hf : ∃ vs, oe.data = .fields vs) : HotC (X.suite a ((a, oe) :: pn)) := by
  obtain ⟨vs, e⟩ := hf
  exact ⟨(a, oe), ⟨rfl, vs, e, hz.2.2 vs e⟩, List.mem_cons_self⟩
theorem passH0 {X : Cx} : ∀ σ : L2.St, PassesAt CX0 X σ ((fun _ => E0) σ) := fun _ _ _ _ _ _ _ h => h.elim
theorem roomH_suite {X : Cx} {k j : Nat} {a : Addr} {pn : List (Addr × Obj)} (r : Room k X.A) (h : j ≤ k) : RoomH j (X.suite a pn).A := roomH_mark (r.mono h) _
theorem Fun.okXN {P : Program} {w : World} {K : PySem.W.Frag} {mg : Str → Option Value} {base : Heap} {x qual : Str} {st : Stmt} {f : Addr} {fd : FuncData} {N ps : List Str} {k : Nat} {sp : Sp} (F : Fun K x qual st f fd) (S : FnScope N ps (defScope st)) (len : ∀ vs H Q E, sp vs H Q E → vs.length = ps.length)
    (hbody : ∀ (cdv : Value) (A : Around) (outer : List Env) (s : Shared) (H : Hp) (vs : List V) (Q : VK) (E : XK), Room k (A.deeper (envOfC qual (defScope st) s.heap.objs.size f cdv)) → sp vs H Q E →
      ∃ t, PSs (cxOf (L2N.CX P w) P w K mg base N qual (defScope st) f cdv A outer s H E) (defBody st) t ∧ t { nx := fun _ H' => Q .non H', rt := Q } (start N vs) H) : FnOk P w K mg base (L2N.CX P w) (k + 1) f fd ps sp := by
  obtain ⟨oc, od, kV, doc, pm, an, cdv, ct, osl, rfl, lk, hcd⟩ := F.ex
  exact fn_of lk hcd S len fun A outer s H vs Q E hr hsp => hbody cdv A outer s H vs Q E hr hsp
theorem passLN {X : Cx} : Passes (L2N.CX X.prog X.w) X E0 := fun _ _ _ _ _ _ _ h => by
  obtain ⟨_, _, _, _, _, _, _, _, _, _, _, _, z⟩ := h
  exact z.elim
theorem takes0N {X : Cx} : L2N.Takes X (fun _ _ _ _ => False) := fun _ _ x => by
  obtain ⟨_, _, _, _, _, _, _, _, _, _, _, _, _, _, _, _, z⟩ := x
  exact z.elim
section
variable {X : Cx} {CX : CXT} {x : Str} {C fI : Addr} {k : Nat} {fd : FuncData} {ps : List Str} {sp : Sp} {e : Expr} {es : List Expr} {ta : TA} {p pos : Pos}
/-- C(e, ..) of an error class whose __init__ is our own -/
theorem pmk_oexN (T : OexC X.K C) (iC : PySem.W.findIn X.K (.ref C) "__init__" = some (some (.ref fI))) (tI : PySem.W.typeIn X.K (.ref fI) = some (.type "function"))
    (F1 : FnOk X.prog X.w X.K X.mg X.base CX k fI fd ps sp) (hr : Room (k + 1) X.A) (hb : Binds X.K fd ps []) (hx : Passes CX X (fun _ _ _ => False)) (hg : Gl X x) (hm : X.mg x = some (.ref C)) (ha : PA X (e :: es) ta)
    (hdb : (x == ("__debug__" : Str)) = false := by decide) (he : starEach (e :: es) X.env = (false, eval e X.env) :: starEach es X.env := by rfl) (hpl : (backTo pos (starEach es X.env)).any (·.1) = false := by rfl) :
    L2N.PMk X (.Call (.Name x p) (e :: es) [] pos) (tMkO C sp [] ta) := by
  intro pins s σ H Q I h
  obtain ⟨nm, q, N, bs, bm, sn, sub, ab, col, dd, k0, k1, k2, k3, k5, hC, hbm⟩ := T.cls
  refine wpAny_Call_Name_kw (ld_glob I hg hm ?_ hdb)
  refine PySem.W.callWith_K (h₀ := X.base) I.ok.mod.kin T.kC (thn (ha.run pos pins s σ H _ I h) fun us s1 ⟨vs, H1, I1, r1, hz, q1⟩ => ⟨I1.kIn, ?_⟩) he hpl
  show wpAny _ _ (call (.ref C) us) _ _ _
  obtain ⟨hp, g, dr, tk, os⟩ := s1
  have hq := q1 (hp.objs.size + 1) (I1.hok.fresh (Nat.le_succ _))
  rw [List.append_nil] at hq
  have kk : ∀ b o, hp.get? b = some o → ((hp.push (PySem.W.kdv_tup us)).push (PySem.HandSPX.excO C hp.objs.size)).get? b = some o := fun b o e => Heap.get?_push_of_some _ (Heap.get?_push_of_some _ e)
  have I2 : Inv X pins σ (upd H1 (hp.objs.size + 1) (exo (hp.objs.size + 1) C none)) ⟨(hp.push (PySem.W.kdv_tup us)).push (PySem.HandSPX.excO C hp.objs.size), g, dr, tk, os⟩ := I1.laid (t' := tk) (a := hp.objs.size + 1) (o := exo (hp.objs.size + 1) C none) (h' := (hp.push (PySem.W.kdv_tup us)).push (PySem.HandSPX.excO C hp.objs.size)) kk (Nat.le_succ _) (exo_ok (by heap_get))
  have r2 : Vals (V.ref (hp.objs.size + 1) :: vs) (Value.ref (hp.objs.size + 1) :: us) := .cons rfl r1
  have hl : (Value.ref (hp.objs.size + 1) :: us ++ []).length = ps.length := by
    rw [List.append_nil, ← F1.len _ _ _ _ hq]; exact r2.length.symm
  have b2 := hb _ (Value.ref (hp.objs.size + 1) :: us) I2.kIn hl
  rw [List.append_nil] at b2
  have hus : us.length ≤ sizeLine := by
    rw [← Paired.length r1, sizeLine_eq]
    omega
  refine wpAny_call (PySem.HandSPX.call_own F.excBase_ValueError (fun Y => PySem.HandSPX.refsVE_contains Y bm hbm) (I1.kIn _ _ hC) (PySem.W.looks_findIn I1.kIn iC) (fun self => PySem.W.bind_fn I1.kIn self tI) hus
    (codeAny_mono (F1.run _ X.stack _ _ ⟨Value.ref (hp.objs.size + 1) :: us, []⟩ (Value.ref (hp.objs.size + 1) :: us) _ _ (fun _ _ _ => False) (hr.make C us []) (I2.env0.make C us []) b2 r2 hq) fun r s' hq' => ?_))
  cases r with
  | error er => exact hx pins σ _ _ er s' I2 hq'
  | ok fl =>
    cases fl with
    | ret u =>
      obtain ⟨v, H2, os2, bare2, un2, hok2, rv, ev, d, fs, ea, ed, hd1, q2⟩ := hq'
      subst ev
      obtain ⟨h2, g2, d2, t2, os'⟩ := s'
      obtain ⟨t0, G, J, kG, ge, hoe, na⟩ := mk_end0 (d2 := d2) (t2 := t2) I1 (Nat.le_succ _) kk un2 hok2 os2 bare2 ea ed hd1
      exact ⟨rv, hp.objs.size + 1, _, _, ⟨G, g2, d2, t2, os'⟩, _, .ref C, some d, rfl, J, kG, ge, hoe, ⟨rfl, rfl, fun vs hv => by cases hv; rfl⟩, rfl, rfl, na, rfl, bare2, raises_own T.exC T.tyC, q2⟩
    | next => exact False.elim hq'
    | brk => exact False.elim hq'
    | cont => exact False.elim hq'
end
theorem ps_raiseGN {X : Cx} {x : Str} {C fI : Addr} {k : Nat} {fd : FuncData} {ps : List Str} {W : WX} {e : Expr} {te : TE} {p pos pos2 : Pos} (hc : X.calm = true) (T : GExc X.K C fI)
    (F1 : FnOk X.prog X.w X.K X.mg X.base CX0 k fI fd ps (spGI X.K)) (hr : Room (k + 1) X.A) (hb : Binds X.K fd ps []) (hg : Gl X x) (hm : X.mg x = some (.ref C)) (tk : L2N.Takes X W) (ha : PE X e te)
    (hdb : (x == ("__debug__" : Str)) = false := by decide) (he : starEach [e] X.env = (false, eval e X.env) :: starEach [] X.env := by rfl) (hpl : (backTo pos (starEach [] X.env)).any (·.1) = false := by rfl) :
    PS X (.Raise (some (.Call (.Name x p) [e] [] pos)) none pos2) (tRaiseG X.K C W te) :=
  L2N.ps_raise (pos := pos2) hc tk (pmk_oexN (p := p) (pos := pos) T.oex T.iC T.tI F1 hr hb (fun _ _ _ _ _ _ _ h => h.elim) hg hm (pa_cons ha pa_nil he) hdb he hpl)
end L2
/-! iter of a tuple; list(x) of an own class whose __iter__ gives a tuple's iterator and that has an own __len__ -/
namespace L2
open PySem PySem.Spec PyProof.Rows
section
variable {prog : Program} {w : World} {A : Around} {E : Value → Shared → Prop} {s : Shared}
theorem gb_iter_tuple {t : Addr} {items : Array Value} {Q : Value → Shared → Prop} (ht : s.heap.IsTuple t items) (h : Q (.ref s.heap.objs.size) { s with heap := s.heap.push { cls := .type "tuple_iterator", data := .fields #[.ref t, .int 0 0] } }) : wpAny (model prog w) A (call (.builtin "iter") [.ref t]) Q E s := by
  refine Calls.call_function_entry (by decide +kernel) (by decide +kernel) PySem.W.kdk_entry_iter (PySem.W.kdk_args_iter _) ?_
  unfold Builtin.«iter»
  refine wpAny_bind (m := someArgs "iter" 1 2 _) (wpAny_of_eq (a := [Value.ref t]) (by first | rfl | kernel_rfl!) ?_)
  show wpAny _ _ (pyIter (.ref t) >>= _) _ _ _
  refine wpAny_bind (wpAny_pyIter_tuple ht ?_)
  exact wpAny_pure ⟨_, rfl, h⟩
/-- the end of a tuple's iterator; the iterator stays an object -/
theorem gb_tuple_end {it t : Addr} {i : Nat} {items : Array Value} {Q : Option Value → Shared → Prop} (hh : A.handled = none)
    (hit : s.heap.IsTupleIter it t i) (ht : s.heap.IsTuple t items) (hx : items[i]? = none)
    (hQ : ∀ h', Heap.ExtBut it s.heap h' → (∃ u, h'.get? it = some u) → Q none { s with heap := h' }) : wpAny (model prog w) A (pyNext (.ref it)) Q E s := by
  obtain ⟨o, ho, hc, hd⟩ := id hit
  obtain ⟨ol, hol, _, nl, hdl⟩ := ht
  unfold pyNext
  refine wpAny_bind (wpAny_attempt (wpAny_callSpecial?_slot (name := Str.ofString "__next__") hit.typeIs F.slot_tuple_iterator_next
    (wpAny_call_entry F.slot_tuple_iterator_next hit.typeIs F.entry_tuple_iterator_next ?_ (F.args_tuple_iterator_next_1 _))))
  show wpAny _ _ (field (.ref it) 0 >>= _) _ _ s
  refine wpAny_bind (wpAny_field ho hd (x := .ref t) rfl ?_)
  show wpAny _ _ (if (Value.ref t == Value.none) = true then _ else _) _ _ s
  rw [if_neg (show ¬ ((Value.ref t == Value.none) = true) from Bool.false_ne_true)]
  show wpAny _ _ (field (.ref it) 1 >>= _) _ _ s
  refine wpAny_bind (wpAny_field ho hd (x := .int i 0) rfl ?_)
  show wpAny _ _ (seqItems? (.ref t) >>= _) _ _ s
  refine wpAny_bind (wpAny_seqItems hol hdl ?_)
  simp only [Int.toNat_natCast, hx]
  refine wpAny_bind (wpAny_rule (wpAny_bind (wpAny_setField ho hd (by simp) ?_)))
  show wpAny _ _ (newExc (.type "StopIteration") [] >>= _) _ _ _
  refine wpAny_bind ?_
  simp only [newExc, newTuple]
  refine wpAny_bind (wpAny_newObj_type ?_ (by size_fits))
  refine wpAny_bind (m := firstArgMember _ _) (wpAny_of_eq (a := Value.none) (by first | rfl | (simp only [firstArgMember]; rfl)) ?_)
  refine wpAny_newObj_type ?_ (by size_fits)
  simp only [raiseNew]
  refine wpAny_bind (wpAny_handled ?_)
  first | rw [show A.in1.handled = none from hh] | rw [hh]
  refine wpAny_bind (wpAny_pure (wpAny_throw ?_))
  refine wpAny_bind (wpAny_isInstance (T := "StopIteration") (b := true) ⟨_, Heap.get?_push_size _ rfl, rfl⟩ isSubtype_stop ?_)
  exact wpAny_pure (hQ _ (((Heap.SameBut.update ..).extBut.push _).push _) ⟨_, Heap.get?_push_of_some _ (Heap.get?_push_of_some _ (Heap.get?_update_self _ ho (Obj.isFreed_of_fields (Obj.data_mapFields hd _))))⟩)
theorem gb_hint {Q : Bool → Shared → Prop} {K : PySem.W.Frag} {a C fl : Addr} {ox : Obj} {od : Option Obj} (hl : PySem.W.findIn K (.ref C) "__len__" = some (some (.ref fl))) (hK : K.In s.heap) (J : PySem.W.InstAt s.heap a ox C od)
    (h : wpAny (model prog w) A (call (.builtin "len") [.ref a]) (fun v s' => ∃ n t, v = .int n t ∧ Builtin.List.listTooLong n.toNat = false ∧ Q (n != 0) s') (fun _ _ => False) s) : wpAny (model prog w) A (Builtin.List.listLengthHint (.ref a)) Q E s := by
  unfold Builtin.List.listLengthHint
  refine wpAny_bind (wpAny_bind (J.type.here ((PySem.W.looks_findIn hK hl).here ?_)))
  refine PySem.W.KFB.if_not rfl ?_
  show wpAny _ _ (rule _ >>= _) _ _ _
  refine wpAny_bind (wpAny_rule ?_)
  refine wpAny_bind (wpAny_attempt (wpAny_mono h (fun v s' hv => ?_) fun _ _ z => ?_))
  · obtain ⟨n, t, rfl, h1, q⟩ := hv
    show wpAny _ _ (if Builtin.List.listTooLong n.toNat = true then _ else pure (n != 0)) _ _ _
    rw [if_neg (by rw [h1]; decide)]
    exact wpAny_pure q
  · exact z.elim
end
/-- at it an iterator over the tuple at t, the next place is i -/
def ItT (t it : Addr) (i : Nat) : HO := .ext fun h => h.IsTupleIter it t i
/-- at it something that is no longer of use -/
def ItX (it : Addr) : HO := .ext fun h => ∃ o, h.get? it = some o
theorem itT_ok {P : Program} {w : World} {H : Hp} {h : Heap} {t it : Addr} {i : Nat} (e : h.IsTupleIter it t i) : ObjOk P w H h it (ItT t it i) := ⟨e, let ⟨o, ho, _⟩ := e; ⟨o, ho⟩, fun h1 h2 q k => Heap.IsTupleIter.at q k⟩
theorem itX_ok {P : Program} {w : World} {H : Hp} {h : Heap} {it : Addr} (e : ∃ o, h.get? it = some o) : ObjOk P w H h it (ItX it) := ⟨e, e, fun h1 h2 q k => let ⟨o, ho⟩ := q; ⟨o, k o ho⟩⟩
section
variable {X : Cx} {pins : List (Addr × Obj)} {σ : St} {H : Hp} {s : Shared} {t it l : Addr} {i : Nat} {zs : List V}
theorem itT_get (I : Inv X pins σ H s) (e : H it = some (ItT t it i)) : s.heap.IsTupleIter it t i := (I.hok it _ e).1
def rIterT (K : PySem.W.Frag) : List V → Hp → VK → Prop := fun xs H Q => ∃ (t : Addr) (zs : List V), xs = [.ref t] ∧ SqT K H t zs ∧ ∀ it, H it = none → Q (.ref it) (upd H it (ItT t it 0))
theorem call_iterT : CallR X (.builtin "iter") (rIterT X.K) := by
  intro pins s σ H xs us Q I r h
  obtain ⟨t, zs, rfl, hq, q⟩ := h
  obtain rfl := Vals.ref1 r
  obtain ⟨its, rv, pl, hz⟩ := I.tuple hq
  refine gb_iter_tuple (show s.heap.IsTuple t its.toArray from pl) ?_
  exact ⟨.ref s.heap.objs.size, _, I.laid (t' := s.toks) (fun b u e => Heap.get?_push_of_some _ e) (Nat.le_refl _) (itT_ok ⟨_, Heap.get?_push_size _ rfl, rfl, rfl⟩), rfl, q _ (I.hok.fresh (Nat.le_refl _))⟩
theorem upd_swap {a b : Addr} {o u : HO} (h : a ≠ b) : upd (upd H a o) b u = upd (upd H b u) a o := by
  funext c
  by_cases ha : c = a
  · subst ha; rw [upd_ne h, upd_same, upd_same]
  · rw [upd_ne ha]
    by_cases hb : c = b
    · subst hb; rw [upd_same, upd_same]
    · rw [upd_ne hb, upd_ne hb, upd_ne ha]
/-- the loop over a tuple's iterator, the list at l filled -/
theorem gb_loop {A1 : Around} {Rs : Result → Shared → Prop} (hh : A1.handled = none) (hne : it ≠ l) (hT : SqT X.K H t zs) (hz : zs.length < sizeLine) (hlt : H l = none) (hit : H it = none)
    (hdone : ∀ s, Inv X pins σ (upd (upd H l (.lst zs)) it (ItX it)) s → Rs (.ok (.ret .none)) s) :
    ∀ (k i : Nat) (s : Shared), zs.length - i = k → i ≤ zs.length → Inv X pins σ (upd (upd H l (.lst (zs.take i))) it (ItT t it i)) s → codeAny (model X.prog X.w) A1 (.builtin "list.extend.loop" ⟨[.ref l, .ref it, .none], []⟩) Rs s := by
  have sT : ∀ {o1 o2 : HO}, SqT X.K (upd (upd H l o1) it o2) t zs := fun {o1 o2} => Same.seqT ((same_new hlt).trans (same_new (by rw [upd_ne hne]; exact hit))) hT
  intro k
  induction k with
  | zero =>
    intro i s hk hi I
    have hin : i = zs.length := by omega
    subst hin
    obtain ⟨its, rv, pl, _⟩ := I.tuple (sT (o1 := _) (o2 := _))
    refine codeAny_builtin PySem.F.entry_extend_loop ?_
    rw [Around.under_plainId PySem.F.plain_extend_loop _]
    show wpAny _ A1.in1 (pyNext (.ref it) >>= _) _ _ s
    refine wpAny_bind (gb_tuple_end (A := A1.in1) hh (itT_get I upd_same) (show s.heap.IsTuple t its.toArray from pl) (by have := rv.length; simp; omega) fun h' hb hu => ?_)
    refine wpAny_pure (hdone _ ?_)
    have I2 := I.write (x := it) (e := it) (o := ItX it) (h' := h') (t' := s.toks) (by rw [upd_same]; exact True.intro) (.inl rfl) (fun b u nb z => hb b u nb z) hu (itX_ok hu)
    rw [upd_upd, List.take_length] at I2
    exact I2
  | succ k ih =>
    intro i s hk hi I
    have hlt2 : i < zs.length := by omega
    obtain ⟨its, rv, pl, _⟩ := I.tuple (sT (o1 := _) (o2 := _))
    obtain ⟨u, hu, ru⟩ := rv.get (List.getElem?_eq_getElem hlt2)
    refine codeAny_builtin PySem.F.entry_extend_loop ?_
    rw [Around.under_plainId PySem.F.plain_extend_loop _]
    show wpAny _ A1.in1 (pyNext (.ref it) >>= _) _ _ s
    refine wpAny_bind (wpAny_pyNext_tuple_item (itT_get I upd_same) (show s.heap.IsTuple t its.toArray from pl) (x := u) (by simpa using hu) fun h' hi' sb => ?_)
    have I2 := I.write (x := it) (e := it) (o := ItT t it (i + 1)) (h' := h') (t' := s.toks) (by rw [upd_same]; exact True.intro) (.inl rfl) (fun b o nb z => (sb.2 b nb).trans z) (let ⟨o, ho, _⟩ := hi'; ⟨o, ho⟩) (itT_ok hi')
    rw [upd_upd, upd_swap hne.symm] at I2
    show wpAny _ A1.in1 (updateSeq l (·.push u) >>= _) _ _ _
    obtain ⟨z, its2, c, r2, hl, e⟩ := I2.lstM upd_same
    have hl2 : its2.length = i := by rw [← r2.length, List.length_take]; omega
    refine wpAny_bind (wpAny_updateSeq e rfl (wpAny_pure ⟨plainId_quiet PySem.F.plain_extend_loop _, ?_⟩) (by rw [List.size_toArray]; omega) (by show (its2.toArray.push u).size ≤ sizeLine + 1; rw [Array.size_push, List.size_toArray]; omega))
    have I3 := I2.lset (its' := its2 ++ [u]) (ys := zs.take (i + 1)) (t' := s.toks) (f := (·.push u)) upd_same e (by simp) (by rw [List.take_succ, List.getElem?_eq_getElem hlt2]; exact r2.append (.cons ru .nil)) (by rw [List.length_take]; omega)
    rw [upd_upd, upd_swap hne] at I3
    exact ih (i + 1) _ (by omega) hlt2 I3
end
section
variable {X : Cx} {k k2 : Nat} {fi fl C : Addr} {fd fd2 : FuncData} {ps ps2 : List Str} {spI spL : Sp}
/-- list(x) -/
def rListIt (K : PySem.W.Frag) (C : Addr) (spI spL : Sp) : List V → Hp → VK → Prop := fun xs H Q => ∃ (a dx t : Addr) (fs : List (Str × V)) (zs : List V), xs = [.ref a] ∧ H a = some (.ins C dx fs) ∧ SqT K H t zs ∧ zs.length < 1000 ∧
  ∀ l, H l = none →
    spI [.ref a] (upd H l (.lst [])) (fun v H' => ∃ it, v = .ref it ∧ upd H l (.lst []) it = none ∧ H' = upd (upd H l (.lst [])) it (ItT t it 0)) (fun _ _ _ => False) ∧
    (∀ it, H it = none → it ≠ l → spL [.ref a] (upd (upd H l (.lst [])) it (ItT t it 0)) (fun v H' => v = .int zs.length ∧ H' = upd (upd H l (.lst [])) it (ItT t it 0)) (fun _ _ _ => False)) ∧
    ∀ it, H it = none → it ≠ l → Q (.ref l) (upd (upd H l (.lst zs)) it (ItX it))
theorem call_listIt (hmI : Meth X.K C "__iter__" fi) (hmL : Meth X.K C "__len__" fl) (FI : FnOk X.prog X.w X.K X.mg X.base CX0 k fi fd ps spI) (FL : FnOk X.prog X.w X.K X.mg X.base CX0 k2 fl fd2 ps2 spL)
    (bI : Binds X.K fd ps []) (bL : Binds X.K fd2 ps2 []) (hr : Room (k + 2) X.A) (hr2 : Room (k2 + 3) X.A) : CallR X (.type "list") (rListIt X.K C spI spL) := by
  intro pins s σ H xs us Q I rv h
  obtain ⟨a, dx, t, fs, zs, rfl, ha, hT, hz, hq⟩ := h
  obtain ⟨u, rfl, ru⟩ := rv.one
  obtain rfl : u = Value.ref a := ru
  refine callType_codes (Q₁ := fun obj s₁ => obj = .ref s.heap.objs.size ∧ s₁ = { s with heap := s.heap.push { cls := .type "list", data := .seq #[] } }) PySem.F.called_list (PySem.F.typeCall_list_1 _) PySem.F.entry_list_init
    (code_list_new _ ⟨rfl, rfl⟩) fun obj s₁ h₁ => ?_
  obtain ⟨rfl, rfl⟩ := h₁
  have hS : (s.heap.push { cls := .type "list", data := .seq #[] }).get? s.heap.objs.size = some { cls := .type "list", data := .seq #[] } := Heap.get?_push_size _ rfl
  refine ⟨⟨_, hS, rfl⟩, PySem.F.args_list_init_2 _ _, ?_⟩
  have fr : H s.heap.objs.size = none := I.hok.fresh (Nat.le_refl _)
  obtain ⟨q1, q2, q3⟩ := hq _ fr
  have I1 : Inv X pins σ (upd H s.heap.objs.size (.lst [])) { s with heap := s.heap.push { cls := .type "list", data := .seq #[] } } := I.lnew (its := []) (t' := s.toks) .nil (Nat.zero_le _)
  show wpAny _ _ (do let old ← Builtin.List.listItems (.ref s.heap.objs.size); Builtin.List.listUpdate (.ref s.heap.objs.size) (fun _ => #[]); letGo old.toList.reverse; Builtin.List.listExtendWith (.ref s.heap.objs.size) (.ref a) .none) _ _ _
  refine wpAny_bind ?_
  unfold Builtin.List.listItems
  refine wpAny_bind (wpAny_seqItems hS rfl (wpAny_pure ?_))
  show wpAny _ _ (updateSeq s.heap.objs.size (fun _ => #[]) >>= fun _ => letGo (#[] : Array Value).toList.reverse >>= fun _ => Builtin.List.listExtendWith (.ref s.heap.objs.size) (.ref a) .none) _ _ _
  refine wpAny_bind (wpAny_updateSeq hS rfl ?_)
  have I2 := I1.lset (f := fun _ => #[]) (its := []) (its' := []) (ys := []) (t' := s.toks) upd_same hS rfl .nil (Nat.zero_le _)
  rw [upd_upd] at I2
  refine wpAny_bind (wpAny_letGo ?_)
  generalize hl0 : s.heap.objs.size = l at *
  have hne : a ≠ l := ne_of_none ha fr
  have ha2 : upd H l (.lst []) a = some (.ins C dx fs) := by rw [upd_ne hne]; exact ha
  generalize ({ s with heap := (s.heap.push { cls := .type "list", data := .seq #[] }).update l (Obj.mapSeq fun _ => #[]), toks := s.toks } : Shared) = s2 at I2 ⊢
  obtain ⟨od, J⟩ := I2.instAt ha2
  obtain ⟨m0, hF⟩ := I2.fr
  unfold Builtin.List.listExtendWith
  refine wpAny_bind (J.type.here ?_)
  have h1 : Builtin.List.listSameRef (.ref l) (.ref a) = false := by simp [Builtin.List.listSameRef, hne.symm]
  have h2 : (Value.ref C == Value.type "list") = false := rfl
  have h3 : (Value.ref C == Value.type "tuple") = false := rfl
  simp only [h1, h2, h3, Bool.or_false, Bool.false_eq_true, if_false]
  refine wpAny_bind (PySem.W.owit_iter hF I2.ok.mod.kin J hmI.at_ hmI.fn ?_)
  have rI : Room k X.A.in1.in1 := (hr.in1 (k := k + 1)).in1
  refine wpAny_mono (run_fnA (X := X.nox) (us := [.ref a]) (vs := [.ref a]) (dvs := []) rfl FI rI bI .nil pass0 (I2.wish _) (.cons rfl .nil) q1) (fun v s3 q => ?_) (fun _ _ z => z.elim)
  obtain ⟨v', H', I3, rv', it, rfl, hit, rfl⟩ := q
  obtain rfl : v = Value.ref it := rv'
  replace I3 := I3.unwish
  have hil : it ≠ l := fun z => by rw [z, upd_same] at hit; cases hit
  have hitH : H it = none := by rw [upd_ne hil] at hit; exact hit
  have gi := itT_get I3 upd_same
  show wpAny _ _ (specialOf (.ref it) "__next__") _ _ _
  refine wpAny_specialOf gi.typeIs PySem.F.slot_tuple_iterator_next.lookup ?_
  have ha3 : upd (upd H l (.lst [])) it (ItT t it 0) a = some (.ins C dx fs) := by rw [upd_ne (ne_of_none ha2 hit)]; exact ha2
  obtain ⟨od3, J3⟩ := I3.instAt ha3
  obtain ⟨m3, hF3⟩ := I3.fr
  have rL : Room k2 X.A.in1.in1.in1 := ((hr2.in1 (k := k2 + 2)).in1 (k := k2 + 1)).in1
  refine wpAny_bind (wpAny_holding (gb_hint hmL.at_ I3.kIn J3 (PySem.W.len_K hF3 I3.ok.mod.kin J3 hmL.at_ hmL.fn ?_)))
  refine wpAny_mono (run_fnA (X := X.nox) (us := [.ref a]) (vs := [.ref a]) (dvs := []) rfl FL rL bL .nil pass0 (I3.wish _) (.cons rfl .nil) (q2 it hitH hil)) (fun v s4 q => ?_) (fun _ _ z => z.elim)
  obtain ⟨v', H', I4, rv4, rfl, rfl⟩ := q
  obtain ⟨tk, rfl⟩ := (show ∃ t, v = Value.int zs.length t from rv4)
  replace I4 := I4.unwish.tok (s4.toks + 1)
  refine ⟨⟨by omega, by omega⟩, _, _, rfl, ?_, ?_⟩
  · show decide ((zs.length : Int).toNat > sizeLine) = false
    rw [sizeLine_eq]
    exact decide_eq_false (by omega)
  generalize ({ s4 with toks := s4.toks + 1 } : Shared) = s5 at I4 ⊢
  have hzl : zs.length < sizeLine := by rw [sizeLine_eq]; omega
  have loop : ∀ s, Inv X pins σ (upd (upd H l (.lst [])) it (ItT t it 0)) s → codeAny (model X.prog X.w) X.A.in1 (.builtin "list.extend.loop" ⟨[.ref l, .ref it, .none], []⟩) (wants (fun r s₂ => r = .none ∧ EP X pins σ Q (.ref l) s₂) X.xe) s := fun s' I' =>
    gb_loop (A1 := X.A.in1) (zs := zs) (show X.A.in1.handled = none from hr.hd) hil hT hzl fr hitH (fun s6 I6 => ⟨rfl, .ref l, _, I6, rfl, q3 it hitH hil⟩) zs.length 0 s' rfl (Nat.zero_le _) I'
  refine wpAny_ite_split (fun _ => ?_) (fun _ => wpAny_pure ⟨plainId_quiet PySem.F.plain_extend_loop _, loop s5 I4⟩)
  have hql : upd (upd H l (.lst [])) it (ItT t it 0) l = some (.lst []) := by rw [upd_ne hil.symm, upd_same]
  obtain ⟨z, its, k4, r3, hl3, e3⟩ := I4.lstM hql
  cases r3
  refine wpAny_bind (wpAny_rule ?_)
  refine wpAny_bind ?_
  show wpAny _ _ (updateSeq l (·.push .none) >>= fun _ => updateSeq l (·.pop)) _ _ _
  refine wpAny_bind (wpAny_updateSeq e3 rfl ?_)
  have I5 := I4.lset (f := (·.push Value.none)) (its' := [Value.none]) (ys := [.non]) (t' := s5.toks) hql e3 (by simp) (.cons rfl .nil) (by rw [List.length_singleton, sizeLine_eq]; decide)
  obtain ⟨z4, its4, k5, r4, hl4, e4⟩ := I5.lstM upd_same
  obtain ⟨u4, rfl, ru4⟩ := r4.one
  refine wpAny_updateSeq e4 rfl ?_ (by show 1 ≤ sizeLine; rw [sizeLine_eq]; decide) (by show 0 ≤ sizeLine + 1; exact Nat.zero_le _)
  refine wpAny_pure ⟨plainId_quiet PySem.F.plain_extend_loop _, loop _ ?_⟩
  have I6 := I5.lset (f := (·.pop)) (its := [u4]) (its' := []) (ys := []) (t' := s5.toks) upd_same e4 (by rfl) .nil (Nat.zero_le _)
  rw [upd_upd] at I6
  have hH : upd (upd (upd H l (.lst [])) it (ItT t it 0)) l (.lst []) = upd (upd H l (.lst [])) it (ItT t it 0) := by rw [upd_swap hil, upd_upd]
  rw [hH] at I6
  exact I6
end
end L2
namespace L2
open PySem PySem.Spec PyProof.Rows StX
/-- zip of two tuples -/
theorem walk_zipT {K : PySem.W.Frag} {a b : Addr} {xs ys : List V} {n : Nat} (hn : n = min xs.length ys.length) : Walk (RZ.ItzT K a b) n (fun H => SqT K H a xs ∧ SqT K H b ys) (YPair (fun i => xs[i]?) (fun i => ys[i]?)) := by
  subst hn
  refine ⟨fun i _ hi q => ?_, fun _ q => ⟨xs, ys, q.1, q.2, by omega⟩, fun i H v H' _ q y => ?_⟩
  · have h1 : i < xs.length := by omega
    have h2 : i < ys.length := by omega
    exact ⟨xs, ys, xs[i], ys[i], q.1, q.2, by simp [h1], by simp [h2]⟩
  · obtain ⟨T, x, z, h1, h2, h3, h4, h5⟩ := y
    exact ⟨T, x, z, h1, h2, h3, h4 xs q.1, h5 ys q.2⟩
theorem pi_zipK {X : Cx} (K : PySem.W.Frag) {e e2 : Expr} {ta : TA} {p pos tpos : Pos} {elts : List Expr} {kk : Nat} (hg : Gl X "zip") (hm : X.mg "zip" = none) (ha : PA X [e, e2] ta) (hK : X.K = K := by rfl)
    (hs : starEach [e, e2] X.env = (false, eval e X.env) :: starEach [e2] X.env := by rfl) (hpl : (backTo pos (starEach [e2] X.env)).any (·.1) = false := by rfl) :
    PI X (.Tuple elts kk tpos) (.Call (.Name "zip" p) [e, e2] [] pos) (RZ.iZipA K ta) := hK ▸ RZ.pi_zipA hg hm ha hs hpl
section
variable {P : Program} {w : World} {K : PySem.W.Frag} {mg : Str → Option Value} {base : Heap}
/-- what a def with *args says of its arguments -/
def spStar (m : Nat) (sp : Sp) : Sp := fun vs H Q E => ∃ ws rest, vs = ws ++ rest ∧ ws.length = m ∧ rest.length ≤ sizeLine ∧ ∀ p, H p = Option.none → sp (ws ++ [V.ref p]) (upd H p (.tup rest)) Q E
theorem Fun.okStar {x qual : Str} {st : Stmt} {f : Addr} {fd : FuncData} {N : List Str} {p1 pv : Str} {k : Nat} {sp : Sp} (F : Fun K x qual st f fd) (S : FnScope N ([p1] ++ [pv]) (defScope st))
    (hb : ∀ (kV doc pm : Value) (an : Option Addr) (cdv ct : Value) (us rest : List Value), us.length = [p1].length → bindArgs (PySem.W.fnOf x qual (defArgs st) (defBody st) (defScope st) .none kV doc pm an cdv ct) ⟨us ++ rest, []⟩ = (newTuple rest >>= fun t => pure ([p1].zip us ++ [(pv, t)])))
    (hbody : ∀ (cdv : Value) (A : Around) (outer : List Env) (s : Shared) (H : Hp) (vs : List V) (Q : VK) (E : XK), Room k (A.deeper (envOfC qual (defScope st) s.heap.objs.size f cdv)) → sp vs H Q E →
      ∃ t, PSs (cxOf (L2.CX P w) P w K mg base N qual (defScope st) f cdv A outer s H E) (defBody st) t ∧ t { nx := fun _ H' => Q .non H', rt := Q } (start N vs) H) : FnR P w K mg base (L2.CX P w) (k + 1) f (spStar 1 sp) := by
  obtain ⟨oc, od, kV, doc, pm, an, cdv, ct, osl, rfl, lk, hcd⟩ := F.ex
  exact fn_star (ps := [p1]) (pv := pv) lk hcd S cxUp (hb kV doc pm an cdv ct) fun A outer s H vs Q E hr hsp => hbody cdv A outer s H vs Q E hr hsp
end
section
variable {X : Cx} {CX : CXT} {k : Nat} {f C : Addr} {fd : FuncData} {ps : List Str} {sp : Sp} {E : XK} {x : Str} {e : Expr} {es : List Expr} {te : TE} {t : TA} {p sp_ pos : Pos}
/-- C(*y) -/
def tMakeStar (K : PySem.W.Frag) (C : Addr) (sp : Sp) (E : XK) (te : TE) : TE := fun σ H Q => te σ H fun y H1 => ∃ a xs, y = V.ref a ∧ (SqT K H1 a xs ∨ SqL K H1 a xs) ∧ ∀ x dx, H1 x = Option.none → H1 dx = Option.none → dx ≠ x →
  sp (V.ref x :: xs) (upd (upd H1 dx (.own x)) x (.ins C dx [])) (fun v H2 => v = .non ∧ Q (.ref x) H2) E
theorem pe_makeStar (M : Mk X.K C f) (F : FnR X.prog X.w X.K X.mg X.base CX k f sp) (hr : Room (k + 1) X.A) (hg : Gl X x) (hm : X.mg x = some (.ref C)) (hx : Passes CX X E) (he : PE X e te) (hd : (x == ("__debug__" : Str)) = false := by decide)
    (hst : starEach [.Starred e sp_] X.env = [(true, eval e X.env)] := by rfl) : PE X (.Call (.Name x p) [.Starred e sp_] [] pos) (tMakeStar X.K C sp E te) := by
  refine ⟨fun pins s σ H Q I h => ?_⟩
  refine wpAny_Call_Name_kw (ld_glob I hg hm ?_ hd)
  refine PySem.W.callWith_S (h₀ := X.base) I.ok.mod.kin M.kp (thn (he.run pins s σ H _ I h) fun v s1 ⟨y, H1, I1, ry, a, xs, ey, hxs, q⟩ => ?_) hst
  subst ey
  obtain rfl : v = Value.ref a := ry
  exact star_any I1 hxs fun us s2 I2 rv => ⟨I2.kIn, run_makeR M F hr hx I2 rv q⟩
/-- the same in a try's body -/
def tMakeRT (C : Addr) (sp : Sp) (E : St → XK) (t : TA) : TE := fun σ H Q => t σ H fun vs H1 => ∀ x dx, H1 x = Option.none → H1 dx = Option.none → dx ≠ x →
  sp (V.ref x :: vs) (upd (upd H1 dx (.own x)) x (.ins C dx [])) (fun v H2 => v = .non ∧ Q (.ref x) H2) (E σ)
theorem run_makeRT {E : St → XK} {pins : List (Addr × Obj)} {σ : L2.St} {H : Hp} {s : Shared} {Q : VK} {us : List Value} {vs : List V} (M : Mk X.K C f) (F : FnR X.prog X.w X.K X.mg X.base CX k f sp) (hr : Room (k + 1) X.A) (hx : PassesAt CX X σ (E σ)) (I : Inv X pins σ H s) (r : Vals vs us)
    (h : ∀ x dx, H x = Option.none → H dx = Option.none → dx ≠ x → sp (V.ref x :: vs) (upd (upd H dx (.own x)) x (.ins C dx [])) (fun v H2 => v = .non ∧ Q (.ref x) H2) (E σ)) :
    wpAny (model X.prog X.w) X.A (call (.ref C) us) (EP X pins σ Q) X.xe s := by
  have hq := h (s.heap.objs.size + 1) s.heap.objs.size (I.hok.fresh (Nat.le_succ _)) (I.hok.fresh (Nat.le_refl _)) (Nat.ne_of_lt (Nat.lt_succ_self _))
  have I2 := Inv.made (C := C) I
  have r2 : Vals (V.ref (s.heap.objs.size + 1) :: vs) (Value.ref (s.heap.objs.size + 1) :: us) := .cons rfl r
  refine wpAny_call (make_map (f := f) I.kIn M.makes M.init (beq_iff_eq.mp M.fn) (codeAny_mono (F _ X.stack _ _ (Value.ref (s.heap.objs.size + 1) :: us) _ _ (E σ) (hr.make C us []) (I2.env0.make C us []) r2 hq) fun r s' hq' => ?_))
  cases r with
  | error e => exact hx pins _ _ e s' I2 hq'
  | ok fl =>
    cases fl with
    | ret u =>
      obtain ⟨v, H', I3, rv, ev, q3⟩ := I2.after hq'
      subst ev
      exact ⟨rv, ⟨V.ref (s.heap.objs.size + 1), H', I3, rfl, q3⟩⟩
    | next => exact False.elim hq'
    | brk => exact False.elim hq'
    | cont => exact False.elim hq'
theorem pe_makeRT {E : St → XK} (M : Mk X.K C f) (F : FnR X.prog X.w X.K X.mg X.base CX k f sp) (hr : Room (k + 1) X.A) (hg : Gl X x) (hm : X.mg x = some (.ref C)) (hx : ∀ σ, PassesAt CX X σ (E σ)) (ha : PA X (e :: es) t) (hdb : (x == ("__debug__" : Str)) = false := by decide)
    (he : starEach (e :: es) X.env = (false, eval e X.env) :: starEach es X.env := by rfl) (hpl : (backTo pos (starEach es X.env)).any (·.1) = false := by rfl) : PE X (.Call (.Name x p) (e :: es) [] pos) (tMakeRT C sp E t) := by
  refine ⟨fun pins s σ H Q I h => ?_⟩
  refine wpAny_Call_Name_kw (ld_glob I hg hm ?_ hdb)
  refine PySem.W.callWith_K (h₀ := X.base) I.ok.mod.kin M.kp (thn (ha.run pos pins s σ H _ I h) fun us s1 ⟨vs, H1, I1, r, q⟩ => ⟨I1.kIn, ?_⟩) he hpl
  exact run_makeRT M F hr (hx σ) I1 r q
theorem pe_makeRT0 {E : St → XK} (M : Mk X.K C f) (F : FnR X.prog X.w X.K X.mg X.base CX k f sp) (hr : Room (k + 1) X.A) (hg : Gl X x) (hm : X.mg x = some (.ref C)) (hx : ∀ σ, PassesAt CX X σ (E σ)) (hdb : (x == ("__debug__" : Str)) = false := by decide) :
    PE X (.Call (.Name x p) [] [] pos) (tMakeRT C sp E tNil) := by
  refine ⟨fun pins s σ H Q I h => ?_⟩
  refine wpAny_Call_Name_kw (ld_glob I hg hm ?_ hdb)
  exact PySem.W.callWith_K0 I.kIn M.kp (run_makeRT M F hr (hx σ) I .nil h)
/-- y in x in a try's body, x of an own class -/
def tInT (C : Addr) (sp : Sp) (E : St → XK) (ta tb : TE) : TE := fun σ H Q => ta σ H fun y H1 => tb σ H1 fun x H2 => ∃ a dx fs, x = .ref a ∧ H2 a = some (.ins C dx fs) ∧ sp [x, y] H2 (fun v H' => ∃ b, v = .bl b ∧ Q (.bl b) H') (E σ)
theorem pe_inT {E : St → XK} {l r : Expr} {ta tb : TE} (hm : Meth X.K C "__contains__" f) (F : FnOk X.prog X.w X.K X.mg X.base CX k f fd ps sp) (hr : Room k X.A) (hb : Binds X.K fd ps []) (hx : ∀ σ, PassesAt CX X σ (E σ)) (ha : PE X l ta) (hb' : PE X r tb) (hmk : behindInMarks .In r = false) :
    PE X (.Compare l [.In] [r] pos) (tInT C sp E ta tb) := by
  refine ⟨fun pins s σ H Q I h => ?_⟩
  refine wpAny_Compare1 (binT ha hb' I h fun v u s2 y x H2 I2 ry rx q => ?_) hmk
  obtain ⟨a, dx, fs, rfl, ea, q⟩ := q
  obtain rfl : u = Value.ref a := rx
  obtain ⟨od, J⟩ := I2.instAt ea
  obtain ⟨m, fr⟩ := I2.fr
  refine PySem.W.in_K fr I2.ok.mod.kin J hm.at_ hm.fn (thn (run_fnS2 F hr hb (hx σ) I2 (.cons (show RelV (.ref a) (Value.ref a) from rfl) (.cons ry .nil)) q) fun w s' q => ?_)
  obtain ⟨v', H', I', rv, b, rfl, q⟩ := q
  obtain rfl : w = Value.bool b := rv
  exact wpAny_truthy_bool ⟨.bl b, H', I', rfl, q⟩
end
section
variable {X : Cx} {CX : CXT} {k : Nat} {f C : Addr} {fd : FuncData} {ps : List Str} {sp : Sp} {E : XK}
/-- x[y] by an own __getitem__ -/
def rIxOwn (C : Addr) (sp : Sp) (E : XK) : R2 := fun x y H Q => ∃ a dx fs i, x = .ref a ∧ H a = some (.ins C dx fs) ∧ y = .int i ∧ sp [x, y] H Q E
theorem pe_ixOwn {a b : Expr} {ta tb : TE} {pos : Pos} (hm : Meth X.K C "__getitem__" f) (hfn : PySem.W.fnIn X.K f = true) (F : FnOk X.prog X.w X.K X.mg X.base CX k f fd ps sp) (hr : Room (k + 1) X.A) (hb : Binds X.K fd ps []) (hx : Passes CX X E) (ha : PE X a ta) (hb2 : PE X b tb)
    (hs : ∀ (x : Addr) (i : Value), subscripted b true (.ref x) i = runValue (.builtin "lifetime.subscript" ⟨[.ref x, i], []⟩) := by intro _ _; rfl) : PE X (.Subscript a b pos) (tOp (rIxOwn C sp E) ta tb) := by
  refine ⟨fun pins s σ H Q I h => ?_⟩
  refine Subscript_ (binT ha hb2 I h fun v u s2 x y H2 I2 rx ry q => ?_)
  obtain ⟨a', dx, fs, i, rfl, ea, rfl, q⟩ := q
  obtain rfl : v = Value.ref a' := rx
  obtain ⟨t, rfl⟩ := (show ∃ t, u = Value.int i t from ry)
  obtain ⟨od, J⟩ := I2.instAt ea
  obtain ⟨m, fr⟩ := I2.fr
  exact PySem.W.sub_K fr I2.ok.mod.kin J hm.at_ hfn hm.fn (run_fnA (A := X.A.in1) (us := [.ref a', .int i t]) (vs := [.ref a', .int i]) (dvs := []) rfl F hr.in1 hb .nil hx I2 (.cons rfl (.cons ⟨t, rfl⟩ .nil)) q) (hs _ _)
end
end L2
namespace L2
open PySem PySem.Spec PyProof.Rows StX
theorem call_listItK {X : Cx} (K : PySem.W.Frag) {k k2 : Nat} {fi fl C : Addr} {fd fd2 : FuncData} {ps ps2 : List Str} {spI spL : Sp} (hmI : Meth X.K C "__iter__" fi) (hmL : Meth X.K C "__len__" fl) (FI : FnOk X.prog X.w X.K X.mg X.base CX0 k fi fd ps spI) (FL : FnOk X.prog X.w X.K X.mg X.base CX0 k2 fl fd2 ps2 spL)
    (bI : Binds X.K fd ps []) (bL : Binds X.K fd2 ps2 []) (hr : Room (k + 2) X.A) (hr2 : Room (k2 + 3) X.A) (hK : X.K = K := by rfl) : CallR X (.type "list") (rListIt K C spI spL) := hK ▸ call_listIt hmI hmL FI FL bI bL hr hr2
theorem call_iterTK {X : Cx} (K : PySem.W.Frag) (hK : X.K = K := by rfl) : CallR X (.builtin "iter") (rIterT K) := hK ▸ call_iterT
def spNever : Sp := fun _ _ _ _ => False
theorem dpInts {K : PySem.W.Frag} {H : Hp} : ∀ xs : List Int, DpAll K H (xs.map V.int) (xs.map PyData.int)
  | [] => .nil
  | x :: xs => .cons (.int x) (dpInts xs)
theorem eqvInts : ∀ xs ys : List Int, PyData.eqvAll (xs.map PyData.int) (ys.map PyData.int) = decide (xs = ys)
  | [], [] => by simp [PyData.eqvAll]
  | [], _ :: _ => by simp [PyData.eqvAll]
  | _ :: _, [] => by simp [PyData.eqvAll]
  | x :: xs, y :: ys => by
    simp only [List.map_cons, PyData.eqvAll, eqvInts xs ys, PyData.eqv]
    simp [List.cons.injEq, Bool.decide_and]
    rfl
theorem eqvT (xs ys : List Int) : PyData.eqv (.tuple (xs.map PyData.int)) (.tuple (ys.map PyData.int)) = decide (xs = ys) := by simp only [PyData.eqv]; exact eqvInts xs ys
theorem eqvL (xs ys : List Int) : PyData.eqv (.list (xs.map PyData.int)) (.list (ys.map PyData.int)) = decide (xs = ys) := by simp only [PyData.eqv]; exact eqvInts xs ys
theorem layInts : ∀ xs : List Int, PyData.canLayAll0 (xs.map PyData.int) = true
  | [] => rfl
  | x :: xs => by
    show (PyData.canLay0 (PyData.int x) && PyData.canLayAll0 (xs.map PyData.int)) = true
    rw [layInts xs]; rfl
theorem depInts : ∀ xs : List Int, PyData.depthAll (xs.map PyData.int) = 0
  | [] => rfl
  | x :: xs => by
    simp only [List.map_cons, PyData.depthAll, depInts xs, PyData.depth]
    rfl
theorem shT (xs : List Int) : SeqAt.shaped (.tuple (xs.map PyData.int)) = true := by
  unfold SeqAt.shaped
  simp only [PyData.canLay0, PyData.depth, layInts, depInts]
  rfl
theorem shL (xs : List Int) : SeqAt.shaped (.list (xs.map PyData.int)) = true := by
  unfold SeqAt.shaped
  simp only [PyData.canLay0, PyData.depth, layInts, depInts]
  rfl
theorem same_put {H H' : Hp} {D : Addr} {o : HO} (s : Same H H') (h : H D = none) : Same H (upd H' D o) := fun b u e => by
  rw [upd_ne (fun z => by rw [z, h] at e; cases e)]
  exact s b u e
end L2
namespace L2
open PySem PySem.Spec PyProof.Rows StX
def rTupOf (K : PySem.W.Frag) : List V → Hp → VK → Prop := fun xs H Q => ∃ p ys, xs = [.ref p] ∧ ((SqL K H p ys ∧ ∀ l, H l = none → Q (.ref l) (upd H l (.tup ys))) ∨ (SqT K H p ys ∧ Q (.ref p) H))
theorem call_tuple_ofK {X : Cx} (K : PySem.W.Frag) (hK : X.K = K := by rfl) : CallR X (.type "tuple") (rTupOf K) := hK ▸ call_tuple_of
theorem sl_listK {X : Cx} (K : PySem.W.Frag) (hK : X.K = K := by rfl) : SlR X (rSlL K) := hK ▸ sl_list
end L2
/-! plain mathematics: lowest terms, Euclid's steps -/
namespace L2
/-- (t, b) is T / B in lowest terms -/
structure Rep (t b T B : Int) : Prop where
  pos : 1 ≤ b
  cross : t * B = T * b
  cop : Nat.gcd t.natAbs b.natAbs = 1
  st : t.natAbs ≤ T.natAbs
  sb : b.natAbs ≤ B.natAbs
theorem rep_of {T B : Int} (hB : B ≠ 0) {g : Nat} (hg : g = Nat.gcd T.natAbs B.natAbs) {f : Int} (hf : f = if B < 0 then -(g : Int) else (g : Int)) : f ≠ 0 ∧ f.natAbs ≤ B.natAbs ∧ Rep (T.fdiv f) (B.fdiv f) T B := by
  have hb0 : 0 < B.natAbs := Int.natAbs_pos.mpr hB
  have g0 : 0 < g := by rw [hg]; exact Nat.gcd_pos_of_pos_right _ hb0
  have gle : g ≤ B.natAbs := by rw [hg]; exact Nat.gcd_le_right _ hb0
  have d1 : (g : Int) ∣ T := by
    rw [hg]; exact Int.ofNat_dvd_left.mpr (Nat.gcd_dvd_left _ _)
  have d2 : (g : Int) ∣ B := by
    rw [hg]; exact Int.ofNat_dvd_left.mpr (Nat.gcd_dvd_right _ _)
  obtain ⟨t1, e1⟩ := d1
  obtain ⟨b1, e2⟩ := d2
  have gi : (g : Int) ≠ 0 := by omega
  have cop : Nat.gcd t1.natAbs b1.natAbs = 1 := by
    have h : g = g * Nat.gcd t1.natAbs b1.natAbs := by
      have : Nat.gcd T.natAbs B.natAbs = g * Nat.gcd t1.natAbs b1.natAbs := by
        rw [e1, e2, Int.natAbs_mul, Int.natAbs_mul, Int.natAbs_natCast, Nat.gcd_mul_left]
      rw [← hg] at this; exact this
    have h' : g * 1 = g * Nat.gcd t1.natAbs b1.natAbs := by rw [Nat.mul_one]; exact h
    exact (Nat.eq_of_mul_eq_mul_left g0 h').symm
  have st : t1.natAbs ≤ T.natAbs := by rw [e1, Int.natAbs_mul, Int.natAbs_natCast]; exact Nat.le_mul_of_pos_left _ g0
  have sb : b1.natAbs ≤ B.natAbs := by rw [e2, Int.natAbs_mul, Int.natAbs_natCast]; exact Nat.le_mul_of_pos_left _ g0
  by_cases hn : B < 0
  · rw [if_pos hn] at hf
    have ft : T.fdiv f = -t1 := by
      rw [hf, e1, show (g : Int) * t1 = -(g : Int) * (-t1) by rw [Int.neg_mul_neg]]
      exact Int.mul_fdiv_cancel_left _ (by omega)
    have fb : B.fdiv f = -b1 := by
      rw [hf, e2, show (g : Int) * b1 = -(g : Int) * (-b1) by rw [Int.neg_mul_neg]]
      exact Int.mul_fdiv_cancel_left _ (by omega)
    have hb1 : b1 < 0 := by
      have q : (g : Int) * b1 < (g : Int) * 0 := by rw [Int.mul_zero, ← e2]; exact hn
      exact Int.lt_of_mul_lt_mul_left q (by omega)
    refine ⟨by omega, by rw [hf, Int.natAbs_neg, Int.natAbs_natCast]; exact gle, ?_⟩
    rw [ft, fb]
    refine ⟨by omega, ?_, by rw [Int.natAbs_neg, Int.natAbs_neg]; exact cop, by rw [Int.natAbs_neg]; exact st, by rw [Int.natAbs_neg]; exact sb⟩
    rw [e1, e2, Int.neg_mul, Int.mul_neg, Int.mul_assoc, Int.mul_left_comm]
  · rw [if_neg hn] at hf
    have ft : T.fdiv f = t1 := by rw [hf, e1]; exact Int.mul_fdiv_cancel_left _ gi
    have fb : B.fdiv f = b1 := by rw [hf, e2]; exact Int.mul_fdiv_cancel_left _ gi
    have hb1 : 0 < b1 := by
      have q : (g : Int) * 0 < (g : Int) * b1 := by rw [Int.mul_zero, ← e2]; omega
      exact Int.lt_of_mul_lt_mul_left q (by omega)
    refine ⟨by omega, by rw [hf, Int.natAbs_natCast]; exact gle, ?_⟩
    rw [ft, fb]
    refine ⟨by omega, ?_, cop, st, sb⟩
    rw [e1, e2, Int.mul_assoc, Int.mul_left_comm]
/-- lowest terms are the only ones -/
theorem rep_uniq {t b t' b' : Int} (h : 1 ≤ b) (h' : 1 ≤ b') (c : Nat.gcd t.natAbs b.natAbs = 1) (c' : Nat.gcd t'.natAbs b'.natAbs = 1) (e : t * b' = t' * b) : t = t' ∧ b = b' := by
  have e1 : t.natAbs * b'.natAbs = t'.natAbs * b.natAbs := by rw [← Int.natAbs_mul, ← Int.natAbs_mul, e]
  have d1 : b.natAbs ∣ b'.natAbs := by
    refine Nat.Coprime.dvd_of_dvd_mul_left (k := b.natAbs) (m := t.natAbs) ?_ ?_
    · show Nat.gcd b.natAbs t.natAbs = 1
      rw [Nat.gcd_comm]; exact c
    · rw [e1]; exact Nat.dvd_mul_left _ _
  have d2 : b'.natAbs ∣ b.natAbs := by
    refine Nat.Coprime.dvd_of_dvd_mul_left (k := b'.natAbs) (m := t'.natAbs) ?_ ?_
    · show Nat.gcd b'.natAbs t'.natAbs = 1
      rw [Nat.gcd_comm]; exact c'
    · rw [← e1]; exact Nat.dvd_mul_left _ _
  have eb := Nat.dvd_antisymm d1 d2
  have eb' : b = b' := by omega
  subst eb'
  exact ⟨Int.eq_of_mul_eq_mul_right (by omega) e, rfl⟩
/-! ### Euclid -/
def Euc (a b i : Nat) : Prop := (i = 0 ∧ b < 2 ^ 200) ∨ (1 ≤ i ∧ b < a ∧ a * b * 2 ^ (i - 1) ≤ 2 ^ 400)
theorem Euc.turn {a b i : Nat} (h : Euc a b i) (hb : b ≠ 0) : Euc b (a % b) (i + 1) ∧ i ≤ 401 := by
  have hm : a % b < b := Nat.mod_lt _ (Nat.pos_of_ne_zero hb)
  rcases h with ⟨rfl, h⟩ | ⟨h1, h2, h3⟩
  · refine ⟨.inr ⟨Nat.le_refl _, hm, ?_⟩, Nat.zero_le _⟩
    show b * (a % b) * 2 ^ 0 ≤ 2 ^ 400
    have : b * (a % b) ≤ 2 ^ 200 * 2 ^ 200 := Nat.mul_le_mul (Nat.le_of_lt h) (Nat.le_of_lt (Nat.lt_trans hm h))
    rw [Nat.pow_zero, Nat.mul_one]
    rw [← Nat.pow_add] at this
    exact this
  · refine ⟨.inr ⟨by omega, hm, ?_⟩, ?_⟩
    · obtain ⟨j, rfl⟩ : ∃ j, i = j + 1 := ⟨i - 1, by omega⟩
      show b * (a % b) * 2 ^ (j + 1) ≤ 2 ^ 400
      have h2' : 2 * (a % b) ≤ a := by
        have e := Nat.div_add_mod a b
        have q : 1 ≤ a / b := Nat.div_pos (Nat.le_of_lt h2) (Nat.pos_of_ne_zero hb)
        have : b * 1 ≤ b * (a / b) := Nat.mul_le_mul_left _ q
        omega
      have e : b * (a % b) * 2 ^ (j + 1) = (b * (2 * (a % b))) * 2 ^ j := by
        rw [Nat.pow_succ, Nat.mul_comm (2 ^ j) 2, ← Nat.mul_assoc, Nat.mul_assoc b, Nat.mul_comm (a % b) 2]
      rw [e]
      refine Nat.le_trans (Nat.mul_le_mul_right _ (Nat.mul_le_mul_left b h2')) ?_
      rw [Nat.mul_comm b a]
      exact h3
    · have : 1 * 1 * 2 ^ (i - 1) ≤ a * b * 2 ^ (i - 1) := Nat.mul_le_mul_right _ (Nat.mul_le_mul (by omega) (by omega))
      simp only [Nat.one_mul] at this
      have q : i - 1 ≤ 400 := (Nat.pow_le_pow_iff_right (by decide)).mp (Nat.le_trans this h3)
      omega
theorem pow_le {m n : Nat} (h : m ≤ n) : (1000 : Int) ^ m ≤ 1000 ^ n := by
  induction h with
  | refl => exact Int.le_refl _
  | step h ih =>
    rename_i k
    have p : ∀ j : Nat, (0 : Int) ≤ 1000 ^ j := fun j => by
      induction j with
      | zero => decide
      | succ j ih => rw [Int.pow_succ]; omega
    rw [Nat.succ_eq_add_one, Int.pow_succ]
    have := p k
    omega
end L2
namespace L2
open PySem PySem.Spec PyProof.Rows StX
theorem upd_fr {H : Hp} {p q : Addr} {o u : HO} (e : H q = some u) (hp : H p = none) : upd H p o q = some u := by rw [upd_ne (ne_of_none e hp)]; exact e
theorem upd_df {H : Hp} {p q : Addr} {o u : HO} (e : H q = some u) (n : q ≠ p) : upd H p o q = some u := by rw [upd_ne n]; exact e
theorem none_ne {H : Hp} {a b : Addr} {o : HO} (h' : H b = none) (h : H a = some o) : a ≠ b := ne_of_none h h'
theorem same_nw {H H' : Hp} {p : Addr} {o : HO} (s : Same H H') (h : H' p = none) : Same H (upd H' p o) := s.trans (same_new h)
theorem but_nw {q : Addr} {H H' : Hp} {p : Addr} {o : HO} (s : SameBut q H H') (h : H' p = none) : SameBut q H (upd H' p o) := s.trans (same_new h).but
theorem but_own {p : Addr} {H H' : Hp} {o : HO} (s : SameBut p H H') : SameBut p H (upd H' p o) := s.trans sameBut_upd
theorem put_but {p D : Addr} {H0 H' : Hp} {o : HO} (s : SameBut p H0 H') (hD : H0 D = none) : SameBut p H0 (upd H' D o) := fun b u n e => by
  rw [upd_ne (fun z => by rw [z, hD] at e; cases e)]
  exact s b u n e
theorem iteB {c : Bool} {A B : Prop} (h1 : c = true → A) (h2 : c = false → B) : if c = true then A else B := by
  cases c with
  | true => rw [if_pos rfl]; exact h1 rfl
  | false => rw [if_neg (by decide)]; exact h2 rfl
theorem eq_int {a b : Int} (h : V.int a = V.int b) : a = b := by injection h
theorem ne_int {a b : Int} (h : ¬ V.int a = V.int b) : ¬ a = b := fun e => h (by rw [e])
theorem iteI {a b : Int} {A B : Prop} (h1 : a = b → A) (h2 : ¬ a = b → B) : if decide (V.int a = V.int b) = true then A else B := iteD (fun e => h1 (eq_int e)) fun e => h2 (ne_int e)
theorem iteIN {a b : Int} {A B : Prop} (h1 : ¬ a = b → A) (h2 : a = b → B) : if (!decide (V.int a = V.int b)) = true then A else B := iteDN (fun e => h2 (eq_int e)) fun e => h1 (ne_int e)
theorem lc_put {H H' : Hp} {D : Addr} {vs : List V} {i : Nat} {v : V} (hD : H D = none) (s : Same H H') (e : H' D = some (.lst (vs.take i))) (hv : vs[i]? = some v) (hz : vs.length ≤ 1000) :
    ∃ acc, H' D = some (.lst acc) ∧ acc.length < sizeLine ∧ (Same H (upd H' D (.lst (acc ++ [v]))) ∧ upd H' D (.lst (acc ++ [v])) D = some (.lst (vs.take (i + 1)))) := by
  refine ⟨_, e, by rw [sizeLine_eq, List.length_take]; omega, same_put s hD, ?_⟩
  rw [upd_same, List.take_succ, hv]
  rfl
theorem take_all {vs : List V} {n : Nat} (h : vs.length ≤ n) : vs.take n = vs := List.take_of_length_le h
end L2
namespace L2
open PySem PySem.Spec PyProof.Rows StX
theorem lc_end {H' : Hp} {D : Addr} {vs : List V} {i : Nat} {v : V} (hv : vs[i]? = some v) : upd H' D (.lst (vs.take i ++ [v])) D = some (.lst (vs.take (i + 1))) := by
  rw [upd_same, List.take_succ, hv]
  rfl
theorem at_int {xs : List Int} {i : Nat} {z : Int} (h : xs[i]? = some z) : atI (xs.map V.int) ((0 : Int) + (i : Nat)) = some (.int z) := by
  rw [Int.zero_add]; exact atI_nat (by rw [List.getElem?_map, h]; rfl)
theorem get_mm {xs : List Int} {f : Int → Int} {i : Nat} {z w : Int} (h : xs[i]? = some z) (e : f z = w) : ((xs.map f).map V.int)[i]? = some (.int w) := by
  rw [List.getElem?_map, List.getElem?_map, h, ← e]; rfl
theorem get_zz {xs ys : List Int} {f : Int → Int → Int} {i : Nat} {z u w : Int} (h : xs[i]? = some z) (g : ys[i]? = some u) (e : f z u = w) : ((List.zipWith f xs ys).map V.int)[i]? = some (.int w) := by
  rw [List.getElem?_map, List.getElem?_zipWith, h, g, ← e]; rfl
end L2
namespace L2
open PySem PySem.Spec PyProof.Rows StX
theorem flat_str (ns : List Str) : (ns.map V.str).all flatV = true := by
  rw [List.all_eq_true]; intro v hv; obtain ⟨z, _, rfl⟩ := List.mem_map.mp hv; rfl
theorem flat_int (ns : List Int) : (ns.map V.int).all flatV = true := by
  rw [List.all_eq_true]; intro v hv; obtain ⟨z, _, rfl⟩ := List.mem_map.mp hv; rfl
theorem inV_strs (x : Str) : ∀ ns : List Str, inV (.str x) (ns.map V.str) = decide (x ∈ ns)
  | [] => rfl
  | n :: ns => by
    have ih := inV_strs x ns
    unfold inV at *
    rw [List.map_cons, List.any_cons, ih]
    by_cases h : x = n
    · subst h
      simp [eqV]
    · have : decide (x ∈ n :: ns) = decide (x ∈ ns) := by simp [h]
      rw [this]
      have e : eqV (.str n) (.str x) = false := by
        simp [eqV]
        intro hh; exact h hh.symm
      first
      | rw [e, Bool.false_or]
      | (have e2 : eqV (.str x) (.str n) = false := by
          simp [eqV]
          exact h
         rw [e2, Bool.false_or])
end L2
namespace L2
open PySem PySem.Spec PyProof.Rows StX
theorem inV_kv (x : Str) (ns : List Str) : inV (kV (Sum.inr x)) (ns.map V.str) = decide (x ∈ ns) := inV_strs x ns
theorem valV_kv (n : Str) : ∀ kvs : List (Str × Int), (valV (kvs.map fun p => ((Sum.inr p.1 : Key), V.int p.2)) (Sum.inr n)) = ((kvs.find? fun p => decide (p.1 = n)).map (·.2)).map V.int
  | [] => rfl
  | p :: kvs => by
    have ih := valV_kv n kvs
    unfold valV at *
    rw [List.map_cons, List.find?_cons, List.find?_cons]
    by_cases h : p.1 = n
    · have e1 : decide ((Sum.inr p.1 : Key) = Sum.inr n) = true := decide_eq_true (by rw [h])
      have e2 : decide (p.1 = n) = true := decide_eq_true h
      simp only [e1, e2]
      rfl
    · have e1 : decide ((Sum.inr p.1 : Key) = Sum.inr n) = false := decide_eq_false (fun e => h (by injection e))
      have e2 : decide (p.1 = n) = false := decide_eq_false h
      simp only [e1, e2]
      exact ih
end L2
namespace L2
open PySem PySem.Spec PyProof.Rows StX
theorem dpStrs {K : PySem.W.Frag} {H : Hp} : ∀ xs : List Str, DpAll K H (xs.map V.str) (xs.map PyData.str)
  | [] => .nil
  | x :: xs => .cons (.str x) (dpStrs xs)
theorem eqvStrs : ∀ xs ys : List Str, PyData.eqvAll (xs.map PyData.str) (ys.map PyData.str) = decide (xs = ys)
  | [], [] => by simp [PyData.eqvAll]
  | [], _ :: _ => by simp [PyData.eqvAll]
  | _ :: _, [] => by simp [PyData.eqvAll]
  | x :: xs, y :: ys => by
    simp only [List.map_cons, PyData.eqvAll, eqvStrs xs ys, PyData.eqv]
    by_cases h : x = y
    · subst h; simp
    · simp [h]
theorem eqvSL (xs ys : List Str) : PyData.eqv (.list (xs.map PyData.str)) (.list (ys.map PyData.str)) = decide (xs = ys) := by simp only [PyData.eqv]; exact eqvStrs xs ys
theorem eqvST (xs ys : List Str) : PyData.eqv (.tuple (xs.map PyData.str)) (.tuple (ys.map PyData.str)) = decide (xs = ys) := by simp only [PyData.eqv]; exact eqvStrs xs ys
theorem eqvSL0 (xs : List Str) : PyData.eqv (.list (xs.map PyData.str)) (.list []) = decide (xs = []) := eqvSL xs []
theorem layStrs : ∀ xs : List Str, (∀ s ∈ xs, PyData.strOk s = true) → PyData.canLayAll0 (xs.map PyData.str) = true
  | [], _ => rfl
  | x :: xs, h => by
    show (PyData.strOk x && PyData.canLayAll0 (xs.map PyData.str)) = true
    rw [layStrs xs (fun s hs => h s (List.mem_cons_of_mem _ hs)), h x List.mem_cons_self]; rfl
theorem depStrs : ∀ xs : List Str, PyData.depthAll (xs.map PyData.str) = 0
  | [] => rfl
  | x :: xs => by
    simp only [List.map_cons, PyData.depthAll, depStrs xs, PyData.depth]
    rfl
theorem shSL {xs : List Str} (h : ∀ s ∈ xs, PyData.strOk s = true) : SeqAt.shaped (.list (xs.map PyData.str)) = true := by
  unfold SeqAt.shaped
  simp only [PyData.canLay0, PyData.depth, layStrs xs h, depStrs]
  rfl
theorem shST {xs : List Str} (h : ∀ s ∈ xs, PyData.strOk s = true) : SeqAt.shaped (.tuple (xs.map PyData.str)) = true := by
  unfold SeqAt.shaped
  simp only [PyData.canLay0, PyData.depth, layStrs xs h, depStrs]
  rfl
theorem at_ex {α : Type} {xs : List α} {r : Int} (h0 : 0 ≤ r) (h1 : r < xs.length) : ∃ c, atI xs r = some c := by
  obtain ⟨n, rfl⟩ : ∃ n : Nat, r = (n : Int) := ⟨r.toNat, by omega⟩
  exact ⟨xs[n]'(by omega), atI_nat (List.getElem?_eq_getElem (by omega))⟩
end L2
namespace L2
open PySem PySem.Spec PyProof.Rows StX
theorem but_same {H H1 H2 : Hp} {d : Addr} (s : Same H H1) (hd : H d = none) (b : SameBut d H1 H2) : Same H H2 := fun q o e => b q o (fun z => by rw [z, hd] at e; cases e) (s q o e)
end L2
namespace L2
open PySem PySem.Spec PyProof.Rows StX
theorem but_free {p q : Addr} {H H' : Hp} (s : SameBut p H H') (n : q ≠ p) (h : H' q = none) : H q = none := by
  cases e : H q with
  | none => rfl
  | some o => rw [s q o n e] at h; cases h
end L2
namespace L2
open PySem PySem.Spec PyProof.Rows StX
theorem erase_perm {α : Type} : ∀ (l : List α) (i : Nat) (h : i < l.length), (l[i] :: l.eraseIdx i).Perm l
  | a :: l, 0, _ => .refl _
  | a :: l, i + 1, h => by
    have hi : i < l.length := by simpa using h
    have ih := erase_perm l i hi
    show (l[i]'hi :: a :: l.eraseIdx i).Perm (a :: l)
    exact (List.Perm.swap _ _ _).trans (ih.cons a)
theorem map_erase {α β : Type} (f : α → β) : ∀ (l : List α) (i : Nat), (l.map f).eraseIdx i = (l.eraseIdx i).map f
  | [], _ => by simp
  | a :: l, 0 => rfl
  | a :: l, i + 1 => by
    show f a :: (l.map f).eraseIdx i = f a :: (l.eraseIdx i).map f
    rw [map_erase f l i]
end L2
namespace L2
open PySem PySem.Spec PyProof.Rows StX
theorem at_ref {L : List Addr} {w : Nat} (h : w < L.length) : atI (L.map V.ref) ((0 : Int) + (w : Nat)) = some (.ref (L.getD w 0)) := by
  rw [Int.zero_add]
  refine atI_nat ?_
  rw [List.getElem?_map, List.getElem?_eq_getElem h, List.getD_eq_getElem?_getD, List.getElem?_eq_getElem h]
  rfl
theorem str_ok {s : Str} (h : s.cps.all (· < 0x110000) = true) : PyData.strOk s = true := h
end L2
namespace L2
open PySem PySem.Spec PyProof.Rows StX
theorem eqv00 : PyData.eqv (.list []) (.list []) = true := by simp [PyData.eqv, PyData.eqvAll]
end L2
namespace L2
open PySem PySem.Spec PyProof.Rows StX
/-- `if c: R`, where c comes out false: what follows is read once, from any heap that the test may leave -/
theorem skip_if (G : Hp → Prop) {c : TT} {R rest : TS} {D : Ends} {σ : L2.St} {H : Hp} (h : ∀ Q : Bool → Hp → Prop, (∀ H', G H' → Q false H') → c σ H Q) (k : ∀ H', G H' → rest D σ H') : tSeq (tIfS c R tNext) rest D σ H :=
  h _ fun H' g => iteF (k H' g)
theorem skip_last (G : Hp → Prop) {c : TT} {R : TS} {D : Ends} {σ : L2.St} {H : Hp} (h : ∀ Q : Bool → Hp → Prop, (∀ H', G H' → Q false H') → c σ H Q) (k : ∀ H', G H' → D.nx σ H') : tIfS c R tNext D σ H :=
  h _ fun H' g => iteF (k H' g)
end L2
/-! notes: their trees, their texts, and what a reader from the left finds -/
namespace GN
open PySem TL
inductive N where
  | non
  | wrd (w : List Nat)
  | num (i : Int)
  | tup (ns : List N)
/-- the signs of an integer -/
def numT (i : Int) : List Nat := tl (Str.ofString (toString i))
mutual
def N.txt : N → List Nat
  | .non => [45]
  | .wrd w => w
  | .num i => numT i
  | .tup ns => 40 :: (N.txts ns ++ [41])
def N.txts : List N → List Nat
  | [] => []
  | n :: ns => N.txt n ++ N.more ns
def N.more : List N → List Nat
  | [] => []
  | n :: ns => 32 :: (N.txt n ++ N.more ns)
end
mutual
def N.dep : N → Nat
  | .non => 0
  | .wrd _ => 0
  | .num _ => 0
  | .tup ns => 1 + N.deps ns
def N.deps : List N → Nat
  | [] => 0
  | n :: ns => max (N.dep n) (N.deps ns)
end
mutual
def N.sz : N → Nat
  | .non => 1
  | .wrd _ => 1
  | .num _ => 1
  | .tup ns => 1 + N.szs ns
def N.szs : List N → Nat
  | [] => 0
  | n :: ns => N.sz n + N.szs ns
end
def wcs : List Nat := tl (Str.ofString "abcdefghijklmnopqrstuvwxyz0123456789-:")
def lets : List Nat := tl (Str.ofString "abcdefghijklmnopqrstuvwxyz")
def digs : List Nat := tl (Str.ofString "0123456789")
def WOk (w : List Nat) : Prop := w.length ≤ 24 ∧ ∃ c r, w = c :: r ∧ c ∈ lets ∧ ∀ d ∈ r, d ∈ wcs
mutual
def N.ok : N → Prop
  | .non => True
  | .wrd w => WOk w
  | .num i => i.natAbs < 10 ^ 200
  | .tup ns => N.oks ns
def N.oks : List N → Prop
  | [] => True
  | n :: ns => N.ok n ∧ N.oks ns
end
theorem oks_mem : ∀ {ns : List N}, N.oks ns ↔ ∀ n ∈ ns, N.ok n
  | [] => by simp [N.oks]
  | n :: ns => by simp [N.oks, oks_mem (ns := ns)]
theorem deps_le {k : Nat} : ∀ {ns : List N}, N.deps ns ≤ k ↔ ∀ n ∈ ns, N.dep n ≤ k
  | [] => by simp [N.deps]
  | n :: ns => by simp [N.deps, Nat.max_le, deps_le (ns := ns)]
theorem lets_wcs {c : Nat} (h : c ∈ lets) : c ∈ wcs := by
  have : ∀ c ∈ lets, c ∈ wcs := by decide +kernel
  exact this c h
theorem WOk.all {w : List Nat} (h : WOk w) : ∀ d ∈ w, d ∈ wcs := by
  obtain ⟨_, c, r, rfl, hc, hr⟩ := h
  intro d hd
  rcases List.mem_cons.mp hd with e | hd
  · rw [e]; exact lets_wcs hc
  · exact hr d hd
/-! ### the integer's signs -/
theorem numT_nat (m : Nat) : numT (m : Int) = numL m := tl_num m
theorem numT_neg (m : Nat) (h : 0 < m) : numT (-(m : Int)) = 45 :: numL m := by
  obtain ⟨k, rfl⟩ : ∃ k, m = k + 1 := ⟨m - 1, by omega⟩
  have e : (-((k + 1 : Nat) : Int)) = Int.negSucc k := rfl
  unfold numT
  rw [e, tl_ofString]
  show ("-" ++ Nat.repr (k + 1)).toList.map Char.toNat = _
  rw [String.toList_append, Nat.toList_repr, List.map_append]
  rfl
theorem numL_zero : numL 0 = [48] := numL_lt (by decide)
/-- the first sign of a number is no nought -/
theorem numL_head : ∀ (m : Nat), 0 < m → ∃ c r, numL m = c :: r ∧ 49 ≤ c ∧ c ≤ 57 := by
  intro m
  induction m using Nat.strongRecOn with
  | _ m ih =>
    intro h0
    by_cases h : m < 10
    · exact ⟨48 + m, [], numL_lt h, by omega, by omega⟩
    · obtain ⟨c, r, e, h1, h2⟩ := ih (m / 10) (by omega) (by omega)
      exact ⟨c, r ++ [48 + m % 10], by rw [numL_step (by omega), e]; rfl, h1, h2⟩
theorem digs_of {c : Nat} (h : 48 ≤ c ∧ c ≤ 57) : c ∈ digs := by
  have : ∀ d : Fin 10, 48 + d.val ∈ digs := by decide +kernel
  have e := this ⟨c - 48, by omega⟩
  have : 48 + (c - 48) = c := by omega
  rw [← this]; exact e
theorem digs_range {c : Nat} (h : c ∈ digs) : 48 ≤ c ∧ c ≤ 57 := by
  have : ∀ c ∈ digs, 48 ≤ c ∧ c ≤ 57 := by decide +kernel
  exact this c h
theorem numL_digs (m : Nat) : ∀ c ∈ numL m, c ∈ digs := fun c h => digs_of (numL_digits m c h)
/-! ### a reader from the left -/
inductive R where
  | bad (i : Nat)
  | got (n : N) (i : Nat)
def isN (t : List Nat) (i : Nat) : Bool := match t[i]? with
  | some c => decide (49 ≤ c ∧ c ≤ 57)
  | none => false
def run (cs : List Nat) (most : Nat) (t : List Nat) (i : Nat) : Nat := i + (((t.drop i).take most).takeWhile fun c => decide (c ∈ cs)).length
def cut (t : List Nat) (i j : Nat) : List Nat := (t.drop i).take (j - i)
def val (w : List Nat) : Int := (intText? ⟨w.toArray⟩).getD 0
def rnumF (t : List Nat) (i : Nat) : Nat := if t[i]? = some 45 then i + 1 else i
def rnum (t : List Nat) (i : Nat) : R :=
  if t[i]? = some 48 then .got (.num 0) (i + 1)
  else if isN t (rnumF t i) = true then .got (.num (val (cut t i (run digs 200 t (rnumF t i))))) (run digs 200 t (rnumF t i)) else .bad (rnumF t i)
def rleaf (t : List Nat) (i : Nat) : R := match t[i]? with
  | none => .bad i
  | some c => if c ∈ lets then .got (.wrd (cut t i (run wcs 24 t i))) (run wcs 24 t i)
    else if c = 45 ∧ isN t (i + 1) = false then .got .non (i + 1) else rnum t i
def rloop (f : Nat → R) (t : List Nat) : Nat → Nat → List N → R
  | 0, i, _ => .bad i
  | m + 1, i, acc => match f (i + 1) with
    | .bad b => .bad b
    | .got n j => if t[j]? = some 32 then rloop f t m j (acc ++ [n]) else if t[j]? = some 41 then .got (.tup (acc ++ [n])) (j + 1) else .bad j
def rpart (t : List Nat) : Nat → Nat → R
  | 0, i => if t[i]? = some 40 then .bad i else rleaf t i
  | r + 1, i => if t[i]? = some 40 then (if t[i + 1]? = some 41 then .got (.tup []) (i + 2) else rloop (rpart t r) t (t.length - i) i []) else rleaf t i
/-! ### what it finds in a text -/
def Delim (s : List Nat) : Prop := s = [] ∨ (∃ r, s = 32 :: r) ∨ ∃ r, s = 41 :: r
theorem at_zero (pre : List Nat) (c : Nat) (l : List Nat) : (pre ++ c :: l)[pre.length]? = some c := by
  rw [List.getElem?_append_right (Nat.le_refl _), Nat.sub_self]; rfl
theorem at_pre (pre l : List Nat) (j : Nat) : (pre ++ l)[pre.length + j]? = l[j]? := by
  rw [List.getElem?_append_right (by omega)]; congr 1; omega
theorem takeWhile_run {p : Nat → Bool} : ∀ {w suf : List Nat} {most : Nat}, (∀ c ∈ w, p c = true) → w.length ≤ most → (suf = [] ∨ ∃ c s, suf = c :: s ∧ p c = false) → ((w ++ suf).take most).takeWhile p = w
  | [], suf, most, _, _, hs => by
    rw [List.nil_append]
    rcases hs with rfl | ⟨c, s, rfl, h⟩
    · rw [List.take_nil, List.takeWhile_nil]
    · cases most with
      | zero => rfl
      | succ m => rw [List.take_succ_cons, List.takeWhile_cons, h]; rfl
  | c :: w, suf, 0, _, hl, _ => absurd hl (by simp)
  | c :: w, suf, most + 1, hw, hl, hs => by
    rw [List.cons_append, List.take_succ_cons, List.takeWhile_cons, hw c List.mem_cons_self]
    show c :: _ = _
    rw [takeWhile_run (fun d hd => hw d (List.mem_cons_of_mem _ hd)) (by simpa using hl) hs]
theorem run_eq {cs : List Nat} {most : Nat} {pre w suf : List Nat} (hw : ∀ c ∈ w, c ∈ cs) (hl : w.length ≤ most) (hs : suf = [] ∨ ∃ c s, suf = c :: s ∧ c ∉ cs) :
    run cs most (pre ++ (w ++ suf)) pre.length = pre.length + w.length := by
  unfold run
  rw [List.drop_left, takeWhile_run (fun c hc => decide_eq_true (hw c hc)) hl]
  rcases hs with h | ⟨c, s, h, hn⟩
  · exact .inl h
  · exact .inr ⟨c, s, h, decide_eq_false hn⟩
theorem cut_eq (pre w suf : List Nat) : cut (pre ++ (w ++ suf)) pre.length (pre.length + w.length) = w := by
  unfold cut
  rw [List.drop_left, Nat.add_sub_cancel_left, List.take_left]
theorem Delim.out {s : List Nat} (h : Delim s) : s = [] ∨ ∃ c r, s = c :: r ∧ c ∉ wcs ∧ c ∉ digs ∧ (49 ≤ c ∧ c ≤ 57 → False) := by
  rcases h with h | ⟨r, h⟩ | ⟨r, h⟩
  · exact .inl h
  · exact .inr ⟨32, r, h, by decide +kernel, by decide +kernel, by omega⟩
  · exact .inr ⟨41, r, h, by decide +kernel, by decide +kernel, by omega⟩
theorem Delim.w {s : List Nat} (h : Delim s) : s = [] ∨ ∃ c r, s = c :: r ∧ c ∉ wcs := by
  rcases h.out with h | ⟨c, r, h, a, _⟩
  · exact .inl h
  · exact .inr ⟨c, r, h, a⟩
theorem Delim.d {s : List Nat} (h : Delim s) : s = [] ∨ ∃ c r, s = c :: r ∧ c ∉ digs := by
  rcases h.out with h | ⟨c, r, h, _, a, _⟩
  · exact .inl h
  · exact .inr ⟨c, r, h, a⟩
theorem Delim.n {s pre : List Nat} (h : Delim s) : isN (pre ++ s) pre.length = false := by
  unfold isN
  rcases h.out with rfl | ⟨c, r, rfl, _, _, a⟩
  · rw [List.append_nil, List.getElem?_eq_none (Nat.le_refl _)]
  · rw [at_zero]; exact decide_eq_false a
theorem val_pos {m : Nat} (h : m < 10 ^ 200) : val (numL m) = (m : Int) := by
  have hl := numL_len (n := m) (k := 200) (by decide) h
  unfold val
  have e : intText? (⟨(numL m).toArray⟩ : Str) = some ((NumText.digitsVal (numL m) : Nat) : Int) :=
    intText_digits (x := ⟨(numL m).toArray⟩) (numL_digits m) (numL_ne m) (by rw [len_tl, tl_mk]; omega)
  rw [e, numL_val]; rfl
theorem val_neg {m : Nat} (h : m < 10 ^ 200) : val (45 :: numL m) = -(m : Int) := by
  have hl := numL_len (n := m) (k := 200) (by decide) h
  unfold val
  have e : intText? (⟨(45 :: numL m).toArray⟩ : Str) = some (-((NumText.digitsVal (numL m) : Nat) : Int)) :=
    intText_neg (x := ⟨(45 :: numL m).toArray⟩) (cs := numL m) rfl (numL_digits m) (numL_ne m) (by rw [len_tl, tl_mk, List.length_cons]; omega)
  rw [e, numL_val]; rfl
theorem lets_range {c : Nat} (h : c ∈ lets) : 97 ≤ c ∧ c ≤ 122 := by
  have : ∀ c ∈ lets, 97 ≤ c ∧ c ≤ 122 := by decide +kernel
  exact this c h
theorem rleaf_num (i : Int) (h : i.natAbs < 10 ^ 200) (pre suf : List Nat) (hd : Delim suf) : rleaf (pre ++ (numT i ++ suf)) pre.length = .got (.num i) (pre.length + (numT i).length) := by
  rcases Int.lt_trichotomy i 0 with hn | rfl | hp
  · obtain ⟨m, rfl⟩ : ∃ m : Nat, i = -(m : Int) := ⟨i.natAbs, by omega⟩
    have hm : 0 < m := by omega
    have hb : m < 10 ^ 200 := by simpa using h
    rw [numT_neg m hm]
    obtain ⟨c, r, e, h1, h2⟩ := numL_head m hm
    unfold rleaf
    rw [List.cons_append, at_zero]
    have hl : (45 : Nat) ∉ lets := by decide +kernel
    have e1 : pre ++ 45 :: (numL m ++ suf) = (pre ++ [45]) ++ (numL m ++ suf) := by simp
    have e2 : pre.length + 1 = (pre ++ [45]).length := by simp
    have hN : isN (pre ++ 45 :: (numL m ++ suf)) (pre.length + 1) = true := by
      unfold isN
      rw [e1, e2, e, List.cons_append, at_zero]
      exact decide_eq_true ⟨h1, h2⟩
    show (if (45 : Nat) ∈ lets then _ else if (45 : Nat) = 45 ∧ isN _ (pre.length + 1) = false then _ else rnum _ _) = _
    rw [if_neg hl, if_neg (by rw [hN]; intro z; cases z.2)]
    unfold rnum
    have hF : rnumF (pre ++ 45 :: (numL m ++ suf)) pre.length = pre.length + 1 := by unfold rnumF; rw [at_zero, if_pos rfl]
    rw [hF, hN, at_zero, if_neg (by decide), if_pos rfl]
    have hrun : run digs 200 (pre ++ 45 :: (numL m ++ suf)) (pre.length + 1) = pre.length + 1 + (numL m).length := by
      rw [e1, e2]; exact run_eq (numL_digs m) (numL_len (by decide) hb) hd.d
    rw [hrun]
    have hcut : cut (pre ++ 45 :: (numL m ++ suf)) pre.length (pre.length + 1 + (numL m).length) = 45 :: numL m := by
      have := cut_eq pre (45 :: numL m) suf
      rw [List.length_cons, List.cons_append] at this
      rw [← this]; congr 1; omega
    rw [hcut, val_neg hb, List.length_cons]
    congr 1
    omega
  · have e0 : numT 0 = [48] := (numT_nat 0).trans numL_zero
    rw [e0]
    unfold rleaf
    rw [List.cons_append, at_zero]
    have hl : (48 : Nat) ∉ lets := by decide +kernel
    show (if (48 : Nat) ∈ lets then _ else if (48 : Nat) = 45 ∧ _ then _ else rnum _ _) = _
    rw [if_neg hl, if_neg (by intro z; exact absurd z.1 (by decide))]
    unfold rnum
    rw [at_zero, if_pos rfl]
    rfl
  · obtain ⟨m, rfl⟩ : ∃ m : Nat, i = (m : Int) := ⟨i.natAbs, by omega⟩
    have hm : 0 < m := by omega
    have hb : m < 10 ^ 200 := by simpa using h
    rw [numT_nat m]
    obtain ⟨c, r, e, h1, h2⟩ := numL_head m hm
    have hat : (pre ++ (numL m ++ suf))[pre.length]? = some c := by rw [e, List.cons_append, at_zero]
    have hN : isN (pre ++ (numL m ++ suf)) pre.length = true := by
      unfold isN
      rw [hat]
      exact decide_eq_true ⟨h1, h2⟩
    unfold rleaf
    rw [hat]
    have hl : c ∉ lets := fun z => by have := lets_range z; omega
    show (if c ∈ lets then _ else if c = 45 ∧ _ then _ else rnum _ _) = _
    rw [if_neg hl, if_neg (by intro z; omega)]
    unfold rnum
    have hF : rnumF (pre ++ (numL m ++ suf)) pre.length = pre.length := by
      unfold rnumF; rw [hat, if_neg (by intro z; injection z; omega)]
    rw [hF, hN, hat, if_neg (by intro z; injection z; omega), if_pos rfl]
    rw [run_eq (numL_digs m) (numL_len (by decide) hb) hd.d, cut_eq, val_pos hb]
theorem rleaf_wrd {w : List Nat} (h : WOk w) (pre suf : List Nat) (hd : Delim suf) : rleaf (pre ++ (w ++ suf)) pre.length = .got (.wrd w) (pre.length + w.length) := by
  have ha := h.all
  obtain ⟨hl, c, r, e, hc, _⟩ := h
  have hat : (pre ++ (w ++ suf))[pre.length]? = some c := by rw [e, List.cons_append, at_zero]
  unfold rleaf
  rw [hat]
  show (if c ∈ lets then _ else _) = _
  rw [if_pos hc, run_eq ha hl hd.w, cut_eq]
theorem rleaf_non (pre suf : List Nat) (hd : Delim suf) : rleaf (pre ++ 45 :: suf) pre.length = .got .non (pre.length + 1) := by
  unfold rleaf
  rw [at_zero]
  have hl : (45 : Nat) ∉ lets := by decide +kernel
  have hN : isN (pre ++ 45 :: suf) (pre.length + 1) = false := by
    have := hd.n (pre := pre ++ [45])
    rw [List.length_append] at this
    rw [show pre ++ 45 :: suf = pre ++ [45] ++ suf by simp]
    exact this
  show (if (45 : Nat) ∈ lets then _ else if (45 : Nat) = 45 ∧ _ then _ else rnum _ _) = _
  rw [if_neg hl, if_pos ⟨rfl, hN⟩]
/-- the first sign of a note's text -/
theorem txt_head : ∀ {n : N}, n.ok → ∃ c r, n.txt = c :: r ∧ c ≠ 41 ∧ c ≠ 32
  | .non, _ => ⟨45, [], rfl, by decide, by decide⟩
  | .wrd w, h => by
    obtain ⟨_, c, r, e, hc, _⟩ := (show WOk w from h)
    have := lets_range hc
    exact ⟨c, r, e, by omega, by omega⟩
  | .num i, _ => by
    show ∃ c r, numT i = c :: r ∧ _
    rcases Int.lt_or_le i 0 with hn | hp
    · obtain ⟨m, rfl⟩ : ∃ m : Nat, i = -(m : Int) := ⟨i.natAbs, by omega⟩
      exact ⟨45, _, numT_neg m (by omega), by decide, by decide⟩
    · obtain ⟨m, rfl⟩ : ∃ m : Nat, i = (m : Int) := ⟨i.natAbs, by omega⟩
      rw [numT_nat]
      cases e : numL m with
      | nil => exact absurd e (numL_ne m)
      | cons c r =>
        have := numL_digits m c (by rw [e]; exact List.mem_cons_self)
        exact ⟨c, r, rfl, by omega, by omega⟩
  | .tup ns, _ => ⟨40, _, rfl, by decide, by decide⟩
theorem not40 {n : N} (h : n.ok) (ht : ∀ ns, n ≠ .tup ns) : ∃ c r, n.txt = c :: r ∧ c ≠ 40 := by
  cases n with
  | non => exact ⟨45, [], rfl, by decide⟩
  | wrd w =>
    obtain ⟨_, c, r, e, hc, _⟩ := (show WOk w from h)
    have := lets_range hc
    exact ⟨c, r, e, by omega⟩
  | num i =>
    show ∃ c r, numT i = c :: r ∧ _
    rcases Int.lt_or_le i 0 with hn | hp
    · obtain ⟨m, rfl⟩ : ∃ m : Nat, i = -(m : Int) := ⟨i.natAbs, by omega⟩
      exact ⟨45, _, numT_neg m (by omega), by decide⟩
    · obtain ⟨m, rfl⟩ : ∃ m : Nat, i = (m : Int) := ⟨i.natAbs, by omega⟩
      rw [numT_nat]
      cases e : numL m with
      | nil => exact absurd e (numL_ne m)
      | cons c r =>
        have := numL_digits m c (by rw [e]; exact List.mem_cons_self)
        exact ⟨c, r, rfl, by omega⟩
  | tup ns => exact absurd rfl (ht ns)
theorem more_len : ∀ ns : List N, ns.length ≤ (N.more ns).length
  | [] => Nat.le_refl _
  | n :: ns => by
    have := more_len ns
    simp only [N.more, List.length_cons, List.length_append]
    omega
def Reads (f : Nat → R) (t : List Nat) (n : N) : Prop := ∀ pre suf, t = pre ++ (n.txt ++ suf) → Delim suf → f pre.length = .got n (pre.length + n.txt.length)
theorem loop_txt {f : Nat → R} {t : List Nat} : ∀ (ns : List N) (n : N) (acc : List N) (m i : Nat) (pre suf : List Nat), (∀ x ∈ n :: ns, Reads f t x) → i + 1 = pre.length → ns.length < m → t = pre ++ (n.txt ++ (N.more ns ++ 41 :: suf)) →
    rloop f t m i acc = .got (.tup (acc ++ n :: ns)) (pre.length + n.txt.length + (N.more ns).length + 1)
  | [], n, acc, 0, _, _, _, _, _, hm, _ => absurd hm (by simp)
  | [], n, acc, m + 1, i, pre, suf, hr, hi, hm, ht => by
    have h := hr n List.mem_cons_self pre (41 :: suf) (by rw [ht]; rfl) (.inr (.inr ⟨_, rfl⟩))
    have hat : t[pre.length + n.txt.length]? = some 41 := by
      rw [ht, ← List.append_assoc]
      have := at_zero (pre ++ n.txt) 41 suf
      rw [List.length_append] at this
      exact this
    unfold rloop
    rw [hi, h]
    show (if t[pre.length + n.txt.length]? = some 32 then _ else if t[pre.length + n.txt.length]? = some 41 then _ else _) = _
    rw [hat, if_neg (by decide), if_pos rfl]
    rfl
  | n2 :: ns, n, acc, 0, _, _, _, _, _, hm, _ => absurd hm (by simp)
  | n2 :: ns, n, acc, m + 1, i, pre, suf, hr, hi, hm, ht => by
    have h := hr n List.mem_cons_self pre (32 :: (n2.txt ++ N.more ns) ++ 41 :: suf) (by rw [ht]; rfl) (.inr (.inl ⟨_, rfl⟩))
    have ht2 : t = (pre ++ n.txt ++ [32]) ++ (n2.txt ++ (N.more ns ++ 41 :: suf)) := by
      rw [ht]; simp [N.more]
    have hl2 : (pre ++ n.txt ++ [32]).length = pre.length + n.txt.length + 1 := by simp [Nat.add_assoc]
    have hat : t[pre.length + n.txt.length]? = some 32 := by
      rw [ht2, List.append_assoc]
      have := at_zero (pre ++ n.txt) 32 (n2.txt ++ (N.more ns ++ 41 :: suf))
      rw [List.length_append] at this
      exact this
    unfold rloop
    rw [hi, h]
    show (if t[pre.length + n.txt.length]? = some 32 then _ else _) = _
    rw [if_pos hat]
    rw [loop_txt ns n2 (acc ++ [n]) m (pre.length + n.txt.length) (pre ++ n.txt ++ [32]) suf (fun x hx => hr x (List.mem_cons_of_mem _ hx)) hl2.symm (by simpa using hm) ht2]
    rw [hl2, List.append_assoc]
    congr 1
    simp only [N.more, List.length_cons, List.length_append]
    omega
theorem rpart_leaf {t : List Nat} {r i : Nat} (h : t[i]? ≠ some 40) : rpart t r i = rleaf t i := by
  cases r <;> (unfold rpart; rw [if_neg h])
mutual
theorem rpart_txt {t : List Nat} : ∀ (n : N) (r : Nat), n.ok → n.dep ≤ r → Reads (rpart t r) t n
  | .non, r, _, _ => fun pre suf ht hd => by
    subst ht
    rw [rpart_leaf (by show (pre ++ 45 :: suf)[pre.length]? ≠ _; rw [at_zero]; decide)]
    exact rleaf_non pre suf hd
  | .wrd w, r, h, _ => fun pre suf ht hd => by
    subst ht
    obtain ⟨c, l, e, h40⟩ := not40 (n := .wrd w) h (fun _ z => nomatch z)
    rw [rpart_leaf (by rw [e, List.cons_append, at_zero]; intro z; injection z; contradiction)]
    exact rleaf_wrd h pre suf hd
  | .num i, r, h, _ => fun pre suf ht hd => by
    subst ht
    obtain ⟨c, l, e, h40⟩ := not40 (n := .num i) h (fun _ z => nomatch z)
    rw [rpart_leaf (by rw [e, List.cons_append, at_zero]; intro z; injection z; contradiction)]
    exact rleaf_num i h pre suf hd
  | .tup ns, 0, _, hr => absurd hr (by simp [N.dep])
  | .tup [], r + 1, _, _ => fun pre suf ht _ => by
    subst ht
    have h1 : (pre ++ ((N.tup []).txt ++ suf))[pre.length + 1]? = some 41 := by rw [at_pre]; rfl
    unfold rpart
    rw [if_pos (by show (pre ++ 40 :: _)[pre.length]? = _; rw [at_zero]), if_pos h1]
    rfl
  | .tup (n :: ns), r + 1, h, hr => fun pre suf ht hd => by
    have ih := rparts_txt (t := t) (n :: ns) r h (by simp only [N.dep] at hr; omega)
    have hn : n.ok := (oks_mem.mp h) n List.mem_cons_self
    obtain ⟨c, l, e, c41, _⟩ := txt_head hn
    have ht2 : t = (pre ++ [40]) ++ (n.txt ++ (N.more ns ++ 41 :: suf)) := by
      rw [ht]; simp [N.txt, N.txts]
    have hl2 : (pre ++ [40]).length = pre.length + 1 := by simp
    have h0 : t[pre.length]? = some 40 := by rw [ht]; show (pre ++ 40 :: _)[pre.length]? = _; rw [at_zero]
    have h1 : t[pre.length + 1]? ≠ some 41 := by
      rw [ht2, ← hl2, e, List.cons_append, at_zero]; intro z; injection z; contradiction
    have htl : t.length = pre.length + 1 + (n.txt.length + ((N.more ns).length + (suf.length + 1))) := by rw [ht2]; simp [Nat.add_assoc]; omega
    have hml := more_len ns
    unfold rpart
    rw [if_pos h0, if_neg h1, loop_txt ns n [] (t.length - pre.length) pre.length (pre ++ [40]) suf ih hl2.symm (by omega) ht2, hl2]
    congr 1
    simp only [N.txt, N.txts, List.length_cons, List.length_append, List.length_nil]
    omega
theorem rparts_txt {t : List Nat} : ∀ (ns : List N) (r : Nat), N.oks ns → N.deps ns ≤ r → ∀ x ∈ ns, Reads (rpart t r) t x
  | [], _, _, _ => fun x hx => absurd hx List.not_mem_nil
  | n :: ns, r, h, hr => fun x hx => by
    simp only [N.deps] at hr
    rcases List.mem_cons.mp hx with e | hx
    · rw [e]; exact rpart_txt n r h.1 (by omega)
    · exact rparts_txt ns r h.2 (by omega) x hx
end
/-! ### sizes -/
mutual
theorem sz_le : ∀ (n : N), n.ok → n.sz ≤ n.txt.length
  | .non, _ => by simp [N.sz, N.txt]
  | .wrd w, h => by
    obtain ⟨c, r, e, _⟩ := txt_head (n := .wrd w) h
    rw [e]; simp [N.sz]
  | .num i, h => by
    obtain ⟨c, r, e, _⟩ := txt_head (n := .num i) h
    rw [e]; simp [N.sz]
  | .tup ns, h => by
    have := szs_le ns h
    simp only [N.sz, N.txt, List.length_cons, List.length_append, List.length_nil]
    omega
theorem szs_le : ∀ (ns : List N), N.oks ns → N.szs ns ≤ (N.txts ns).length
  | [], _ => Nat.le_refl _
  | n :: ns, h => by
    have h1 := sz_le n h.1
    have h2 := szm_le ns h.2
    simp only [N.szs, N.txts, List.length_append]
    omega
theorem szm_le : ∀ (ns : List N), N.oks ns → N.szs ns ≤ (N.more ns).length
  | [], _ => Nat.le_refl _
  | n :: ns, h => by
    have h1 := sz_le n h.1
    have h2 := szm_le ns h.2
    simp only [N.szs, N.more, List.length_append, List.length_cons]
    omega
end
theorem join_more : ∀ (ns : List N) (n : N), joinL [32] ((n :: ns).map N.txt) = n.txt ++ N.more ns
  | [], n => by show n.txt = n.txt ++ []; rw [List.append_nil]
  | n2 :: ns, n => by
    have ih := join_more ns n2
    show n.txt ++ ([32] ++ joinL [32] ((n2 :: ns).map N.txt)) = _
    rw [ih]; rfl
theorem join_txts : ∀ ns : List N, joinL [32] (ns.map N.txt) = N.txts ns
  | [] => rfl
  | n :: ns => join_more ns n
theorem join_N (ns : List N) : Txt.join ⟨#[32]⟩ (ns.map fun n => SX.S n.txt) = SX.S (N.txts ns) := by
  have e : (ns.map fun n => SX.S n.txt) = (ns.map N.txt).map SX.S := by rw [List.map_map]; rfl
  have := SX.join_S [32] (ns.map N.txt)
  rw [join_txts] at this
  rw [e]; exact this
theorem more_sum : ∀ ns : List N, (N.more ns).length = (ns.map fun n => n.txt.length).sum + ns.length
  | [] => rfl
  | n :: ns => by
    simp only [N.more, List.length_cons, List.length_append, more_sum ns, List.map_cons, List.sum_cons]
    omega
theorem txts_sum (ns : List N) : (ns.map fun n => n.txt.length).sum + ns.length ≤ (N.txts ns).length + 1 := by
  cases ns with
  | nil => simp
  | cons n ns =>
    simp only [N.txts, List.length_append, more_sum, List.map_cons, List.sum_cons, List.length_cons]
    omega
theorem mem_txt_le {n : N} : ∀ {ns : List N}, n ∈ ns → n.txt.length ≤ (N.txts ns).length := by
  intro ns h
  have : ∀ ns : List N, n ∈ ns → n.txt.length ≤ (N.more ns).length := by
    intro ns
    induction ns with
    | nil => intro h; cases h
    | cons m ns ih =>
      intro h
      simp only [N.more, List.length_cons, List.length_append]
      rcases List.mem_cons.mp h with e | h
      · rw [e]; omega
      · have := ih h; omega
  cases ns with
  | nil => cases h
  | cons m ns =>
    simp only [N.txts, List.length_append]
    rcases List.mem_cons.mp h with e | h
    · rw [e]; omega
    · have := this ns h; omega
end GN
namespace GN
open PySem TL
theorem run_char {cs : List Nat} {most : Nat} {t : List Nat} {i k : Nat} (hk : k ≤ most) (hin : ∀ j, j < k → ∃ c, t[i + j]? = some c ∧ c ∈ cs) (hout : k = most ∨ t[i + k]? = none ∨ ∃ c, t[i + k]? = some c ∧ c ∉ cs) : run cs most t i = i + k := by
  have hl : ((t.drop i).take k).length = k := by
    rw [List.length_take, List.length_drop]
    cases k with
    | zero => simp
    | succ k =>
      obtain ⟨c, e, _⟩ := hin k (by omega)
      have := (List.getElem?_eq_some_iff.mp e).1
      omega
  have hall : ∀ c ∈ (t.drop i).take k, decide (c ∈ cs) = true := by
    intro c hc
    obtain ⟨j, hj⟩ := List.mem_iff_getElem?.mp hc
    have hjk : j < k := by have := (List.getElem?_eq_some_iff.mp hj).1; omega
    rw [List.getElem?_take_of_lt hjk, List.getElem?_drop] at hj
    obtain ⟨d, e, hd⟩ := hin j hjk
    rw [hj] at e; cases e
    exact decide_eq_true hd
  have split : t.drop i = (t.drop i).take k ++ t.drop (i + k) := by
    have := List.take_append_drop k (t.drop i)
    rw [List.drop_drop] at this
    exact this.symm
  unfold run
  by_cases hm : k = most
  · subst hm
    have : ((t.drop i).take k).takeWhile (fun c => decide (c ∈ cs)) = (t.drop i).take k := by
      exact PySem.NumText.takeWhile_all hall
    rw [this, hl]
  · rw [split, takeWhile_run hall (by omega), hl]
    rcases hout with h | h | ⟨c, h, hn⟩
    · exact absurd h hm
    · exact .inl (List.drop_eq_nil_iff.mpr (List.getElem?_eq_none_iff.mp h))
    · have hlt := (List.getElem?_eq_some_iff.mp h).1
      refine .inr ⟨c, t.drop (i + k + 1), ?_, decide_eq_false hn⟩
      rw [List.drop_eq_getElem_cons hlt, (List.getElem?_eq_some_iff.mp h).2]
theorem takeWhile_le {p : Nat → Bool} : ∀ (l : List Nat), (l.takeWhile p).length ≤ l.length
  | [] => Nat.le_refl _
  | c :: l => by
    rw [List.takeWhile_cons]
    split
    · have := takeWhile_le (p := p) l; simp; omega
    · simp
theorem run_le {cs : List Nat} {most : Nat} {t : List Nat} {i : Nat} (h : i ≤ t.length) : run cs most t i ≤ t.length := by
  unfold run
  have := takeWhile_le (p := fun c => decide (c ∈ cs)) ((t.drop i).take most)
  rw [List.length_take, List.length_drop] at this
  omega
theorem run_gt {cs : List Nat} {most : Nat} {t : List Nat} {i c : Nat} (h : t[i]? = some c) (hc : c ∈ cs) (hm : 0 < most) : i < run cs most t i := by
  unfold run
  obtain ⟨hlt, e⟩ := List.getElem?_eq_some_iff.mp h
  obtain ⟨m, rfl⟩ : ∃ m, most = m + 1 := ⟨most - 1, by omega⟩
  rw [List.drop_eq_getElem_cons hlt, e, List.take_succ_cons, List.takeWhile_cons, if_pos (decide_eq_true hc)]
  simp
theorem isN_at {t : List Nat} {i : Nat} (h : isN t i = true) : ∃ c, t[i]? = some c ∧ 49 ≤ c ∧ c ≤ 57 := by
  unfold isN at h
  cases e : t[i]? with
  | none => rw [e] at h; cases h
  | some c => rw [e] at h; exact ⟨c, rfl, of_decide_eq_true h⟩
theorem rnumF_ge {t : List Nat} {i : Nat} : i ≤ rnumF t i := by unfold rnumF; split <;> omega
theorem rnum_pos {t : List Nat} {i j : Nat} {n : N} (hi : i < t.length) (h : rnum t i = .got n j) : i < j ∧ j ≤ t.length := by
  unfold rnum at h
  split at h
  · cases h; omega
  · split at h
    · rename_i hN
      cases h
      obtain ⟨c, e, h1, h2⟩ := isN_at hN
      have := run_gt (most := 200) e (digs_of ⟨by omega, h2⟩) (by decide)
      have hl := (List.getElem?_eq_some_iff.mp e).1
      have := run_le (cs := digs) (most := 200) (Nat.le_of_lt hl)
      have := rnumF_ge (t := t) (i := i)
      omega
    · cases h
theorem rleaf_pos {t : List Nat} {i j : Nat} {n : N} (h : rleaf t i = .got n j) : i < j ∧ j ≤ t.length := by
  unfold rleaf at h
  cases e : t[i]? with
  | none => rw [e] at h; cases h
  | some c =>
    rw [e] at h
    have hl := (List.getElem?_eq_some_iff.mp e).1
    revert h
    show (if c ∈ lets then _ else if c = 45 ∧ isN t (i + 1) = false then _ else rnum t i) = _ → _
    split
    · rename_i hc
      intro h; cases h
      have := run_gt (most := 24) e (lets_wcs hc) (by decide)
      have := run_le (cs := wcs) (most := 24) (Nat.le_of_lt hl)
      omega
    · split
      · intro h; cases h; omega
      · exact fun h => rnum_pos hl h
theorem rloop_pos {f : Nat → R} {t : List Nat} (hf : ∀ i n j, f i = .got n j → i < j ∧ j ≤ t.length) : ∀ m i acc n j, rloop f t m i acc = .got n j → i < j ∧ j ≤ t.length
  | 0, i, acc, n, j, h => by unfold rloop at h; cases h
  | m + 1, i, acc, n, j, h => by
    unfold rloop at h
    cases e : f (i + 1) with
    | bad b => rw [e] at h; cases h
    | got k a =>
      rw [e] at h
      have p := hf _ _ _ e
      revert h
      show (if t[a]? = some 32 then _ else if t[a]? = some 41 then _ else _) = _ → _
      split
      · intro h
        have := rloop_pos hf m a _ n j h
        omega
      · split
        · rename_i h41
          intro h; cases h
          have := (List.getElem?_eq_some_iff.mp h41).1
          omega
        · intro h; cases h
def rtup (t : List Nat) (r i : Nat) : R := if t[i + 1]? = some 41 then .got (.tup []) (i + 2) else rloop (rpart t r) t (t.length - i) i []
def rtupS (t : List Nat) : Nat → Nat → R
  | 0, i => .bad i
  | r + 1, i => rtup t r i
theorem rpart_eq (t : List Nat) (r i : Nat) : rpart t r i = if t[i]? = some 40 then rtupS t r i else rleaf t i := by
  cases r <;> rfl
theorem rpart_pos {t : List Nat} : ∀ r i n j, rpart t r i = .got n j → i < j ∧ j ≤ t.length
  | 0, i, n, j, h => by
    rw [rpart_eq] at h
    split at h
    · cases h
    · exact rleaf_pos h
  | r + 1, i, n, j, h => by
    rw [rpart_eq] at h
    split at h
    · have h' : rtup t r i = .got n j := h
      unfold rtup at h'
      split at h'
      · rename_i h41
        cases h'
        have := (List.getElem?_eq_some_iff.mp h41).1
        omega
      · exact rloop_pos (rpart_pos r) _ _ _ _ _ h'
    · exact rleaf_pos h
end GN
namespace GN
open PySem TL
theorem takeWhile_pre {p : Nat → Bool} : ∀ (l : List Nat) (m : Nat), l.take ((l.take m).takeWhile p).length = (l.take m).takeWhile p
  | [], _ => by simp
  | c :: l, 0 => rfl
  | c :: l, m + 1 => by
    rw [List.take_succ_cons, List.takeWhile_cons]
    by_cases h : p c = true
    · rw [if_pos h, List.length_cons, List.take_succ_cons, takeWhile_pre l m]
    · rw [if_neg h]; rfl
theorem cut_run (cs : List Nat) (most : Nat) (t : List Nat) (i : Nat) : cut t i (run cs most t i) = ((t.drop i).take most).takeWhile fun c => decide (c ∈ cs) := by
  unfold cut run
  rw [Nat.add_sub_cancel_left]
  exact takeWhile_pre _ _
theorem takeWhile_mem {p : Nat → Bool} : ∀ {l : List Nat} {c : Nat}, c ∈ l.takeWhile p → p c = true
  | d :: l, c, h => by
    rw [List.takeWhile_cons] at h
    by_cases hp : p d = true
    · rw [if_pos hp] at h
      rcases List.mem_cons.mp h with e | h
      · rw [e]; exact hp
      · exact takeWhile_mem h
    · rw [if_neg hp] at h; cases h
theorem cut_all {cs : List Nat} {most : Nat} {t : List Nat} {i : Nat} : ∀ c ∈ cut t i (run cs most t i), c ∈ cs := fun c h => by
  rw [cut_run] at h
  exact of_decide_eq_true (takeWhile_mem h)
theorem cut_len {cs : List Nat} {most : Nat} {t : List Nat} {i : Nat} : (cut t i (run cs most t i)).length ≤ most := by
  rw [cut_run]
  have := takeWhile_le (p := fun c => decide (c ∈ cs)) ((t.drop i).take most)
  rw [List.length_take] at this
  omega
theorem cut_cons {t : List Nat} {i e c : Nat} (h : t[i]? = some c) (he : i < e) : cut t i e = c :: cut t (i + 1) e := by
  unfold cut
  obtain ⟨hlt, h2⟩ := List.getElem?_eq_some_iff.mp h
  rw [List.drop_eq_getElem_cons hlt, h2]
  obtain ⟨k, hk⟩ : ∃ k, e - i = k + 1 := ⟨e - i - 1, by omega⟩
  rw [hk, List.take_succ_cons]
  congr 2
  omega
/-- what is read as a number is one -/
theorem num_read {t : List Nat} {i : Nat} (h : isN t (rnumF t i) = true) : intText? (SX.S (cut t i (run digs 200 t (rnumF t i)))) = some (val (cut t i (run digs 200 t (rnumF t i)))) ∧ (cut t i (run digs 200 t (rnumF t i))).length ≤ 201 := by
  obtain ⟨c, hc, h1, h2⟩ := isN_at h
  have hgt := run_gt (most := 200) hc (digs_of (c := c) ⟨by omega, h2⟩) (by decide)
  have hall : NumText.AllDigits (cut t (rnumF t i) (run digs 200 t (rnumF t i))) := fun d hd => digs_range (cut_all d hd)
  have hne : cut t (rnumF t i) (run digs 200 t (rnumF t i)) ≠ [] := by rw [cut_cons hc hgt]; simp
  have hl := cut_len (cs := digs) (most := 200) (t := t) (i := rnumF t i)
  by_cases h45 : t[i]? = some 45
  · have hF : rnumF t i = i + 1 := by unfold rnumF; rw [if_pos h45]
    rw [hF] at hgt hall hne hl ⊢
    rw [cut_cons h45 (by omega)]
    have e : intText? (SX.S (45 :: cut t (i + 1) (run digs 200 t (i + 1)))) = _ := intText_neg (x := SX.S (45 :: cut t (i + 1) (run digs 200 t (i + 1)))) rfl hall hne (by rw [SX.S_len, List.length_cons]; omega)
    refine ⟨?_, by rw [List.length_cons]; omega⟩
    unfold val
    rw [e]; rfl
  · have hF : rnumF t i = i := by unfold rnumF; rw [if_neg h45]
    rw [hF] at hgt hall hne hl ⊢
    have e : intText? (SX.S (cut t i (run digs 200 t i))) = _ := intText_digits (x := SX.S (cut t i (run digs 200 t i))) hall hne (by rw [SX.S_len]; omega)
    refine ⟨?_, by omega⟩
    unfold val
    rw [e]; rfl
end GN
namespace GN
open PySem TL
theorem fold_lt : ∀ (cs : List Nat) (a : Nat), NumText.AllDigits cs → cs.foldl (fun acc c => acc * 10 + (c - 48)) a < (a + 1) * 10 ^ cs.length
  | [], a, _ => by simp
  | c :: cs, a, h => by
    have h1 := fold_lt cs (a * 10 + (c - 48)) h.tail
    have h2 := h.head
    rw [List.foldl_cons, List.length_cons, Nat.pow_succ]
    refine Nat.lt_of_lt_of_le h1 ?_
    have : a * 10 + (c - 48) + 1 ≤ (a + 1) * 10 := by omega
    calc (a * 10 + (c - 48) + 1) * 10 ^ cs.length ≤ ((a + 1) * 10) * 10 ^ cs.length := Nat.mul_le_mul_right _ this
      _ = (a + 1) * (10 ^ cs.length * 10) := by rw [Nat.mul_assoc, Nat.mul_comm 10]
theorem digits_lt {cs : List Nat} (h : NumText.AllDigits cs) : NumText.digitsVal cs < 10 ^ cs.length := by
  have := fold_lt cs 0 h
  rw [Nat.zero_add, Nat.one_mul] at this
  exact this
theorem fold_rep (x : Nat) : ∀ (n : Nat) (a : Array Nat), ((List.replicate n #[x]).foldl (· ++ ·) a).toList = a.toList ++ List.replicate n x
  | 0, a => by simp
  | n + 1, a => by
    rw [List.replicate_succ, List.foldl_cons, fold_rep x n (a ++ #[x]), List.replicate_succ]
    simp
theorem mul_rep (x : Nat) (n : Nat) (h : 1 ≤ n) : tl (Txt.mul ⟨#[x]⟩ (n : Int)) = List.replicate n x := by
  unfold Txt.mul
  rw [if_neg (by omega)]
  by_cases h1 : n = 1
  · subst h1; rfl
  · have e : (((n : Int) == 1) || ((⟨#[x]⟩ : Str).length == 0)) = false := by
      have : (((n : Int)) == 1) = false := by rw [beq_eq_false_iff_ne]; omega
      rw [this]; rfl
    rw [e, if_neg (by decide), Int.toNat_natCast]
    have := fold_rep x n #[]
    rw [show (#[] : Array Nat).toList = [] from rfl, List.nil_append] at this
    exact this
theorem nine {r : Int} (h0 : 0 ≤ r) (h1 : r < 200) : MulOk (Str.ofString "9") (1 + r) ∧ ∃ n : Int, intText? (Txt.mul (Str.ofString "9") (1 + r)) = some n ∧ n.natAbs < 10 ^ 200 ∧ (Txt.mul (Str.ofString "9") (1 + r)).length ≤ 640 := by
  obtain ⟨n, e⟩ : ∃ n : Nat, 1 + r = (n : Int) := ⟨(1 + r).toNat, by omega⟩
  have hn1 : 1 ≤ n := by omega
  have hn2 : n ≤ 200 := by omega
  have e9 : Str.ofString "9" = ⟨#[57]⟩ := by decide +kernel
  rw [e, e9]
  have hT := mul_rep 57 n hn1
  have hL : (Txt.mul ⟨#[57]⟩ (n : Int)).length = n := by rw [len_tl, hT, List.length_replicate]
  have hd : NumText.AllDigits (tl (Txt.mul ⟨#[57]⟩ (n : Int))) := by
    rw [hT]; intro c hc; rw [(List.mem_replicate.mp hc).2]; omega
  refine ⟨⟨?_, fun _ _ => ?_, fun _ _ => ?_⟩, (NumText.digitsVal (tl (Txt.mul ⟨#[57]⟩ (n : Int))) : Nat), ?_, ?_, by rw [hL]; omega⟩
  · rw [Bool.or_eq_false_iff]; exact ⟨decide_eq_false (by omega), decide_eq_false (by omega)⟩
  · show ¬ ((1 : Nat) : Int) > (2 ^ 63 - 1) / (n : Int)
    have : (1 : Int) ≤ (2 ^ 63 - 1) / (n : Int) := by
      rw [Int.le_ediv_iff_mul_le (by omega)]; omega
    omega
  · show Builtin.Str.tooLong (1 * (n : Int).toNat) = false
    rw [Int.toNat_natCast]
    exact decide_eq_false (by rw [sizeLine_eq]; omega)
  · exact intText_digits hd (by rw [show (Txt.mul ⟨#[57]⟩ (n : Int)).cps.toList = _ from hT]; intro z; rw [List.replicate_eq_nil_iff] at z; omega) (by rw [hL]; omega)
  · have := digits_lt hd
    rw [hT, List.length_replicate] at this
    rw [hT]
    show (NumText.digitsVal (List.replicate n 57)) < 10 ^ 200
    exact Nat.lt_of_lt_of_le this (Nat.pow_le_pow_right (by decide) hn2)
end GN
/-! list(zip(a, b)) of two tuples of one length: each pair that came out stays in the list, so that the next one is new -/
namespace GZ
open PySem
section
variable {prog : Program} {w : World} {A : Around} {E : Value → Shared → Prop} {s : Shared} {z TI TO T j1 j2 a b : Addr} {f : Bool} {oT : Obj} {n1 n2 : Nat} {xs ys : Array Value} {x y : Value}
theorem held_item {Q : Value → Shared → Prop} (D : ZipApart z TI TO j1 j2 a b) (hZ : IsZipHeld s.heap z TI TO T f) (hT : s.heap.get? T = some oT) (hP : IsPair s.heap TI (.ref j1) (.ref j2))
    (it1 : s.heap.IsTupleIter j1 a n1) (it2 : s.heap.IsTupleIter j2 b n2) (ta : s.heap.IsTuple a xs) (tb : s.heap.IsTuple b ys) (ex : xs[n1]? = some x) (ey : ys[n2]? = some y)
    (q : ∀ h', IsZipHeld h' z TI TO T true → h'.IsTupleIter j1 a (n1 + 1) → h'.IsTupleIter j2 b (n2 + 1) → IsPair h' s.heap.objs.size x y → (∀ c o, c ≠ z → c ≠ j1 → c ≠ j2 → s.heap.get? c = some o → h'.get? c = some o) →
      Q (.ref s.heap.objs.size) { s with heap := h' }) :
    wpAny (model prog w) A (Builtin.«zip.__next__» ⟨[.ref z], []⟩) (fun fin s' => ∃ v, fin = .done (.ret v) ∧ Q v s') E s := by
  show wpAny (model prog w) A (field (.ref z) 2 >>= _) _ _ _
  refine wpAny_bind (wpAny_field (x := .bool false) hZ rfl rfl ?_)
  show wpAny (model prog w) A (field (.ref z) 3 >>= _) _ _ _
  refine wpAny_bind (wpAny_field (x := .ref TI) hZ rfl rfl (wpAny_bind (wpAny_seqItems hP rfl ?_)))
  show wpAny (model prog w) A (Builtin.SmallTypes.ownedTupleIsFree (.ref z) >>= _) _ _ _
  refine wpAny_bind (wpAny_tupleHeld_zip hZ hT fun u1 Z1 b1 => ?_)
  simp only [Bool.false_eq_true, if_false]
  refine wpAny_bind ?_
  rw [← Array.forIn_toList]
  simp only [List.forIn_cons, List.forIn_nil]
  refine wpAny_bind (wpAny_bind (wpAny_holding ?_))
  show wpAny (model prog w) A (Builtin.SmallTypes.nextOf (.ref j1) >>= _) _ _ _
  have e1 := b1.extBut
  refine wpAny_bind (RZ.nextOf_tuple_item (s := { s with heap := u1 }) (it1.extBut e1 D.i1z) (ta.extBut e1 D.l1z) ex fun u2 I2 b2 => wpAny_pure (wpAny_pure ?_))
  have e2 := b2.extBut
  refine wpAny_bind (wpAny_bind (wpAny_holding ?_))
  show wpAny (model prog w) A (Builtin.SmallTypes.nextOf (.ref j2) >>= _) _ _ _
  refine wpAny_bind (RZ.nextOf_tuple_item (s := { s with heap := u2 }) ((it2.extBut e1 D.i2z).extBut e2 D.i12.symm) ((tb.extBut e1 D.l2z).extBut e2 D.l2i1) ey fun u3 I3 b3 => wpAny_pure (wpAny_pure (wpAny_pure ?_)))
  have e3 := b3.extBut
  show wpAny (model prog w) A (newTuple [x, y] >>= _) _ _ _
  refine wpAny_bind (wpAny_newTuple ?_)
  have sz : u3.objs.size = s.heap.objs.size := (b3.1.trans b2.1).trans b1.1
  have up : ∀ c o, c ≠ z → c ≠ j1 → c ≠ j2 → s.heap.get? c = some o → u3.get? c = some o := fun c o c1 c2 c3 e => e3 _ _ c3 (e2 _ _ c2 (e1 _ _ c1 e))
  refine wpAny_pure ⟨_, rfl, ?_⟩
  show Q (.ref u3.objs.size) _
  have new : IsPair (u3.push { cls := .type "tuple", data := .seq #[x, y] }) u3.objs.size x y := Heap.get?_push_size _ rfl
  rw [sz] at new ⊢
  exact q _ (Heap.get?_push_of_some _ (e3 _ _ D.i2z.symm (e2 _ _ D.i1z.symm Z1))) ((I2.extBut e3 D.i12).at fun o e => Heap.get?_push_of_some _ e) (I3.at fun o e => Heap.get?_push_of_some _ e) new
    fun c o c1 c2 c3 e => Heap.get?_push_of_some _ (up c o c1 c2 c3 e)
theorem held_end {Q : Fin → Shared → Prop} (hh : A.handled = none) (D : ZipApart z TI TO j1 j2 a b) (hZ : IsZipHeld s.heap z TI TO T f) (hT : s.heap.get? T = some oT) (hP : IsPair s.heap TI (.ref j1) (.ref j2))
    (it1 : s.heap.IsTupleIter j1 a n1) (ta : s.heap.IsTuple a xs) (ex : xs[n1]? = none)
    (q : ∀ h' e, (∀ c o, c ≠ z → c ≠ j1 → c ≠ j2 → s.heap.get? c = some o → h'.get? c = some o) → (∃ o, h'.get? e = some o ∧ o.cls = .type "StopIteration") → E (.ref e) { s with heap := h' }) :
    wpAny (model prog w) A (Builtin.«zip.__next__» ⟨[.ref z], []⟩) Q E s := by
  show wpAny (model prog w) A (field (.ref z) 2 >>= _) _ _ _
  refine wpAny_bind (wpAny_field (x := .bool false) hZ rfl rfl ?_)
  show wpAny (model prog w) A (field (.ref z) 3 >>= _) _ _ _
  refine wpAny_bind (wpAny_field (x := .ref TI) hZ rfl rfl (wpAny_bind (wpAny_seqItems hP rfl ?_)))
  show wpAny (model prog w) A (Builtin.SmallTypes.ownedTupleIsFree (.ref z) >>= _) _ _ _
  refine wpAny_bind (wpAny_tupleHeld_zip hZ hT fun u1 Z1 b1 => ?_)
  simp only [Bool.false_eq_true, if_false]
  refine wpAny_bind ?_
  rw [← Array.forIn_toList]
  simp only [List.forIn_cons, List.forIn_nil]
  refine wpAny_bind (wpAny_bind (wpAny_holding ?_))
  show wpAny (model prog w) A (Builtin.SmallTypes.nextOf (.ref j1) >>= _) _ _ _
  have e1 := b1.extBut
  exact wpAny_bind (RZ.nextOf_tuple_end (s := { s with heap := u1 }) hh (it1.extBut e1 D.i1z) (ta.extBut e1 D.l1z) ex fun u2 e b2 he => q u2 e (fun c o c1 c2 _ k => b2 _ _ c2 (e1 _ _ c1 k)) he)
theorem py_item {Q : Option Value → Shared → Prop} (D : ZipApart z TI TO j1 j2 a b) (hZ : IsZipHeld s.heap z TI TO T f) (hT : s.heap.get? T = some oT) (hP : IsPair s.heap TI (.ref j1) (.ref j2))
    (it1 : s.heap.IsTupleIter j1 a n1) (it2 : s.heap.IsTupleIter j2 b n2) (ta : s.heap.IsTuple a xs) (tb : s.heap.IsTuple b ys) (ex : xs[n1]? = some x) (ey : ys[n2]? = some y)
    (q : ∀ h', IsZipHeld h' z TI TO T true → h'.IsTupleIter j1 a (n1 + 1) → h'.IsTupleIter j2 b (n2 + 1) → IsPair h' s.heap.objs.size x y → (∀ c o, c ≠ z → c ≠ j1 → c ≠ j2 → s.heap.get? c = some o → h'.get? c = some o) →
      Q (some (.ref s.heap.objs.size)) { s with heap := h' }) : wpAny (model prog w) A (pyNext (.ref z)) Q E s := by
  have ty : s.TypeIs (.ref z) "zip" := ⟨_, hZ, rfl⟩
  unfold pyNext
  refine wpAny_bind (wpAny_attempt (wpAny_callSpecial?_slot (name := Str.ofString "__next__") ty F.slot_zip_next (wpAny_call_entry F.slot_zip_next ty F.entry_zip_next ?_ (F.args_zip_next_1 _))))
  exact held_item D hZ hT hP it1 it2 ta tb ex ey fun h' c1 c2 c3 c4 c5 => wpAny_pure (q h' c1 c2 c3 c4 c5)
theorem py_end {Q : Option Value → Shared → Prop} (hh : A.handled = none) (D : ZipApart z TI TO j1 j2 a b) (hZ : IsZipHeld s.heap z TI TO T f) (hT : s.heap.get? T = some oT) (hP : IsPair s.heap TI (.ref j1) (.ref j2))
    (it1 : s.heap.IsTupleIter j1 a n1) (ta : s.heap.IsTuple a xs) (ex : xs[n1]? = none)
    (q : ∀ h', (∀ c o, c ≠ z → c ≠ j1 → c ≠ j2 → s.heap.get? c = some o → h'.get? c = some o) → Q none { s with heap := h' }) : wpAny (model prog w) A (pyNext (.ref z)) Q E s := by
  have ty : s.TypeIs (.ref z) "zip" := ⟨_, hZ, rfl⟩
  unfold pyNext
  refine wpAny_bind (wpAny_attempt (wpAny_callSpecial?_slot (name := Str.ofString "__next__") ty F.slot_zip_next (wpAny_call_entry F.slot_zip_next ty F.entry_zip_next (held_end hh D hZ hT hP it1 ta ex fun h' e k he => ?_) (F.args_zip_next_1 _))))
  obtain ⟨o, ho, hc⟩ := he
  exact wpAny_bind (wpAny_isInstance (T := "StopIteration") (b := true) ⟨o, ho, hc⟩ isSubtype_stop (wpAny_pure (q _ k)))
/-- nothing is said of the length of a zip -/
theorem zip_hint {Q : Bool → Shared → Prop} (ty : s.TypeIs (.ref z) "zip") (q : Q true s) : wpAny (model prog w) A (Builtin.List.listLengthHint (.ref z)) Q E s := by
  unfold Builtin.List.listLengthHint
  refine wpAny_bind (wpAny_specialOf ty (r := none) (by rw [typeLookup_type, builtinLookup_eq_fast]; kernel_rfl) ?_)
  refine PySem.W.KFB.if_not rfl (PySem.W.KFB.if_not rfl ?_)
  exact wpAny_bind (wpAny_specialOf ty (r := none) (by rw [typeLookup_type, builtinLookup_eq_fast]; kernel_rfl) (wpAny_pure q))
end
end GZ
namespace L2
open PySem PySem.Spec PyProof.Rows StX
/-- a zip at z over the tuples at a and b, i pairs of which have come out -/
def ZSt (H : Hp) (h : Heap) (z TI TO j1 j2 a b : Addr) (i : Nat) : Prop := IsPair h TI (.ref j1) (.ref j2) ∧ h.IsTupleIter j1 a i ∧ h.IsTupleIter j2 b i ∧ (∃ o, h.get? TO = some o) ∧ ((IsZip h z TI TO .none ∧ ∃ x y, IsPair h TO x y) ∨ ∃ T f p, IsZipHeld h z TI TO T f ∧ H T = some (.tup p))
section
variable {X : Cx} {pins : List (Addr × Obj)} {σ : L2.St} {H : Hp} {s : Shared} {z TI TO j1 j2 a b q : Addr} {i : Nat} {xs ys : List V} {x y : V} {A : Around}
theorem ZSt.keep {H' : Hp} {h h' : Heap} (st : ZSt H h z TI TO j1 j2 a b i) (k : ∀ c ∈ [z, TI, TO, j1, j2], ∀ o, h.get? c = some o → h'.get? c = some o) (t : ∀ T p, H T = some (.tup p) → H' T = some (.tup p)) : ZSt H' h' z TI TO j1 j2 a b i := by
  obtain ⟨c1, c2, c3, ⟨o0, c0⟩, c4⟩ := st
  refine ⟨k TI (by simp) _ c1, c2.at fun o e => k j1 (by simp) o e, c3.at fun o e => k j2 (by simp) o e, ⟨o0, k TO (by simp) _ c0⟩, ?_⟩
  rcases c4 with ⟨e, u, v, e2⟩ | ⟨T, f, p, e, e2⟩
  · exact .inl ⟨k z (by simp) _ e, u, v, k TO (by simp) _ e2⟩
  · exact .inr ⟨T, f, p, k z (by simp) _ e, t T p e2⟩
theorem zip_turn {E : Value → Shared → Prop} {Q : Option Value → Shared → Prop} (I : Inv X pins σ H s) (D : ZipApart z TI TO j1 j2 a b) (fp : ∀ c ∈ [z, TI, TO, j1, j2], FpOk X pins H c) (st : ZSt H s.heap z TI TO j1 j2 a b i)
    (qa : SqT X.K H a xs) (qb : SqT X.K H b ys) (ex : xs[i]? = some x) (ey : ys[i]? = some y)
    (k : ∀ T h', H T = none → (∀ c ∈ [z, TI, TO, j1, j2], T ≠ c) → Inv X pins σ (upd H T (.tup [x, y])) { s with heap := h' } → ZSt (upd H T (.tup [x, y])) h' z TI TO j1 j2 a b (i + 1) → Q (some (.ref T)) { s with heap := h' }) :
    wpAny (model X.prog X.w) A (pyNext (.ref z)) Q E s := by
  obtain ⟨P1, t1, t2, ⟨o0, c0⟩, c4⟩ := st
  obtain ⟨us, rv, pa, _⟩ := I.tuple qa
  obtain ⟨ws, rw_, pb, _⟩ := I.tuple qb
  obtain ⟨u, hu, ru⟩ := rv.get ex
  obtain ⟨v, hv, rw2⟩ := rw_.get ey
  have fr : H s.heap.objs.size = none := I.hok.fresh (Nat.le_refl _)
  have made : ∀ h', IsPair h' s.heap.objs.size u v → (∀ c o, c ∉ [z, TI, TO, j1, j2] → s.heap.get? c = some o → h'.get? c = some o) → Inv X pins σ (upd H s.heap.objs.size (.tup [x, y])) { s with heap := h' } := fun h' e kp =>
    I.turnedNew (t' := s.toks) (ch := [z, TI, TO, j1, j2]) kp fp (Nat.le_refl _) ⟨by show 2 ≤ sizeLine; decide, [u, v], .cons ru (.cons rw2 .nil), ⟨_, e, rfl, _, rfl⟩⟩
  have lt : ∀ {c o}, s.heap.get? c = some o → s.heap.objs.size ≠ c := fun e => Nat.ne_of_gt (Heap.lt_size e)
  have lt1 : s.heap.objs.size ≠ j1 := let ⟨_, e, _⟩ := t1; lt e
  have lt2 : s.heap.objs.size ≠ j2 := let ⟨_, e, _⟩ := t2; lt e
  rcases c4 with ⟨Z, u0, v0, P2⟩ | ⟨T0, f, p, Z, hT0⟩
  · refine RZ.pyNext_zipT_item D Z P1 P2 t1 t2 pa pb (x := u) (y := v) (by simpa using hu) (by simpa using hv) fun h' Z' P2' t1' t2' e _ kp => ?_
    refine k s.heap.objs.size h' fr ?_ (made h' e fun c o hc => kp c o (fun w => hc (by simp [w])) (fun w => hc (by simp [w])) (fun w => hc (by simp [w])) fun w => hc (by simp [w])) ⟨kp _ _ D.TIz D.TITO D.TIi1 D.TIi2 P1, t1', t2', ⟨_, P2'⟩, .inr ⟨_, false, _, Z', upd_same⟩⟩
    intro c hc
    simp only [List.mem_cons, List.not_mem_nil, or_false] at hc
    rcases hc with e | e | e | e | e
    · rw [e]; exact lt Z
    · rw [e]; exact lt P1
    · rw [e]; exact lt P2
    · rw [e]; exact lt1
    · rw [e]; exact lt2
  · obtain ⟨_, _, ⟨oT, eT, _⟩, _⟩ := I.tuple (show SqT X.K H T0 p from SqT.of hT0)
    refine GZ.py_item D Z eT P1 t1 t2 pa pb (x := u) (y := v) (by simpa using hu) (by simpa using hv) fun h' Z' t1' t2' e kp => ?_
    refine k s.heap.objs.size h' fr ?_ (made h' e fun c o hc => kp c o (fun w => hc (by simp [w])) (fun w => hc (by simp [w])) fun w => hc (by simp [w])) ⟨kp _ _ D.TIz D.TIi1 D.TIi2 P1, t1', t2', ⟨o0, kp _ _ D.TOz D.TOi1 D.TOi2 c0⟩, .inr ⟨T0, true, p, Z', by rw [upd_ne (ne_of_none hT0 fr)]; exact hT0⟩⟩
    intro c hc
    simp only [List.mem_cons, List.not_mem_nil, or_false] at hc
    rcases hc with e | e | e | e | e
    · rw [e]; exact lt Z
    · rw [e]; exact lt P1
    · rw [e]; exact lt c0
    · rw [e]; exact lt1
    · rw [e]; exact lt2
theorem zip_stop {E : Value → Shared → Prop} {Q : Option Value → Shared → Prop} (hh : A.handled = none) (I : Inv X pins σ H s) (D : ZipApart z TI TO j1 j2 a b) (fp : ∀ c ∈ [z, TI, TO, j1, j2], FpOk X pins H c) (st : ZSt H s.heap z TI TO j1 j2 a b i)
    (qa : SqT X.K H a xs) (qb : SqT X.K H b ys) (ex : xs.length ≤ i) (k : ∀ h', Inv X pins σ H { s with heap := h' } → Q none { s with heap := h' }) : wpAny (model X.prog X.w) A (pyNext (.ref z)) Q E s := by
  obtain ⟨P1, t1, t2, ⟨o0, c0⟩, c4⟩ := st
  obtain ⟨us, rv, pa, _⟩ := I.tuple qa
  obtain ⟨ws, rw_, pb, _⟩ := I.tuple qb
  have el := rv.length
  have no : us.toArray[i]? = none := by simp; omega
  rcases c4 with ⟨Z, u0, v0, P2⟩ | ⟨T0, f, p, Z, hT0⟩
  · exact RZ.pyNext_zipT_end hh D Z P1 P2 t1 t2 pa pb (.inl no) fun h' kp => k h' (I.turnedL (t' := s.toks) (ch := [z, TI, TO, j1, j2]) (fun c o hc => kp c o (fun w => hc (by simp [w])) (fun w => hc (by simp [w])) (fun w => hc (by simp [w])) fun w => hc (by simp [w])) fp)
  · obtain ⟨_, _, ⟨oT, eT, _⟩, _⟩ := I.tuple (show SqT X.K H T0 p from SqT.of hT0)
    exact GZ.py_end hh D Z eT P1 t1 pa no fun h' kp => k h' (I.turnedL (t' := s.toks) (ch := [z, TI, TO, j1, j2]) (fun c o hc => kp c o (fun w => hc (by simp [w])) (fun w => hc (by simp [w])) fun w => hc (by simp [w])) fp)
/-- the pairs at ts are those of xs and ys, as far as they go -/
def Pairs (H : Hp) (xs ys : List V) (ts : List Addr) : Prop := ∀ (j : Nat) (T : Addr) (x y : V), ts[j]? = some T → xs[j]? = some x → ys[j]? = some y → H T = some (.tup [x, y])
theorem zl_loop {Rs : Result → Shared → Prop} {H0 : Hp} (hh : A.in1.handled = none) (D : ZipApart z TI TO j1 j2 a b) (el : xs.length = ys.length) (sz : xs.length ≤ sizeLine) (qa : SqT X.K H0 a xs) (qb : SqT X.K H0 b ys) (fq : H0 q = none)
    (done : ∀ (ts : List Addr) (H : Hp) (s : Shared), Inv X pins σ H s → Same H0 H → H q = some (.lst (ts.map V.ref)) → ts.length = xs.length → Pairs H xs ys ts → Rs (.ok (.ret .none)) s) (err : ∀ e s, X.xe e s → Rs (.error e) s) :
    ∀ (m i : Nat) (ts : List Addr) (H : Hp) (s : Shared), m + i = xs.length → Inv X pins σ H s → (∀ c ∈ [z, TI, TO, j1, j2], FpOk X pins H c ∧ c ≠ q) → ZSt H s.heap z TI TO j1 j2 a b i → Same H0 H → H q = some (.lst (ts.map V.ref)) → ts.length = i → Pairs H xs ys ts →
      codeAny (model X.prog X.w) A (.builtin "list.extend.loop" ⟨[.ref q, .ref z, .none], []⟩) Rs s := by
  intro m
  induction m with
  | zero =>
    intro i ts H s hm I fp st sm hq hl hp
    refine codeAny_builtin PySem.F.entry_extend_loop ?_
    rw [Around.under_plainId PySem.F.plain_extend_loop]
    show wpAny (model X.prog X.w) A.in1 (pyNext (.ref z) >>= _) _ _ s
    refine wpAny_bind (zip_stop hh I D (fun c hc => (fp c hc).1) st (sm.seqT qa) (sm.seqT qb) (by omega) fun h' I' => wpAny_pure ?_)
    exact done ts H _ I' sm hq (by omega) hp
  | succ m ih =>
    intro i ts H s hm I fp st sm hq hl hp
    refine codeAny_builtin PySem.F.entry_extend_loop ?_
    rw [Around.under_plainId PySem.F.plain_extend_loop]
    show wpAny (model X.prog X.w) A.in1 (pyNext (.ref z) >>= _) _ _ s
    obtain ⟨x, ex⟩ : ∃ x, xs[i]? = some x := ⟨_, List.getElem?_eq_getElem (by omega)⟩
    obtain ⟨y, ey⟩ : ∃ y, ys[i]? = some y := ⟨_, List.getElem?_eq_getElem (by omega)⟩
    refine wpAny_bind (zip_turn I D (fun c hc => (fp c hc).1) st (sm.seqT qa) (sm.seqT qb) ex ey fun T h' fT nT I' st' => ?_)
    show wpAny (model X.prog X.w) A.in1 (updateSeq q (·.push (.ref T)) >>= _) _ _ _
    have nTq : q ≠ T := fun w => by rw [w, fT] at hq; cases hq
    have hq' : upd H T (.tup [x, y]) q = some (.lst (ts.map V.ref)) := by rw [upd_ne nTq]; exact hq
    obtain ⟨z0, its, n, r2, hl2, e⟩ := I'.lstM hq'
    rw [List.length_map] at hl2 z0
    have big : its.toArray.size < sizeLine := by rw [List.size_toArray]; omega
    refine wpAny_bind (wpAny_updateSeq e rfl (wpAny_pure ⟨plainId_quiet PySem.F.plain_extend_loop _, ?_⟩) (Nat.le_of_lt big) (by rw [Array.size_push]; omega))
    have I2 := I'.lset (its' := its ++ [.ref T]) (ys := (ts ++ [T]).map V.ref) (t' := s.toks) hq' e (f := (·.push (.ref T))) (by simp) (by rw [List.map_append]; exact r2.append (.cons rfl .nil)) (by rw [List.length_map, List.length_append, List.length_singleton]; omega)
    have sm1 : Same H (upd H T (.tup [x, y])) := same_new fT
    have sm2 : Same H0 (upd (upd H T (.tup [x, y])) q (.lst ((ts ++ [T]).map V.ref))) := same_put (sm.trans sm1) fq
    have keepT : ∀ T' p, H T' = some (.tup p) → upd (upd H T (.tup [x, y])) q (.lst ((ts ++ [T]).map V.ref)) T' = some (.tup p) := fun T' p e' => by
      rw [upd_ne (fun w => by rw [w, hq] at e'; cases e')]
      exact sm1 _ _ e'
    refine ih (i + 1) (ts ++ [T]) _ _ (by omega) I2 ?_ ?_ sm2 upd_same (by rw [List.length_append, hl]; rfl) ?_
    · intro c hc
      obtain ⟨⟨f1, f2⟩, nc⟩ := fp c hc
      exact ⟨⟨by rw [upd_ne nc, upd_ne (nT c hc).symm]; exact f1, f2⟩, nc⟩
    · refine st'.keep (fun c hc o e' => ?_) fun T' p e' => ?_
      · exact (Heap.get?_update_other _ _ (fp c hc).2.symm).trans e'
      · rw [upd_ne (fun w => by rw [w, hq'] at e'; cases e')]; exact e'
    · intro j T' x' y' h1 h2 h3
      by_cases hj : j < i
      · rw [List.getElem?_append_left (by omega)] at h1
        exact keepT _ _ (hp j T' x' y' h1 h2 h3)
      · have hj' : j = ts.length := by
          have := (List.getElem?_eq_some_iff.mp h1).1
          rw [List.length_append] at this
          simp at this
          omega
        rw [hj', List.getElem?_append_right (Nat.le_refl _), Nat.sub_self] at h1
        cases h1
        rw [hj', hl] at h2 h3
        rw [ex] at h2; rw [ey] at h3
        cases h2; cases h3
        rw [upd_ne nTq.symm]; exact upd_same
/-- list(z) of a zip that has not begun -/
theorem zip_list {Q : VK} (hh : X.A.handled = none) (I : Inv X pins σ H s) (D : ZipApart z TI TO j1 j2 a b) (fp : ∀ c ∈ [z, TI, TO, j1, j2], FpOk X pins H c) (st : ZSt H s.heap z TI TO j1 j2 a b 0) (Z : IsZip s.heap z TI TO .none)
    (qa : SqT X.K H a xs) (qb : SqT X.K H b ys) (el : xs.length = ys.length)
    (k : ∀ (q : Addr) (ts : List Addr) (H' : Hp), H q = none → Same H H' → H' q = some (.lst (ts.map V.ref)) → ts.length = xs.length → Pairs H' xs ys ts → Q (.ref q) H') :
    wpAny (model X.prog X.w) X.A (call (.type "list") [.ref z]) (EP X pins σ Q) X.xe s := by
  obtain ⟨_, _, _, sz⟩ := I.tuple qa
  have fr : H s.heap.objs.size = none := I.hok.fresh (Nat.le_refl _)
  have nq : ∀ c ∈ [z, TI, TO, j1, j2], c ≠ s.heap.objs.size := by
    obtain ⟨P1, ⟨_, t1, _⟩, ⟨_, t2, _⟩, ⟨o0, c0⟩, _⟩ := st
    intro c hc
    simp only [List.mem_cons, List.not_mem_nil, or_false] at hc
    rcases hc with e | e | e | e | e
    · rw [e]; exact Nat.ne_of_lt (Heap.lt_size Z)
    · rw [e]; exact Nat.ne_of_lt (Heap.lt_size P1)
    · rw [e]; exact Nat.ne_of_lt (Heap.lt_size c0)
    · rw [e]; exact Nat.ne_of_lt (Heap.lt_size t1)
    · rw [e]; exact Nat.ne_of_lt (Heap.lt_size t2)
  refine callType_codes (Q₁ := fun obj s1 => obj = .ref s.heap.objs.size ∧ s1 = { s with heap := s.heap.push { cls := .type "list", data := .seq #[] } }) PySem.F.called_list (PySem.F.typeCall_list_1 _) PySem.F.entry_list_init (code_list_new _ ⟨rfl, rfl⟩) fun obj s1 h1 => ?_
  obtain ⟨rfl, rfl⟩ := h1
  have eS : (s.heap.push { cls := .type "list", data := .seq #[] }).get? s.heap.objs.size = some { cls := .type "list", data := .seq #[] } := Heap.get?_push_size _ rfl
  refine ⟨⟨_, eS, rfl⟩, PySem.F.args_list_init_2 _ _, ?_⟩
  have I1 : Inv X pins σ (upd H s.heap.objs.size (.lst [])) { s with heap := s.heap.push { cls := .type "list", data := .seq #[] } } := I.lnew (its := []) (t' := s.toks) .nil (Nat.zero_le _)
  show wpAny (model X.prog X.w) _ (do let old ← Builtin.List.listItems (.ref s.heap.objs.size); Builtin.List.listUpdate (.ref s.heap.objs.size) (fun _ => #[]); letGo old.toList.reverse; Builtin.List.listExtendWith (.ref s.heap.objs.size) (.ref z) .none) _ _ _
  refine wpAny_bind ?_
  unfold Builtin.List.listItems
  refine wpAny_bind (wpAny_seqItems eS rfl (wpAny_pure ?_))
  show wpAny (model X.prog X.w) _ (updateSeq s.heap.objs.size (fun _ => #[]) >>= fun _ => letGo (#[] : Array Value).toList.reverse >>= fun _ => Builtin.List.listExtendWith (.ref s.heap.objs.size) (.ref z) .none) _ _ _
  refine wpAny_bind (wpAny_updateSeq eS rfl (wpAny_bind (wpAny_letGo ?_)))
  have I2 := I1.lset (f := fun _ => #[]) (its := []) (its' := []) (ys := []) (t' := s.toks) upd_same eS rfl .nil (Nat.zero_le _)
  rw [upd_upd] at I2
  have hq : upd H s.heap.objs.size (.lst []) s.heap.objs.size = some (.lst (([] : List Addr).map V.ref)) := upd_same
  have s0 : Same H (upd H s.heap.objs.size (.lst [])) := same_new fr
  have fp2 : ∀ c ∈ [z, TI, TO, j1, j2], FpOk X pins (upd H s.heap.objs.size (.lst [])) c ∧ c ≠ s.heap.objs.size := fun c hc => ⟨⟨by rw [upd_ne (nq c hc)]; exact (fp c hc).1, (fp c hc).2⟩, nq c hc⟩
  have st2 : ∀ h', (∀ c ∈ [z, TI, TO, j1, j2], ∀ o, s.heap.get? c = some o → h'.get? c = some o) → ZSt (upd H s.heap.objs.size (.lst [])) h' z TI TO j1 j2 a b 0 := fun h' kp => st.keep kp fun T p e => s0 _ _ e
  have kp2 : ∀ c ∈ [z, TI, TO, j1, j2], ∀ o, s.heap.get? c = some o → ((s.heap.push { cls := .type "list", data := .seq #[] }).update s.heap.objs.size (Obj.mapSeq fun _ => #[])).get? c = some o := fun c hc o e =>
    (Heap.get?_update_other _ _ (nq c hc).symm).trans (Heap.get?_push_of_some _ e)
  have Z2 := kp2 z (by simp) _ Z
  have ne : s.heap.objs.size ≠ z := (nq z (by simp)).symm
  have ty : ∀ tk, ({ s with heap := (s.heap.push { cls := .type "list", data := .seq #[] }).update s.heap.objs.size (Obj.mapSeq fun _ => #[]), toks := tk } : Shared).TypeIs (.ref z) "zip" := fun tk => ⟨_, Z2, rfl⟩
  have go : ∀ (h' : Heap) (t' : Nat), Inv X pins σ (upd H s.heap.objs.size (.lst [])) { s with heap := h', toks := t' } → (∀ c ∈ [z, TI, TO, j1, j2], ∀ o, s.heap.get? c = some o → h'.get? c = some o) →
      codeAny (model X.prog X.w) X.A.in1 (.builtin "list.extend.loop" ⟨[.ref s.heap.objs.size, .ref z, .none], []⟩) (wants (fun r s2 => r = .none ∧ EP X pins σ Q (.ref s.heap.objs.size) s2) X.xe) { s with heap := h', toks := t' } := fun h' t' I' kp =>
    zl_loop (A := X.A.in1) (H0 := H) (q := s.heap.objs.size) hh D el sz qa qb fr (fun ts H' s' I' sm hq' hl hp => ⟨rfl, .ref s.heap.objs.size, H', I', rfl, k _ ts H' fr sm hq' hl hp⟩) (fun e s' he => he) xs.length 0 [] _ _ (by omega) I' fp2 (st2 h' kp) s0 hq rfl (fun j T x y h => by cases h)
  unfold Builtin.List.listExtendWith
  refine wpAny_bind (wpAny_typeOf (ty s.toks) ?_)
  have n1 : Builtin.List.listSameRef (.ref s.heap.objs.size) (.ref z) = false := by simp [Builtin.List.listSameRef, ne]
  have n2 : (Value.type "zip" == Value.type "list") = false := by decide
  have n3 : (Value.type "zip" == Value.type "tuple") = false := by decide
  simp only [n1, n2, n3, Bool.or_false, Bool.false_eq_true, if_false]
  refine wpAny_bind (wpAny_pyIter_zip Z2 (wpAny_bind (wpAny_holding (GZ.zip_hint (ty s.toks) ?_))))
  refine wpAny_ite_split (fun _ => ?_) (fun w => absurd rfl w)
  obtain ⟨z0, its, n, r3, hl3, e3⟩ := I2.lstM upd_same
  cases r3
  refine wpAny_bind (wpAny_rule (wpAny_bind ?_))
  show wpAny (model X.prog X.w) _ (updateSeq s.heap.objs.size (·.push .none) >>= fun _ => updateSeq s.heap.objs.size (·.pop)) _ _ _
  refine wpAny_bind (wpAny_updateSeq e3 rfl ?_)
  have I3 := I2.lset (f := (·.push Value.none)) (its' := [Value.none]) (ys := [.non]) (t' := s.toks) upd_same e3 (by simp) (.cons rfl .nil) (by rw [List.length_singleton, sizeLine_eq]; decide)
  obtain ⟨z4, its4, n4, r4, hl4, e4⟩ := I3.lstM upd_same
  obtain ⟨u4, rfl, ru4⟩ := r4.one
  refine wpAny_updateSeq e4 rfl ?_ (by show 1 ≤ sizeLine; rw [sizeLine_eq]; decide) (by show 0 ≤ sizeLine + 1; exact Nat.zero_le _)
  have I4 := I3.lset (f := (·.pop)) (its := [u4]) (its' := []) (ys := []) (t' := s.toks) upd_same e4 (by rfl) .nil (Nat.zero_le _)
  rw [upd_upd, upd_upd] at I4
  refine wpAny_pure ⟨plainId_quiet PySem.F.plain_extend_loop _, go _ _ I4 fun c hc o e => ?_⟩
  have nc := (nq c hc).symm
  exact (Heap.get?_update_other _ _ nc).trans ((Heap.get?_update_other _ _ nc).trans (kp2 c hc o e))
end
/-- list(zip(a, b)) -/
def tLz (K : PySem.W.Frag) (ta : TA) : TE := fun σ H Q => ta σ H fun vs H1 => ∃ a b xs ys, vs = [.ref a, .ref b] ∧ SqT K H1 a xs ∧ SqT K H1 b ys ∧ xs.length = ys.length ∧
  ∀ (q : Addr) (ts : List Addr) (H' : Hp), H1 q = none → Same H1 H' → H' q = some (.lst (ts.map V.ref)) → ts.length = xs.length → Pairs H' xs ys ts → Q (.ref q) H'
theorem pe_listZip {X : Cx} {e e2 : Expr} {ta : TA} {p p2 pos pos2 : Pos} (hc : X.calm = true) (hg : Gl X "list") (hm : X.mg "list" = none) (hg2 : Gl X "zip") (hm2 : X.mg "zip" = none) (ha : PA X [e, e2] ta)
    (hs : starEach [e, e2] X.env = (false, eval e X.env) :: starEach [e2] X.env := by rfl) (hpl : (backTo pos2 (starEach [e2] X.env)).any (·.1) = false := by rfl)
    (na : starEach [.Call (.Name "zip" p2) [e, e2] [] pos2] X.env = (false, eval (.Call (.Name "zip" p2) [e, e2] [] pos2) X.env) :: starEach [] X.env := by rfl) :
    PE X (.Call (.Name "list" p) [.Call (.Name "zip" p2) [e, e2] [] pos2] [] pos) (tLz X.K ta) := by
  refine ⟨fun pins s σ H Q I h => ?_⟩
  refine Call_ (ld_blt I hg hm boot_list (PyProof.Rows.callWith_type1 (args_cons (Call_ (ld_blt I hg2 hm2 PyProof.Rows.boot_zip (PyProof.Rows.callWith_type1 (thn (ha.run pos2 pins s σ H _ I h) fun us s1 ⟨vs, H1, I1, r1, q1⟩ => ?_) hs hpl))) na) na))
  obtain ⟨a, b, xs, ys, ex, qa, qb, el, k⟩ := q1
  subst ex
  cases r1 with
  | cons ra rr =>
    cases rr with
    | cons rb rr =>
      cases rr
      cases ra
      cases rb
      obtain ⟨its, rv, p1, _⟩ := I1.tuple qa
      obtain ⟨its2, rv2, p3, _⟩ := I1.tuple qb
      obtain ⟨o1, ho1, _⟩ := id p1
      obtain ⟨o2, ho2, _⟩ := id p3
      refine RZ.call_zipT (show s1.heap.IsTuple a its.toArray from p1) (show s1.heap.IsTuple b its2.toArray from p3) fun h' Z P1 P2 t1 t2 _ kp => args_nil ?_
      have I2 : Inv X pins σ H1 { s1 with heap := h' } := I1.kept (t' := s1.toks) kp
      refine zip_list (I2.ok.hd hc) I2 (PySem.W.ktu_apart s1.heap.objs.size a b (Heap.lt_size ho1) (Heap.lt_size ho2)) (fun c hcm => ?_) ⟨P1, t1, t2, ⟨_, P2⟩, .inl ⟨Z, _, _, P2⟩⟩ Z qa qb el k
      have hle : s1.heap.objs.size ≤ c := by
        simp only [List.mem_cons, List.not_mem_nil, or_false] at hcm
        rcases hcm with w | w | w | w | w
        · rw [w]; exact Nat.le_add_right _ _
        · rw [w]; exact Nat.le_add_right _ _
        · rw [w]; exact Nat.le_add_right _ _
        · rw [w]; exact Nat.le_refl _
        · rw [w]; exact Nat.le_add_right _ _
      exact I1.fpOk hle (I1.hok.fresh hle)
end L2
namespace L2
open PySem PySem.Spec PyProof.Rows StX
/-- text * n -/
def rMulS : R2 := fun x y H Q => ∃ z n, x = .str z ∧ y = .int n ∧ MulOk z n ∧ Q (.str (Txt.mul z n)) H
theorem op_mul_str {X : Cx} : OpR X (binaryOp .Mult) rMulS := by
  intro pins s σ H x y v u Q I rx ry h
  obtain ⟨z, n, rfl, rfl, ok, q⟩ := h
  obtain ⟨t, rfl⟩ := rx
  obtain ⟨t', rfl⟩ := ry
  exact SB.mul ok fun t' tk => ⟨.str (Txt.mul z n), H, I.tok _, ⟨_, rfl⟩, q⟩
/-- str(x) of an integer or a text -/
def rStr2 : List V → Hp → VK → Prop := fun xs H Q => (∃ i, xs = [.int i] ∧ i.natAbs.log2 < 1920 ∧ Q (.str (toString i)) H) ∨ ∃ a, xs = [.str a] ∧ Q (.str a) H
theorem call_str2 {X : Cx} : CallR X (.type "str") rStr2 := by
  intro pins s σ H xs us Q I r h
  rcases h with h | h
  · exact call_str_int _ _ _ _ _ _ _ I r h
  · exact SkE.call_str_str _ _ _ _ _ _ _ I r h
end L2
namespace GN
open PySem TL L2
/-! ### notes in memory -/
mutual
def NoteAt (H : Hp) : N → V → Prop
  | .non, v => v = .non
  | .wrd w, v => v = .str ⟨w.toArray⟩
  | .num i, v => v = .int i
  | .tup ns, v => ∃ (a : Addr) (vs : List V), v = .ref a ∧ H a = some (.tup vs) ∧ NotesAt H ns vs
def NotesAt (H : Hp) : List N → List V → Prop
  | [], vs => vs = []
  | n :: ns, vs => ∃ v r, vs = v :: r ∧ NoteAt H n v ∧ NotesAt H ns r
end
def Tups (H H' : Hp) : Prop := ∀ (a : Addr) xs, H a = some (.tup xs) → H' a = some (.tup xs)
theorem Tups.refl {H : Hp} : Tups H H := fun _ _ h => h
theorem Tups.trans {H H1 H2 : Hp} (a : Tups H H1) (b : Tups H1 H2) : Tups H H2 := fun x y h => b x y (a x y h)
theorem tups_same {H H' : Hp} (s : Same H H') : Tups H H' := fun a xs h => s a _ h
theorem tups_put {H H' : Hp} {l : Addr} {xs ys : List V} (t : Tups H H') (h : H' l = some (.lst xs)) : Tups H (upd H' l (.lst ys)) := fun a zs e => by
  have e' := t a zs e
  rw [upd_ne (fun z => by rw [z, h] at e'; cases e')]
  exact e'
theorem tups_nw {H H' : Hp} {l : Addr} {o : HO} (t : Tups H H') (h : H' l = none) : Tups H (upd H' l o) := t.trans (tups_same (same_new h))
theorem tups_but {H H' : Hp} {p : Addr} {xs : List V} (s : SameBut p H H') (h : H p = some (.lst xs)) : Tups H H' := fun a ys e => s a _ (fun z => by rw [z, h] at e; cases e) e
mutual
theorem NoteAt.mono {H H' : Hp} (t : Tups H H') : ∀ {n : N} {v : V}, NoteAt H n v → NoteAt H' n v
  | .non, _, h => h
  | .wrd _, _, h => h
  | .num _, _, h => h
  | .tup ns, _, h => by
    obtain ⟨a, vs, e, ha, hs⟩ := h
    exact ⟨a, vs, e, t a vs ha, NotesAt.mono t hs⟩
theorem NotesAt.mono {H H' : Hp} (t : Tups H H') : ∀ {ns : List N} {vs : List V}, NotesAt H ns vs → NotesAt H' ns vs
  | [], _, h => h
  | n :: ns, _, h => by
    obtain ⟨v, r, e, h1, h2⟩ := h
    exact ⟨v, r, e, NoteAt.mono t h1, NotesAt.mono t h2⟩
end
theorem NotesAt.len {H : Hp} : ∀ {ns : List N} {vs : List V}, NotesAt H ns vs → vs.length = ns.length
  | [], _, h => by rw [(show _ = [] from h)]; rfl
  | n :: ns, _, h => by
    obtain ⟨v, r, e, _, h2⟩ := h
    rw [e, List.length_cons, List.length_cons, NotesAt.len h2]
theorem NotesAt.get {H : Hp} : ∀ {ns : List N} {vs : List V} {i : Nat} {v : V}, NotesAt H ns vs → vs[i]? = some v → ∃ n, ns[i]? = some n ∧ NoteAt H n v
  | [], _, _, _, h, e => by rw [(show _ = [] from h)] at e; cases e
  | n :: ns, _, 0, _, h, e => by
    obtain ⟨u, r, rfl, h1, _⟩ := h
    cases e
    exact ⟨n, rfl, h1⟩
  | n :: ns, _, i + 1, _, h, e => by
    obtain ⟨u, r, rfl, _, h2⟩ := h
    have ih := NotesAt.get (i := i) h2 (show r[i]? = some _ from e)
    exact ih
theorem NotesAt.snoc {H : Hp} {n : N} {v : V} (hv : NoteAt H n v) : ∀ {ns : List N} {vs : List V}, NotesAt H ns vs → NotesAt H (ns ++ [n]) (vs ++ [v])
  | [], _, h => by rw [(show _ = [] from h)]; exact ⟨v, [], rfl, hv, rfl⟩
  | m :: ns, _, h => by
    obtain ⟨u, r, rfl, h1, h2⟩ := h
    exact ⟨u, r ++ [v], rfl, h1, NotesAt.snoc hv h2⟩
end GN
namespace GN
open PySem TL L2
/-! ### pairs of two notes that are alike -/
def PairAt (H : Hp) (n : N) (v : V) : Prop := ∃ (T : Addr) (x y : V), v = .ref T ∧ H T = some (.tup [x, y]) ∧ NoteAt H n x ∧ NoteAt H n y
def PrsAt (H : Hp) : List N → List V → Prop
  | [], vs => vs = []
  | n :: ns, vs => ∃ v r, vs = v :: r ∧ PairAt H n v ∧ PrsAt H ns r
theorem PairAt.mono {H H' : Hp} (t : Tups H H') {n : N} {v : V} (h : PairAt H n v) : PairAt H' n v := by
  obtain ⟨T, x, y, e, hT, hx, hy⟩ := h
  exact ⟨T, x, y, e, t _ _ hT, hx.mono t, hy.mono t⟩
theorem PrsAt.mono {H H' : Hp} (t : Tups H H') : ∀ {ns : List N} {vs : List V}, PrsAt H ns vs → PrsAt H' ns vs
  | [], _, h => h
  | _ :: _, _, h => by
    obtain ⟨v, r, e, h1, h2⟩ := h
    exact ⟨v, r, e, h1.mono t, PrsAt.mono t h2⟩
theorem PrsAt.app {H : Hp} {ms : List N} {us : List V} (hu : PrsAt H ms us) : ∀ {ns : List N} {vs : List V}, PrsAt H ns vs → PrsAt H (ns ++ ms) (vs ++ us)
  | [], _, h => by rw [(show _ = [] from h)]; exact hu
  | n :: ns, _, h => by
    obtain ⟨v, r, rfl, h1, h2⟩ := h
    exact ⟨v, r ++ us, rfl, h1, PrsAt.app hu h2⟩
theorem PrsAt.last {H : Hp} {v : V} : ∀ {ns : List N} {r : List V}, PrsAt H ns (r ++ [v]) → ∃ ns' n, ns = ns' ++ [n] ∧ PrsAt H ns' r ∧ PairAt H n v
  | [], r, h => absurd (show r ++ [v] = [] from h) (by simp)
  | n :: ns, [], h => by
    obtain ⟨u, q, e, h1, h2⟩ := h
    injection e with e1 e2
    subst e1 e2
    cases ns with
    | nil => exact ⟨[], n, rfl, rfl, h1⟩
    | cons m ms => obtain ⟨_, _, e, _⟩ := h2; cases e
  | n :: ns, w :: r, h => by
    obtain ⟨u, q, e, h1, h2⟩ := h
    injection e with e1 e2
    subst e1 e2
    obtain ⟨ns', m, e, h3, h4⟩ := PrsAt.last h2
    exact ⟨n :: ns', m, by rw [e]; rfl, ⟨w, r, rfl, h1, h3⟩, h4⟩
theorem PrsAt.len {H : Hp} : ∀ {ns : List N} {vs : List V}, PrsAt H ns vs → vs.length = ns.length
  | [], _, h => by rw [(show _ = [] from h)]; rfl
  | n :: ns, _, h => by
    obtain ⟨v, r, e, _, h2⟩ := h
    rw [e, List.length_cons, List.length_cons, PrsAt.len h2]
theorem szs_app : ∀ (a b : List N), N.szs (a ++ b) = N.szs a + N.szs b
  | [], b => by simp [N.szs]
  | n :: a, b => by simp only [List.cons_append, N.szs, szs_app a b]; omega
theorem sz_pos : ∀ n : N, 1 ≤ n.sz
  | .non => Nat.le_refl _
  | .wrd _ => Nat.le_refl _
  | .num _ => Nat.le_refl _
  | .tup ns => by simp only [N.sz]; omega
theorem len_szs : ∀ ns : List N, ns.length ≤ N.szs ns
  | [] => Nat.le_refl _
  | n :: ns => by
    have := len_szs ns
    have := sz_pos n
    simp only [N.szs, List.length_cons]; omega
theorem prs_of {H : Hp} : ∀ {ns : List N} {xs ys : List V} {ts : List Addr}, NotesAt H ns xs → NotesAt H ns ys → ts.length = xs.length → Pairs H xs ys ts → PrsAt H ns (ts.map V.ref)
  | [], xs, _, ts, hx, _, hl, _ => by
    rw [(show xs = [] from hx)] at hl
    rw [List.length_eq_zero_iff.mp hl]; rfl
  | n :: ns, _, _, ts, hx, hy, hl, hp => by
    obtain ⟨x, xr, rfl, hx1, hx2⟩ := hx
    obtain ⟨y, yr, rfl, hy1, hy2⟩ := hy
    cases ts with
    | nil => simp at hl
    | cons T ts =>
      refine ⟨.ref T, ts.map V.ref, rfl, ⟨T, x, y, rfl, hp 0 T x y rfl rfl rfl, hx1, hy1⟩, ?_⟩
      exact prs_of hx2 hy2 (by simpa using hl) fun j T' x' y' h1 h2 h3 => hp (j + 1) T' x' y' h1 h2 h3
end GN
/-! a classmethod: called off its class (in a try's body too), and the class made by the name that holds it; f'..' -/
namespace L2
open PySem PySem.Spec PyProof.Rows StX
section
variable {P : Program} {w : World} {K : PySem.W.Frag} {mg : Str → Option Value} {base : Heap} {CX : CXT} {k : Nat} {f : Addr} {sp : Sp}
theorem FnOk.toR {fd : FuncData} {ps : List Str} (F : FnOk P w K mg base CX k f fd ps sp) (hb : Binds K fd ps []) : FnR P w K mg base CX k f sp :=
  (F.raw hb .nil).imp fun vs H Q E h => by rw [List.append_nil]; exact h
end
section
variable {X : Cx} {CX : CXT} {k i : Nat} {f C p g q : Addr} {mc : Value} {fd : FuncData} {ps : List Str} {sp : Sp} {dvs : List V} {ds : List Value} {x m : Str} {pos apos xp : Pos} {e o : Expr} {es : List Expr} {ta : TE} {t : TA} {pl : Sem Bool}
/-- cls(..): the i-th slot holds the class at C -/
def tMakeL (i : Nat) (C : Addr) (sp : Sp) (dvs : List V) (E : XK) (t : TA) : TE := fun σ H Q => σ[i]? = some (some (.ref C)) ∧ tMake C sp dvs E t σ H Q
theorem pe_mkL {E : XK} (hN : X.N[i]? = some x) (hv : Vis X.env.scope x) (M : Mk X.K C f) (F : FnOk X.prog X.w X.K X.mg X.base CX k f fd ps sp) (hr : Room (k + 1) X.A) (hb : Binds X.K fd ps ds) (hd : Vals dvs ds) (hx : Passes CX X E) (ha : PA X (e :: es) t)
    (hdb : (x == ("__debug__" : Str)) = false := by decide) (hcd : (x == ("__classdict__" : Str)) = false := by decide)
    (he : starEach (e :: es) X.env = (false, eval e X.env) :: starEach es X.env := by rfl) (hpl : (backTo pos (starEach es X.env)).any (·.1) = false := by rfl) : PE X (.Call (.Name x xp) (e :: es) [] pos) (tMakeL i C sp dvs E t) := by
  refine ⟨fun pins s σ H Q I h => ?_⟩
  obtain ⟨hs, ht⟩ := h
  refine wpAny_Call_Name_kw (thn ((pe_var (pos := xp) hN hv hdb hcd).run pins s σ H (fun v H1 => v = .ref C ∧ H1 = H) I ⟨.ref C, hs, rfl, rfl⟩) fun u s1 ⟨v, H1, I1, r1, q1⟩ => ?_)
  obtain ⟨rfl, rfl⟩ := q1
  cases r1
  refine PySem.W.callWith_K (h₀ := X.base) I1.ok.mod.kin M.kp (thn (ha.run pos pins s1 σ _ _ I1 ht) fun us s2 ⟨vs, H2, I2, r, q⟩ => ⟨I2.kIn, ?_⟩) he hpl
  exact run_make M F hr hb hd hx I2 r q
theorem run_fnRT {pins : List (Addr × Obj)} {σ : St} {H : Hp} {s : Shared} {E : XK} {Q : VK} {us : List Value} {vs : List V} (F : FnR X.prog X.w X.K X.mg X.base CX k f sp) (hr : Room k X.A) (hx : PassesAt CX X σ E) (I : Inv X pins σ H s) (r : Vals vs us) (h : sp vs H Q E) :
    codeAny (model X.prog X.w) X.A (.call (.ref f) ⟨us, []⟩) (fun r s' => match r with | .ok (.ret v) => EP X pins σ Q v s' | .ok _ => False | .error e => X.xe e s') s := by
  refine codeAny_mono (F X.A X.stack s H us vs Q E hr I.env0 r h) fun r s' hq => ?_
  cases r with
  | error e => exact hx pins H s e s' I hq
  | ok fl =>
    cases fl with
    | ret u => exact I.after hq
    | next => exact False.elim hq
    | brk => exact False.elim hq
    | cont => exact False.elim hq
theorem run_cmT {pins : List (Addr × Obj)} {σ : St} {H : Hp} {s : Shared} {E : XK} {Q : VK} {us : List Value} {vs : List V} (F : FnR X.prog X.w X.K X.mg X.base CX k g sp) (hr : Room k X.A) (hx : PassesAt CX X σ E) (I : Inv X ((q, PySem.W.methodObj (.ref g) (.ref C)) :: pins) σ H s)
    (r : Vals vs us) (h : sp (.ref C :: vs) H Q E) : wpAny (model X.prog X.w) X.A (call (.ref q) us) (EP X pins σ Q) X.xe s := by
  have z : wpAny (model X.prog X.w) X.A (call (.ref q) us) (EP X ((q, PySem.W.methodObj (.ref g) (.ref C)) :: pins) σ Q) X.xe s :=
    wpAny_call (PySem.W.method_call (ClX.pin_at I) (run_fnRT (us := .ref C :: us) (vs := .ref C :: vs) F hr hx I (.cons rfl r) h))
  exact thn z fun _ _ y => ClX.unpinE y
/-- e.m(..) in a try's body, e the class at C, m a classmethod -/
def tCMethT (C : Addr) (sp : Sp) (E : St → XK) (ta : TE) (t : TA) : TE := fun σ H Q => ta σ H fun x H1 => x = .ref C ∧ t σ H1 fun vs H2 => sp (.ref C :: vs) H2 Q (E σ)
theorem pe_cmethT {E : St → XK} (he : PE X o ta) (r : ClX.CRead X.K C mc) (c : ClX.CMet X.K C mc m p g) (F : FnR X.prog X.w X.K X.mg X.base CX k g sp) (hr : Room k X.A) (hx : ∀ σ, PassesAt CX X σ (E σ)) (ha : PA X (e :: es) t)
    (hst : starEach (e :: es) X.env = (false, eval e X.env) :: starEach es X.env := by rfl) (hpl : (backTo pos (starEach es X.env)).any (·.1) = false := by rfl)
    (ht : eval (.Call (.Attribute o m apos) (e :: es) [] pos) X.env = (do
      let ov ← eval o X.env
      standAt apos.atName
      let (f, first) ← holding [ov] (getMethod ov m pl)
      callWith pos f first (backTo pos (starEach (e :: es) X.env)) (backToKw pos (keywordEach [] X.env))) := by rfl) :
    PE X (.Call (.Attribute o m apos) (e :: es) [] pos) (tCMethT C sp E ta t) := by
  refine ⟨fun pins s σ H Q I h => ?_⟩
  refine PySem.W.methodCall_KW (pl := pl) (thn (he.run pins s σ H _ I h) fun u s1 ⟨x, H1, I1, rx, ex, q⟩ => ?_) ht
  subst ex
  obtain rfl : u = Value.ref C := rx
  refine ClX.getmethcm_ok I1 r c fun s2 I2 => ?_
  refine ClX.callwith_cm I2 (ClX.base_none I1 (Nat.le_refl _)) c.fi (thn (ha.run pos _ s2 σ H1 _ I2 q) fun us s3 ⟨vs, H2, I3, rv, q2⟩ => ⟨⟨ClX.pin_at I3, I3.kIn⟩, ?_⟩) hst hpl
  exact run_cmT F hr (hx σ) I3 rv q2
end
end L2
namespace L2
open PySem PySem.Spec PyProof.Rows StX
theorem for_txt {t : List Nat} {g : TG} {tb : TS} {D : Ends} {σ : St} {H : Hp} (Pv : Nat → St → Hp → Prop) (h0 : Pv 0 σ H)
    (hs : ∀ (i c : Nat) σ H, t[i]? = some c → Pv i σ H → g (.str ⟨#[c]⟩) σ H fun σ2 H2 => tb { D with nx := Pv (i + 1), ct := Pv (i + 1), bk := D.nx } σ2 H2) (hd : ∀ σ H, Pv t.length σ H → D.nx σ H) :
    ∃ W : Nat → Nat → St → Hp → Prop, (∃ m, W 0 m σ H) ∧ ∀ i m σ H, W i m σ H →
      ((Its (SX.S t)).stop i H ∧ D.nx σ H) ∨ ((Its (SX.S t)).go i H ∧ ∃ N : St → Hp → Prop, (∀ σ' H', N σ' H' → ∃ m', m' < m ∧ W (i + 1) m' σ' H') ∧ ∀ v H', (Its (SX.S t)).yld i H v H' → g v σ H' fun σ2 H2 => tb { D with nx := N, ct := N, bk := D.nx } σ2 H2) := by
  have hsz : (SX.S t).cps.size = t.length := by simp
  refine ⟨fun i m σ H => m = t.length - i ∧ i ≤ t.length ∧ Pv i σ H, ⟨t.length, by simp, Nat.zero_le _, h0⟩, ?_⟩
  rintro i m σ H ⟨rfl, hi, hP⟩
  by_cases h : i < t.length
  · refine .inr ⟨(show i < (SX.S t).cps.size by rw [hsz]; exact h), Pv (i + 1), fun σ' H' hN => ⟨t.length - (i + 1), by omega, rfl, by omega, hN⟩, ?_⟩
    rintro v H' ⟨rfl, c, hc, rfl⟩
    exact hs i c σ H' (by simpa using hc) hP
  · have e : i = t.length := by omega
    subst e
    exact .inl ⟨(show (SX.S t).cps.size ≤ t.length by rw [hsz]; exact Nat.le_refl _), hd σ H hP⟩
theorem lc_txt {t : List Nat} {g : TG} {tt : TT} {te : TE} {vs : List Nat} {σ : St} {H1 : Hp} {D : Addr} {Qd : Hp → Prop} (Pv : Nat → Hp → Prop) (h0 : Pv 0 (upd H1 D (.lst [])))
    (hs : ∀ i c H, t[i]? = some c → Pv i H → g (.str ⟨#[c]⟩) (wipe σ vs) H fun σ2 H2 => wipe σ2 vs = wipe σ vs ∧ tt σ2 H2 fun b H3 =>
      if b = true then te σ2 H3 fun y H4 => ∃ acc, H4 D = some (.lst acc) ∧ acc.length < sizeLine ∧ Pv (i + 1) (upd H4 D (.lst (acc ++ [y]))) else Pv (i + 1) H3) (hd : ∀ H, Pv t.length H → Qd H) :
    ∃ W : Nat → Nat → Hp → Prop, (∃ m, W 0 m (upd H1 D (.lst []))) ∧ ∀ i m H, W i m H →
      ((Its (SX.S t)).stop i H ∧ Qd H) ∨ ((Its (SX.S t)).go i H ∧ ∃ Nx : Hp → Prop, (∀ H', Nx H' → ∃ m', m' < m ∧ W (i + 1) m' H') ∧ ∀ x H', (Its (SX.S t)).yld i H x H' → g x (wipe σ vs) H' fun σ2 H2 => wipe σ2 vs = wipe σ vs ∧ tt σ2 H2 fun b H3 =>
        if b = true then te σ2 H3 fun y H4 => ∃ acc, H4 D = some (.lst acc) ∧ acc.length < sizeLine ∧ Nx (upd H4 D (.lst (acc ++ [y]))) else Nx H3) := by
  have hsz : (SX.S t).cps.size = t.length := by simp
  refine ⟨fun i m H => m = t.length - i ∧ i ≤ t.length ∧ Pv i H, ⟨t.length, by simp, Nat.zero_le _, h0⟩, ?_⟩
  rintro i m H ⟨rfl, hi, hP⟩
  by_cases h : i < t.length
  · refine .inr ⟨(show i < (SX.S t).cps.size by rw [hsz]; exact h), Pv (i + 1), fun H' hN => ⟨t.length - (i + 1), by omega, rfl, by omega, hN⟩, ?_⟩
    rintro v H' ⟨rfl, c, hc, rfl⟩
    exact hs i c H' (by simpa using hc) hP
  · have e : i = t.length := by omega
    subst e
    exact .inl ⟨(show (SX.S t).cps.size ≤ t.length by rw [hsz]; exact Nat.le_refl _), hd H hP⟩
end L2
namespace GR
open PySem TL GN SX NumText
/-- the text of a share -/
def txt (a b : Int) : List Nat := if b = 1 then numT a else numT a ++ 47 :: numT b
structure Canon (t : List Nat) (a b : Int) : Prop where
  e : t = txt a b
  pos : 1 ≤ b
  cop : Nat.gcd a.natAbs b.natAbs = 1
def isD (w : List Nat) : Bool := decide (w ≠ []) && w.all fun c => decide (c ∈ digs)
def lead (w : List Nat) : Bool := isD w && !(decide (1 < w.length) && decide (w[0]? = some 48))
theorem isD_iff {w : List Nat} : isD w = true ↔ w ≠ [] ∧ AllDigits w := by
  unfold isD
  rw [Bool.and_eq_true, decide_eq_true_iff, List.all_eq_true]
  exact and_congr Iff.rfl ⟨fun h c hc => digs_range (of_decide_eq_true (h c hc)), fun h c hc => decide_eq_true (digs_of (h c hc))⟩
theorem isD_num (m : Nat) : isD (numL m) = true := isD_iff.mpr ⟨numL_ne m, numL_digits m⟩
theorem lead_num (m : Nat) : lead (numL m) = true := by
  unfold lead
  rw [isD_num]
  by_cases h : m = 0
  · subst h; rw [numL_zero]; decide
  · obtain ⟨c, r, e, h1, h2⟩ := numL_head m (by omega)
    rw [e]
    have : ¬ (c :: r)[0]? = some 48 := by simp; omega
    rw [decide_eq_false this]; simp
theorem lead_back {w : List Nat} (h : lead w = true) : isD w = true ∧ numL (digitsVal w) = w := by
  unfold lead at h
  rw [Bool.and_eq_true] at h
  obtain ⟨hd, hz⟩ := h
  obtain ⟨hne, hall⟩ := isD_iff.mp hd
  refine ⟨hd, ?_⟩
  cases w with
  | nil => exact absurd rfl hne
  | cons c r =>
    have hr := hall.head
    have q : r.length = 0 ∨ ∃ c' r', c :: r = c' :: r' ∧ 49 ≤ c' := by
      by_cases hl : r.length = 0
      · exact .inl hl
      · right
        refine ⟨c, r, rfl, ?_⟩
        have hn : ¬ (c :: r)[0]? = some 48 := fun e => by
          rw [decide_eq_true e, decide_eq_true (show 1 < (c :: r).length by simp only [List.length_cons]; omega)] at hz
          cases hz
        have hc : c ≠ 48 := fun e => hn (by simp [e])
        omega
    unfold numL
    rw [toDigits_digitsVal r.length (c :: r) rfl hall q, List.map_map]
    have : ∀ l : List Nat, AllDigits l → l.map (Char.toNat ∘ Char.ofNat) = l := by
      intro l hl
      induction l with
      | nil => rfl
      | cons d l ih =>
        have hd := hl.head
        rw [List.map_cons, ih hl.tail]
        congr 1
        have : ∀ k : Fin 10, (Char.toNat ∘ Char.ofNat) (48 + k.val) = 48 + k.val := by decide
        have e := this ⟨d - 48, by omega⟩
        have z : 48 + (d - 48) = d := by omega
        rw [z] at e
        exact e
    exact this _ hall
theorem numT_pos {a : Int} (h : 0 ≤ a) : numT a = numL a.natAbs := by
  obtain ⟨m, rfl⟩ : ∃ m : Nat, a = (m : Int) := ⟨a.natAbs, by omega⟩
  rw [numT_nat]; rfl
theorem numT_ng {a : Int} (h : a < 0) : numT a = 45 :: numL a.natAbs := by
  obtain ⟨m, rfl⟩ : ∃ m : Nat, a = -(m : Int) := ⟨a.natAbs, by omega⟩
  rw [numT_neg m (by omega), Int.natAbs_neg]; rfl
theorem numT_free (a : Int) : 47 ∉ numT a := by
  rcases Int.lt_or_le a 0 with h | h
  · rw [numT_ng h]
    intro hm
    rcases List.mem_cons.mp hm with e | hm
    · exact absurd e (by decide)
    · exact numL_free (by decide) hm
  · rw [numT_pos h]; exact numL_free (by decide)
/-- the text without a sign at its head -/
def body (t : List Nat) : List Nat := if t[0]? = some 45 then t.drop 1 else t
theorem body_num (a : Int) (r : List Nat) : body (numT a ++ r) = numL a.natAbs ++ r ∧ ((numT a ++ r)[0]? = some 45 ↔ a < 0) := by
  rcases Int.lt_or_le a 0 with h | h
  · rw [numT_ng h]
    exact ⟨rfl, by simp [h]⟩
  · rw [numT_pos h]
    have hh : ¬ (numL a.natAbs ++ r)[0]? = some 45 := by
      by_cases h0 : a.natAbs = 0
      · rw [h0, numL_zero]; simp
      · obtain ⟨c, s, e, h1, h2⟩ := numL_head a.natAbs (by omega)
        rw [e]; simp; omega
    refine ⟨?_, ?_⟩
    · unfold body; rw [if_neg hh]
    · constructor
      · intro e; exact absurd e hh
      · intro e; omega
theorem body_num0 (a : Int) : body (numT a) = numL a.natAbs := by have := (body_num a []).1; simpa using this
theorem minus : Str.ofString "-" = S [45] := by decide +kernel
theorem slash : Str.ofString "/" = S [47] := by decide +kernel
theorem rmp (t : List Nat) : Txt.removeprefix (S t) (Str.ofString "-") = S (body t) := by
  have e := StrLaws.removeprefix_eq (S t) (S [45])
  rw [minus, e]
  have key : (decide (0 + (S [45]).length ≤ (S t).length) && Builtin.Str.subAt (S t) (S [45]) 0) = decide (t[0]? = some 45) := by
    have h := TL.at_iff (x := S t) (y := S [45]) (by simp [TL.tl]) 0
    unfold StrLaws.At at h
    cases t with
    | nil => rfl
    | cons c r =>
      have h2 : (0 + (S [45]).length ≤ (S (c :: r)).length ∧ Builtin.Str.subAt (S (c :: r)) (S [45]) 0 = true) ↔ c = 45 := by
        rw [h]
        show ((c :: r).take 1 == [45]) = true ↔ _
        simp
      by_cases hc : c = 45
      · obtain ⟨p, q⟩ := h2.mpr hc
        rw [q, decide_eq_true p, hc]; rfl
      · rw [decide_eq_false (show ¬ (c :: r)[0]? = some 45 by simp [hc])]
        rw [Bool.and_eq_false_iff]
        by_cases p : 0 + (S [45]).length ≤ (S (c :: r)).length
        · right
          cases q : Builtin.Str.subAt (S (c :: r)) (S [45]) 0
          · rfl
          · exact absurd (h2.mp ⟨p, q⟩) hc
        · left; exact decide_eq_false p
  rw [key]
  unfold body
  by_cases h : t[0]? = some 45
  · rw [if_pos (decide_eq_true h), if_pos h]
    have l1 : (S [45]).length = 1 := rfl
    rw [l1, S_len]
    show S ((t.drop 1).take (t.length - 1)) = _
    rw [List.take_of_length_le (by rw [List.length_drop]; omega)]
  · rw [if_neg (by simpa using h), if_neg h]
theorem int_dig {w : List Nat} (h : isD w = true) (hl : w.length ≤ 600) : intText? (S w) = some ((digitsVal w : Nat) : Int) := by
  obtain ⟨h1, h2⟩ := isD_iff.mp h
  exact intText_digits (x := S w) h2 h1 (by rw [S_len]; omega)
/-- the integer of a sign and digits -/
def sval (t : List Nat) : Int := if t[0]? = some 45 then -((digitsVal (t.drop 1) : Nat) : Int) else ((digitsVal t : Nat) : Int)
theorem int_sdig {t : List Nat} (h : isD (body t) = true) (hl : t.length ≤ 600) : intText? (S t) = some (sval t) := by
  unfold body at h
  unfold sval
  by_cases c : t[0]? = some 45
  · rw [if_pos c] at h ⊢
    obtain ⟨h1, h2⟩ := isD_iff.mp h
    cases t with
    | nil => cases c
    | cons d r =>
      have : d = 45 := by simpa using c
      subst this
      exact intText_neg (x := S (45 :: r)) rfl h2 h1 (by rw [S_len]; omega)
  · rw [if_neg c] at h ⊢
    exact int_dig h hl
theorem body_le (t : List Nat) : (body t).length ≤ t.length := by
  unfold body; split
  · rw [List.length_drop]; omega
  · exact Nat.le_refl _
theorem sval_abs (t : List Nat) : (sval t).natAbs = digitsVal (body t) := by
  unfold sval body
  split
  · rw [Int.natAbs_neg]; rfl
  · rfl
theorem sval_num (a : Int) : sval (numT a) = a := by
  unfold sval
  rcases Int.lt_or_le a 0 with h | h
  · rw [numT_ng h, if_pos (show (45 :: numL a.natAbs)[0]? = some 45 from rfl)]
    show -((digitsVal (numL a.natAbs) : Nat) : Int) = a
    rw [numL_val]; omega
  · have := (body_num a []).2
    rw [List.append_nil] at this
    rw [if_neg (fun e => by have := this.mp e; omega), numT_pos h, numL_val]; omega
theorem dig_lt {w : List Nat} (h : isD w = true) : digitsVal w < 10 ^ w.length := digits_lt (isD_iff.mp h).2
theorem bits70 {w : List Nat} (h : isD w = true) (hl : w.length ≤ 70) : digitsVal w < 2 ^ 240 :=
  Nat.lt_of_lt_of_le (dig_lt h) (Nat.le_trans (Nat.pow_le_pow_right (by decide) hl) (by decide +kernel))
theorem num_len {a : Int} {n k : Nat} (h : a.natAbs < 2 ^ n) (hk : 0 < k) (e : 2 ^ n ≤ 10 ^ k) : (numT a).length ≤ k + 1 := by
  have hl := numL_len (n := a.natAbs) (k := k) hk (Nat.lt_of_lt_of_le h e)
  rcases Int.lt_or_le a 0 with c | c
  · rw [numT_ng c, List.length_cons]; omega
  · rw [numT_pos c]; omega
theorem txt_len {a b : Int} {n k : Nat} (ha : a.natAbs < 2 ^ n) (hb : b.natAbs < 2 ^ n) (hk : 0 < k) (e : 2 ^ n ≤ 10 ^ k) : (txt a b).length ≤ 2 * k + 3 := by
  have h1 := num_len ha hk e
  have h2 := num_len hb hk e
  unfold txt
  split
  · omega
  · rw [List.length_append, List.length_cons]; omega
/-! ### partition and split -/
theorem part_num {a b : Int} (h : b ≠ 1) : Txt.partition (S (txt a b)) (Str.ofString "/") = (S (numT a), S [47], S (numT b)) := by
  rw [slash]
  unfold txt
  rw [if_neg h]
  exact partition_some (by simp) (by have := par_head (c := 47) (sep := []) (numT b) (numT_free a); simpa using this)
theorem part_one (a : Int) : Txt.partition (S (txt a 1)) (Str.ofString "/") = (S (numT a), S [], S []) := by
  rw [slash]
  unfold txt
  rw [if_pos rfl]
  exact partition_none (by simp) (par_head_none (numT_free a))
theorem part_any (t : List Nat) : ∃ p s q, Txt.partition (S t) (Str.ofString "/") = (S p, S s, S q) ∧ p.length ≤ t.length ∧ q.length ≤ t.length := by
  have h := PyProof.Rows.fact_partition (S t) (Str.ofString "/")
  refine ⟨tl (Txt.partition (S t) (Str.ofString "/")).1, tl (Txt.partition (S t) (Str.ofString "/")).2.1, tl (Txt.partition (S t) (Str.ofString "/")).2.2, ?_, ?_, ?_⟩
  · show _ = ((⟨(tl _).toArray⟩ : Str), (⟨(tl _).toArray⟩ : Str), (⟨(tl _).toArray⟩ : Str))
    rw [mk_tl, mk_tl, mk_tl]
  · rw [← len_tl]; have := h.1; rw [S_len] at this; exact this
  · rw [← len_tl]; have := h.2.2; rw [S_len] at this; exact this
theorem split_any (t : List Nat) : ∃ ps : List (List Nat), Txt.split (S t) (Str.ofString "/") = ps.map S ∧ ps ≠ [] ∧ joinL [47] ps = t := by
  have e := split_S (a := t) (b := [47]) (by simp) (by decide)
  rw [← slash] at e
  have j := StrLaws.join_split (S t) (Str.ofString "/")
  refine ⟨spl [47] 0 [] t, e, ?_, ?_⟩
  · intro z
    have := PyProof.Rows.split_pos (S t) (Str.ofString "/")
    rw [e, z] at this
    exact absurd this (by decide)
  · have k := congrArg tl j
    rw [e, tl_join, map_S_tl] at k
    have s1 : tl (Str.ofString "/") = [47] := by rw [slash]
    rw [s1] at k
    exact k
theorem split_num {m n : Nat} : Txt.split (S (numL m ++ 47 :: numL n)) (Str.ofString "/") = [numL m, numL n].map S ∧ Txt.split (S (numL m)) (Str.ofString "/") = [numL m].map S := by
  have f : ∀ k, 47 ∉ numL k := fun k => numL_free (by decide)
  rw [slash]
  constructor
  · rw [split_S (by simp) (by decide)]
    have := spl_join (c := 47) (sep := []) (parts := [numL m, numL n]) (by simp) (by intro p hp; rcases List.mem_cons.mp hp with e | hp; (rw [e]; exact f m); (rw [List.mem_singleton.mp hp]; exact f n))
    exact congrArg (List.map S) this
  · rw [split_S (by simp) (by decide)]
    have := spl_join (c := 47) (sep := []) (parts := [numL m]) (by simp) (by intro p hp; rw [List.mem_singleton.mp hp]; exact f m)
    exact congrArg (List.map S) this
/-! ### Euclid's steps, of numbers of fewer than 240 bits -/
def Eu (a b i : Nat) : Prop := (i = 0 ∧ b < 2 ^ 240) ∨ (1 ≤ i ∧ b < a ∧ a * b * 2 ^ (i - 1) ≤ 2 ^ 480)
theorem Eu.turn {a b i : Nat} (h : Eu a b i) (hb : b ≠ 0) : Eu b (a % b) (i + 1) ∧ i ≤ 481 := by
  have hm : a % b < b := Nat.mod_lt _ (Nat.pos_of_ne_zero hb)
  rcases h with ⟨rfl, h⟩ | ⟨h1, h2, h3⟩
  · refine ⟨.inr ⟨Nat.le_refl _, hm, ?_⟩, Nat.zero_le _⟩
    show b * (a % b) * 2 ^ 0 ≤ 2 ^ 480
    have : b * (a % b) ≤ 2 ^ 240 * 2 ^ 240 := Nat.mul_le_mul (Nat.le_of_lt h) (Nat.le_of_lt (Nat.lt_trans hm h))
    rw [Nat.pow_zero, Nat.mul_one]
    rw [← Nat.pow_add] at this
    exact this
  · refine ⟨.inr ⟨by omega, hm, ?_⟩, ?_⟩
    · obtain ⟨j, rfl⟩ : ∃ j, i = j + 1 := ⟨i - 1, by omega⟩
      show b * (a % b) * 2 ^ (j + 1) ≤ 2 ^ 480
      have h2' : 2 * (a % b) ≤ a := by
        have e := Nat.div_add_mod a b
        have q : 1 ≤ a / b := Nat.div_pos (Nat.le_of_lt h2) (Nat.pos_of_ne_zero hb)
        have : b * 1 ≤ b * (a / b) := Nat.mul_le_mul_left _ q
        omega
      have e : b * (a % b) * 2 ^ (j + 1) = (b * (2 * (a % b))) * 2 ^ j := by
        rw [Nat.pow_succ, Nat.mul_comm (2 ^ j) 2, ← Nat.mul_assoc, Nat.mul_assoc b, Nat.mul_comm (a % b) 2]
      rw [e]
      refine Nat.le_trans (Nat.mul_le_mul_right _ (Nat.mul_le_mul_left b h2')) ?_
      rw [Nat.mul_comm b a]
      exact h3
    · have : 1 * 1 * 2 ^ (i - 1) ≤ a * b * 2 ^ (i - 1) := Nat.mul_le_mul_right _ (Nat.mul_le_mul (by omega) (by omega))
      simp only [Nat.one_mul] at this
      have q : i - 1 ≤ 480 := (Nat.pow_le_pow_iff_right (by decide)).mp (Nat.le_trans this h3)
      omega
end GR
/-! where a text first is no note: a walk sign by sign, and what the reader from the left finds -/
namespace GN
open PySem TL
/-- the state behind a sign: none is wrong -/
def nx (m s d c : Nat) : Option Nat :=
  if m < 2 then
    if c = 40 ∧ d < 100 then some 1 else if c = 41 ∧ m = 1 then some 6 else if c = 45 then some 2 else if c = 48 then some 3
    else if 49 ≤ c ∧ c ≤ 57 then some 4 else if c ∈ lets then some 5 else none
  else if 0 < d ∧ c = 32 then some 0 else if 0 < d ∧ c = 41 then some 6
  else if m = 2 ∧ 49 ≤ c ∧ c ≤ 57 then some 4 else if m = 4 ∧ s < 200 ∧ c ∈ digs then some 4
  else if m = 5 ∧ s < 24 ∧ c ∈ wcs then some 5 else none
def dnx (d c : Nat) : Nat := if c = 40 then d + 1 else if c = 41 then d - 1 else d
def snx (m m' s : Nat) : Nat := if m' = m then s + 1 else 1
def aut : List Nat → Nat → Nat → Nat → Nat → Option Nat
  | [], m, _, d, i => if d = 0 ∧ 1 < m then none else some i
  | c :: l, m, s, d, i => match nx m s d c with
    | none => some i
    | some m' => aut l m' (snx m m' s) (dnx d c) (i + 1)
/-- the walk over t from i on -/
def walk (t : List Nat) (i m s d : Nat) : Option Nat := aut (t.drop i) m s d i
theorem walk_at {t : List Nat} {i c m s d : Nat} (h : t[i]? = some c) : walk t i m s d = match nx m s d c with | none => some i | some m' => walk t (i + 1) m' (snx m m' s) (dnx d c) := by
  obtain ⟨hlt, e⟩ := List.getElem?_eq_some_iff.mp h
  unfold walk
  rw [List.drop_eq_getElem_cons hlt, e]
  rfl
theorem walk_end {t : List Nat} {i m s d : Nat} (h : t[i]? = none) : walk t i m s d = if d = 0 ∧ 1 < m then none else some i := by
  unfold walk
  rw [List.drop_eq_nil_of_le (List.getElem?_eq_none_iff.mp h)]
  rfl
theorem walk_bad {t : List Nat} {i c m s d : Nat} (h : t[i]? = some c) (e : nx m s d c = none) : walk t i m s d = some i := by rw [walk_at h, e]
theorem walk_go {t : List Nat} {i c m s d m' : Nat} (h : t[i]? = some c) (e : nx m s d c = some m') : walk t i m s d = walk t (i + 1) m' (snx m m' s) (dnx d c) := by rw [walk_at h, e]
/-- behind a part: nothing but what parts it from the next -/
def Shut (t : List Nat) (j m s d : Nat) : Prop := 1 < m ∧ ∀ c, t[j]? = some c → nx m s d c = if 0 < d ∧ c = 32 then some 0 else if 0 < d ∧ c = 41 then some 6 else none
theorem shut_of {t : List Nat} {j m s d : Nat} (hm : 1 < m) (h2 : ∀ c, t[j]? = some c → m = 2 → ¬ (49 ≤ c ∧ c ≤ 57)) (h4 : ∀ c, t[j]? = some c → m = 4 → s < 200 → c ∉ digs) (h5 : ∀ c, t[j]? = some c → m = 5 → s < 24 → c ∉ wcs) : Shut t j m s d := by
  refine ⟨hm, fun c hc => ?_⟩
  unfold nx
  rw [if_neg (by omega)]
  split
  · rfl
  split
  · rfl
  rw [if_neg (fun z => h2 c hc z.1 z.2), if_neg (fun z => h4 c hc z.1 z.2.1 z.2.2), if_neg (fun z => h5 c hc z.1 z.2.1 z.2.2)]
theorem digs_out {c : Nat} (h : c ∈ digs) : c ≠ 32 ∧ c ≠ 41 ∧ c ≠ 40 := by have := digs_range h; omega
theorem wcs_out {c : Nat} (h : c ∈ wcs) : c ≠ 32 ∧ c ≠ 41 ∧ c ≠ 40 := by
  have : ∀ c ∈ wcs, c ≠ 32 ∧ c ≠ 41 ∧ c ≠ 40 := by decide +kernel
  exact this c h
theorem dnx_same {d c : Nat} (h : c ≠ 32 ∧ c ≠ 41 ∧ c ≠ 40) : dnx d c = d := by
  unfold dnx; rw [if_neg h.2.2, if_neg h.2.1]
/-- a run of signs of one kind -/
theorem walk_run {cs : List Nat} {most M d : Nat} (hgo : ∀ s c, s < most → c ∈ cs → nx M s d c = some M) (hout : ∀ c ∈ cs, c ≠ 32 ∧ c ≠ 41 ∧ c ≠ 40) : ∀ (l : List Nat) (s i : Nat), s ≤ most →
    aut l M s d i = aut (l.drop (((l.take (most - s)).takeWhile fun c => decide (c ∈ cs)).length)) M (s + ((l.take (most - s)).takeWhile fun c => decide (c ∈ cs)).length) d (i + ((l.take (most - s)).takeWhile fun c => decide (c ∈ cs)).length)
      ∧ (s + ((l.take (most - s)).takeWhile fun c => decide (c ∈ cs)).length < most → ∀ c, l[((l.take (most - s)).takeWhile fun c => decide (c ∈ cs)).length]? = some c → c ∉ cs)
  | [], s, i, hs => by
    rw [List.take_nil, List.takeWhile_nil]
    exact ⟨rfl, fun _ c h => by cases h⟩
  | c :: l, s, i, hs => by
    by_cases hm : s = most
    · subst hm
      rw [Nat.sub_self, List.take_zero, List.takeWhile_nil]
      exact ⟨rfl, fun h => absurd h (Nat.lt_irrefl _)⟩
    · have e : most - s = (most - (s + 1)) + 1 := by omega
      rw [e, List.take_succ_cons, List.takeWhile_cons]
      by_cases hc : c ∈ cs
      · rw [if_pos (decide_eq_true hc), List.length_cons]
        obtain ⟨h1, h2⟩ := walk_run hgo hout l (s + 1) (i + 1) (by omega)
        generalize ((l.take (most - (s + 1))).takeWhile fun c => decide (c ∈ cs)).length = w at h1 h2 ⊢
        refine ⟨?_, fun h d hd => h2 (by omega) d hd⟩
        show (match nx M s d c with | none => some i | some m' => aut l m' (snx M m' s) (dnx d c) (i + 1)) = _
        rw [hgo s c (by omega) hc, dnx_same (hout c hc)]
        show aut l M (snx M M s) d (i + 1) = _
        have e2 : snx M M s = s + 1 := if_pos rfl
        rw [e2, h1, List.drop_succ_cons]
        congr 1 <;> omega
      · rw [if_neg (by rw [decide_eq_false hc]; exact Bool.false_ne_true)]
        refine ⟨rfl, fun _ d hd => ?_⟩
        cases hd
        exact hc
theorem run_step {cs : List Nat} {most : Nat} {t : List Nat} {i c : Nat} (h : t[i]? = some c) (hc : c ∈ cs) (hm : 0 < most) : run cs most t i = i + 1 + (((t.drop (i + 1)).take (most - 1)).takeWhile fun c => decide (c ∈ cs)).length := by
  obtain ⟨hlt, e⟩ := List.getElem?_eq_some_iff.mp h
  obtain ⟨m, rfl⟩ : ∃ m, most = m + 1 := ⟨most - 1, by omega⟩
  unfold run
  rw [List.drop_eq_getElem_cons hlt, e, List.take_succ_cons, List.takeWhile_cons, if_pos (decide_eq_true hc), List.length_cons, Nat.add_sub_cancel]
  omega
theorem walk_run' {cs : List Nat} {most M d i c : Nat} {t : List Nat} (hgo : ∀ s c, s < most → c ∈ cs → nx M s d c = some M) (hout : ∀ c ∈ cs, c ≠ 32 ∧ c ≠ 41 ∧ c ≠ 40) (h : t[i]? = some c) (hc : c ∈ cs) (hm : 0 < most) :
    ∃ s, walk t (i + 1) M 1 d = walk t (run cs most t i) M s d ∧ (s < most → ∀ c, t[run cs most t i]? = some c → c ∉ cs) := by
  obtain ⟨h1, h2⟩ := walk_run hgo hout (t.drop (i + 1)) 1 (i + 1) (by omega)
  rw [run_step h hc hm]
  generalize (((t.drop (i + 1)).take (most - 1)).takeWhile fun c => decide (c ∈ cs)).length = w at h1 h2 ⊢
  refine ⟨1 + w, ?_, fun hs c hc => h2 hs c (by rw [List.getElem?_drop]; exact hc)⟩
  unfold walk
  rw [h1, List.drop_drop]
theorem nx4 {d s c : Nat} (hs : s < 200) (hc : c ∈ digs) : nx 4 s d c = some 4 := by
  have := digs_out hc
  unfold nx
  rw [if_neg (by omega), if_neg (by omega), if_neg (by omega), if_neg (by omega), if_pos ⟨rfl, hs, hc⟩]
theorem nx5 {d s c : Nat} (hs : s < 24) (hc : c ∈ wcs) : nx 5 s d c = some 5 := by
  have := wcs_out hc
  unfold nx
  rw [if_neg (by omega), if_neg (by omega), if_neg (by omega), if_neg (by omega), if_neg (by omega), if_pos ⟨rfl, hs, hc⟩]
/-- what the walk does where the reader reads -/
def Agrees (t : List Nat) (i m s d : Nat) : R → Prop
  | .bad b => walk t i m s d = some b
  | .got _ j => ∃ m' s', walk t i m s d = walk t j m' s' d ∧ Shut t j m' s' d
theorem shut4 {t : List Nat} {j s d : Nat} (h : s < 200 → ∀ c, t[j]? = some c → c ∉ digs) : Shut t j 4 s d := shut_of (by decide) (fun _ _ z => absurd z (by decide)) (fun c hc _ hs => h hs c hc) (fun _ _ z => absurd z (by decide))
theorem shut5 {t : List Nat} {j s d : Nat} (h : s < 24 → ∀ c, t[j]? = some c → c ∉ wcs) : Shut t j 5 s d := shut_of (by decide) (fun _ _ z => absurd z (by decide)) (fun _ _ z => absurd z (by decide)) (fun c hc _ hs => h hs c hc)
theorem shutE {t : List Nat} {j s d m : Nat} (h : m = 3 ∨ m = 6) : Shut t j m s d := shut_of (by omega) (fun _ _ z => by omega) (fun _ _ z => by omega) (fun _ _ z => by omega)
theorem isN_of {t : List Nat} {i c : Nat} (h : t[i]? = some c) : isN t i = decide (49 ≤ c ∧ c ≤ 57) := by unfold isN; rw [h]
theorem agree_leaf {t : List Nat} {i m s d : Nat} (hm : m < 2) (h40 : t[i]? ≠ some 40) (h41 : m = 1 → t[i]? ≠ some 41) : Agrees t i m s d (rleaf t i) := by
  unfold rleaf
  cases hc : t[i]? with
  | none => show walk t i m s d = some i; rw [walk_end hc, if_neg (by omega)]
  | some c =>
    have n40 : c ≠ 40 := fun e => h40 (by rw [hc, e])
    have n41 : ¬ (c = 41 ∧ m = 1) := fun e => h41 e.2 (by rw [hc, e.1])
    have nxe : nx m s d c = if c = 45 then some 2 else if c = 48 then some 3 else if 49 ≤ c ∧ c ≤ 57 then some 4 else if c ∈ lets then some 5 else none := by
      unfold nx
      rw [if_pos hm, if_neg (fun z => n40 z.1), if_neg n41]
    show Agrees t i m s d (if c ∈ lets then _ else if c = 45 ∧ isN t (i + 1) = false then _ else rnum t i)
    by_cases hL : c ∈ lets
    · have r := lets_range hL
      have o := wcs_out (lets_wcs hL)
      rw [if_pos hL]
      rw [if_neg (by omega), if_neg (by omega), if_neg (by omega), if_pos hL] at nxe
      obtain ⟨s', e1, e2⟩ := walk_run' (M := 5) (d := d) (fun s c => nx5) (fun c => wcs_out) hc (lets_wcs hL) (show 0 < 24 by decide)
      refine ⟨5, s', ?_, shut5 e2⟩
      rw [walk_go hc nxe, dnx_same o, show snx m 5 s = 1 from if_neg (by omega)]
      exact e1
    rw [if_neg hL]
    by_cases h45 : c = 45
    · have g : walk t i m s d = walk t (i + 1) 2 1 d := by
        rw [walk_go hc (nxe.trans (if_pos h45)), dnx_same (by omega), show snx m 2 s = 1 from if_neg (by omega)]
      cases hN : isN t (i + 1) with
      | false =>
        rw [if_pos ⟨h45, rfl⟩]
        refine ⟨2, 1, g, shut_of (by decide) (fun c2 hc2 _ z => ?_) (fun _ _ z => by omega) (fun _ _ z => by omega)⟩
        rw [isN_of hc2, decide_eq_true z] at hN
        cases hN
      | true =>
        rw [if_neg (fun z => by cases z.2)]
        have hF : rnumF t i = i + 1 := by unfold rnumF; rw [if_pos (by rw [hc, h45])]
        unfold rnum
        rw [if_neg (by rw [hc]; intro z; injection z; omega), hF, if_pos hN]
        obtain ⟨c2, hc2, a1, a2⟩ := isN_at hN
        have hd := digs_of (c := c2) ⟨by omega, a2⟩
        obtain ⟨s', e1, e2⟩ := walk_run' (M := 4) (d := d) (fun s c => nx4) (fun c => digs_out) hc2 hd (show 0 < 200 by decide)
        refine ⟨4, s', ?_, shut4 e2⟩
        have n2 : nx 2 1 d c2 = some 4 := by
          unfold nx
          rw [if_neg (by omega), if_neg (by omega), if_neg (by omega), if_pos ⟨rfl, a1, a2⟩]
        rw [g, walk_go hc2 n2, dnx_same (digs_out hd), show snx 2 4 1 = 1 from rfl]
        exact e1
    · rw [if_neg (fun z => h45 z.1)]
      unfold rnum
      rw [if_neg h45] at nxe
      by_cases h48 : c = 48
      · rw [if_pos (by rw [hc, h48])]
        refine ⟨3, 1, ?_, shutE (.inl rfl)⟩
        rw [walk_go hc (nxe.trans (if_pos h48)), dnx_same (by omega), show snx m 3 s = 1 from if_neg (by omega)]
      · have hF : rnumF t i = i := by unfold rnumF; rw [if_neg (by rw [hc]; intro z; injection z; omega)]
        rw [if_neg (by rw [hc]; intro z; injection z; omega), hF, isN_of hc]
        rw [if_neg h48] at nxe
        by_cases hr : 49 ≤ c ∧ c ≤ 57
        · rw [if_pos (decide_eq_true hr)]
          have hd := digs_of (c := c) ⟨by omega, hr.2⟩
          obtain ⟨s', e1, e2⟩ := walk_run' (M := 4) (d := d) (fun s c => nx4) (fun c => digs_out) hc hd (show 0 < 200 by decide)
          refine ⟨4, s', ?_, shut4 e2⟩
          rw [walk_go hc (nxe.trans (if_pos hr)), dnx_same (digs_out hd), show snx m 4 s = 1 from if_neg (by omega)]
          exact e1
        · rw [if_neg (by rw [decide_eq_false hr]; exact Bool.false_ne_true)]
          rw [if_neg hr, if_neg hL] at nxe
          exact walk_bad hc nxe
theorem Agrees.of {t : List Nat} {i m s d i2 m2 s2 : Nat} {r : R} (h : Agrees t i2 m2 s2 d r) (e : walk t i m s d = walk t i2 m2 s2 d) : Agrees t i m s d r := by
  cases r with
  | bad b => exact e.trans h
  | got n j => obtain ⟨m', s', h1, h2⟩ := h; exact ⟨m', s', e.trans h1, h2⟩
theorem agree_loop {f : Nat → R} {t : List Nat} {d : Nat} (hd : 0 < d) (hpos : ∀ i n j, f i = .got n j → i < j ∧ j ≤ t.length)
    (hf : ∀ i m s, i ≤ t.length → m < 2 → (m = 1 → t[i]? ≠ some 41) → Agrees t i m s d (f i)) : ∀ (k i : Nat) (acc : List N) (m s : Nat), i < t.length → t.length - i ≤ k → m < 2 → (m = 1 → t[i + 1]? ≠ some 41) →
    match rloop f t k i acc with
    | .bad b => walk t (i + 1) m s d = some b
    | .got _ j => ∃ s', walk t (i + 1) m s d = walk t j 6 s' (d - 1)
  | 0, i, acc, m, s, hi, hk, _, _ => absurd hi (by omega)
  | k + 1, i, acc, m, s, hi, hk, hm, h41 => by
    have h := hf (i + 1) m s hi hm h41
    unfold rloop
    cases e : f (i + 1) with
    | bad b => rw [e] at h; exact h
    | got n j =>
      rw [e] at h
      obtain ⟨m', s', h1, hm', h2⟩ := h
      obtain ⟨p1, p2⟩ := hpos _ _ _ e
      show (match (if t[j]? = some 32 then rloop f t k j (acc ++ [n]) else if t[j]? = some 41 then R.got (.tup (acc ++ [n])) (j + 1) else .bad j) with | .bad b => walk t (i + 1) m s d = some b | .got _ j => ∃ s', walk t (i + 1) m s d = walk t j 6 s' (d - 1))
      rw [h1]
      by_cases h32 : t[j]? = some 32
      · rw [if_pos h32]
        have e0 : nx m' s' d 32 = some 0 := by rw [h2 32 h32, if_pos ⟨hd, rfl⟩]
        rw [walk_go h32 e0]
        exact agree_loop hd hpos hf k j (acc ++ [n]) 0 _ (List.getElem?_eq_some_iff.mp h32).1 (by omega) (by decide) (fun z => by cases z)
      · rw [if_neg h32]
        by_cases h41' : t[j]? = some 41
        · rw [if_pos h41']
          have e0 : nx m' s' d 41 = some 6 := by rw [h2 41 h41', if_neg (by omega), if_pos ⟨hd, rfl⟩]
          exact ⟨_, walk_go h41' e0⟩
        · rw [if_neg h41']
          show walk t j m' s' d = some j
          cases hj : t[j]? with
          | none => rw [walk_end hj, if_neg (by omega)]
          | some c =>
            have e0 : nx m' s' d c = none := by rw [h2 c hj, if_neg (fun z => h32 (by rw [hj, z.2])), if_neg (fun z => h41' (by rw [hj, z.2]))]
            exact walk_bad hj e0
theorem agree_part {t : List Nat} : ∀ (r i m s d : Nat), d + r = 100 → i ≤ t.length → m < 2 → (m = 1 → t[i]? ≠ some 41) → Agrees t i m s d (rpart t r i)
  | 0, i, m, s, d, hd, hi, hm, h41 => by
    rw [rpart_eq]
    by_cases h40 : t[i]? = some 40
    · rw [if_pos h40]
      refine walk_bad h40 ?_
      unfold nx
      rw [if_pos hm, if_neg (by omega), if_neg (by omega), if_neg (by omega), if_neg (by omega), if_neg (by omega), if_neg (fun z => by have := lets_range z; omega)]
    · rw [if_neg h40]
      exact agree_leaf hm h40 h41
  | r + 1, i, m, s, d, hd, hi, hm, h41 => by
    rw [rpart_eq]
    by_cases h40 : t[i]? = some 40
    · rw [if_pos h40]
      have e1 : nx m s d 40 = some 1 := by unfold nx; rw [if_pos hm, if_pos ⟨rfl, by omega⟩]
      have g := walk_go (s := s) h40 e1
      rw [show dnx d 40 = d + 1 from rfl] at g
      have hlt := (List.getElem?_eq_some_iff.mp h40).1
      show Agrees t i m s d (rtup t r i)
      unfold rtup
      by_cases h : t[i + 1]? = some 41
      · rw [if_pos h]
        have e2 : ∀ s, nx 1 s (d + 1) 41 = some 6 := fun s => by unfold nx; rw [if_pos (by decide), if_neg (by omega), if_pos ⟨rfl, rfl⟩]
        refine ⟨6, 1, ?_, shutE (.inr rfl)⟩
        rw [g, walk_go h (e2 _)]
        rfl
      · rw [if_neg h]
        have hl := agree_loop (t := t) (f := rpart t r) (d := d + 1) (by omega) (rpart_pos r) (fun i m s h1 h2 h3 => agree_part r i m s (d + 1) (by omega) h1 h2 h3) (t.length - i) i [] 1 (snx m 1 s) hlt (Nat.le_refl _) (by decide) (fun _ => h)
        rw [← g] at hl
        cases e : rloop (rpart t r) t (t.length - i) i [] with
        | bad b => rw [e] at hl; exact hl
        | got n j =>
          rw [e] at hl
          obtain ⟨s', hl⟩ := hl
          exact ⟨6, s', hl, shutE (.inr rfl)⟩
    · rw [if_neg h40]
      exact agree_leaf hm h40 h41
/-- the first wrong place is where the reader stops -/
theorem walk_note (t : List Nat) : walk t 0 0 0 0 = match rpart t 100 0 with
    | .bad b => some b
    | .got _ j => if j < t.length then some j else none := by
  have h := agree_part (t := t) 100 0 0 0 0 rfl (Nat.zero_le _) (by decide) (fun z => by cases z)
  cases e : rpart t 100 0 with
  | bad b => rw [e] at h; exact h
  | got n j =>
    rw [e] at h
    obtain ⟨m', s', h1, hm', h2⟩ := h
    obtain ⟨p1, p2⟩ := rpart_pos _ _ _ _ e
    rw [h1]
    show _ = if j < t.length then some j else none
    by_cases hj : j < t.length
    · rw [if_pos hj]
      have hc := List.getElem?_eq_getElem hj
      have e0 : nx m' s' 0 t[j] = none := by rw [h2 _ hc, if_neg (by omega), if_neg (by omega)]
      exact walk_bad hc e0
    · rw [if_neg hj, walk_end (List.getElem?_eq_none (by omega)), if_pos ⟨rfl, hm'⟩]
end GN
namespace GN
open PySem TL GR NumText
/-! ### what is read is the text of what it gives -/
theorem lead_of {ds : List Nat} {c : Nat} {r : List Nat} (e : ds = c :: r) (h1 : 49 ≤ c) (hd : AllDigits ds) : lead ds = true := by
  have hi : isD ds = true := isD_iff.mpr ⟨by rw [e]; simp, hd⟩
  unfold lead
  rw [hi, decide_eq_false (show ¬ ds[0]? = some 48 by rw [e]; simp; omega)]
  simp
theorem num_back {t : List Nat} {i : Nat} (h : isN t (rnumF t i) = true) : numT (val (cut t i (run digs 200 t (rnumF t i)))) = cut t i (run digs 200 t (rnumF t i)) ∧ (val (cut t i (run digs 200 t (rnumF t i)))).natAbs < 10 ^ 200 := by
  obtain ⟨c, hc, h1, h2⟩ := isN_at h
  have hgt := run_gt (most := 200) hc (digs_of (c := c) ⟨by omega, h2⟩) (by decide)
  have hall : AllDigits (cut t (rnumF t i) (run digs 200 t (rnumF t i))) := fun d hd => digs_range (cut_all d hd)
  have hcons := cut_cons (e := run digs 200 t (rnumF t i)) hc hgt
  have hl := cut_len (cs := digs) (most := 200) (t := t) (i := rnumF t i)
  have hld := lead_of hcons h1 hall
  have hb := (lead_back hld).2
  have hlt := dig_lt (lead_back hld).1
  have hlt2 : digitsVal (cut t (rnumF t i) (run digs 200 t (rnumF t i))) < 10 ^ 200 := Nat.lt_of_lt_of_le hlt (Nat.pow_le_pow_right (by decide) hl)
  have hpos : 0 < digitsVal (cut t (rnumF t i) (run digs 200 t (rnumF t i))) := by
    rcases Nat.eq_zero_or_pos (digitsVal (cut t (rnumF t i) (run digs 200 t (rnumF t i)))) with z | z
    · rw [z, numL_zero, hcons] at hb
      injection hb with z1 _
      omega
    · exact z
  by_cases h45 : t[i]? = some 45
  · have hF : rnumF t i = i + 1 := by unfold rnumF; rw [if_pos h45]
    rw [hF] at hgt hall hcons hl hld hb hlt hlt2 hpos ⊢
    rw [cut_cons h45 (by omega)]
    generalize cut t (i + 1) (run digs 200 t (i + 1)) = ds at *
    have hne : ds ≠ [] := by rw [hcons]; simp
    have e : val (45 :: ds) = -((digitsVal ds : Nat) : Int) := by
      have e : intText? (SX.S (45 :: ds)) = _ := intText_neg (x := SX.S (45 :: ds)) rfl hall hne (by rw [SX.S_len, List.length_cons]; omega)
      unfold val
      rw [show (⟨(45 :: ds).toArray⟩ : Str) = SX.S (45 :: ds) from rfl, e]; rfl
    rw [e, numT_neg _ hpos, hb]
    exact ⟨rfl, by simpa using hlt2⟩
  · have hF : rnumF t i = i := by unfold rnumF; rw [if_neg h45]
    rw [hF] at hgt hall hcons hl hld hb hlt hlt2 hpos ⊢
    generalize cut t i (run digs 200 t i) = ds at *
    have hne : ds ≠ [] := by rw [hcons]; simp
    have e : val ds = ((digitsVal ds : Nat) : Int) := by
      have e : intText? (SX.S ds) = _ := intText_digits (x := SX.S ds) hall hne (by rw [SX.S_len]; omega)
      unfold val
      rw [show (⟨ds.toArray⟩ : Str) = SX.S ds from rfl, e]; rfl
    rw [e, numT_nat, hb]
    exact ⟨rfl, by simpa using hlt2⟩
theorem cut_one' {t : List Nat} {i c : Nat} (h : t[i]? = some c) : cut t i (i + 1) = [c] := by
  rw [cut_cons h (by omega)]
  unfold cut
  rw [Nat.sub_self, List.take_zero]
theorem cut_app {t : List Nat} {i j k : Nat} (h : i ≤ j) (h2 : j ≤ k) : cut t i k = cut t i j ++ cut t j k := by
  unfold cut
  rw [show k - i = (j - i) + (k - j) by omega, List.take_add, List.drop_drop]
  congr 3
  omega
theorem back_leaf {t : List Nat} {i j : Nat} {n : N} (h : rleaf t i = .got n j) : cut t i j = n.txt ∧ n.ok ∧ n.dep = 0 := by
  unfold rleaf at h
  cases hc : t[i]? with
  | none => rw [hc] at h; cases h
  | some c =>
    rw [hc] at h
    revert h
    show (if c ∈ lets then _ else if c = 45 ∧ isN t (i + 1) = false then _ else rnum t i) = _ → _
    split
    · rename_i hL
      intro h; cases h
      refine ⟨rfl, ⟨cut_len, c, _, cut_cons hc (run_gt hc (lets_wcs hL) (by decide)), hL, fun d hd => ?_⟩, rfl⟩
      exact cut_all (cs := wcs) (most := 24) (t := t) (i := i) d (by rw [cut_cons hc (run_gt hc (lets_wcs hL) (by decide))]; exact List.mem_cons_of_mem _ hd)
    · split
      · rename_i h45
        intro h; cases h
        exact ⟨by rw [cut_one' hc, h45.1]; rfl, trivial, rfl⟩
      · unfold rnum
        rw [hc]
        split
        · rename_i h48
          intro h; cases h
          exact ⟨by rw [cut_one' hc, show c = 48 by injection h48]; exact ((numT_nat 0).trans numL_zero).symm, by show (0 : Int).natAbs < 10 ^ 200; decide +kernel, rfl⟩
        · split
          · rename_i hN
            intro h; cases h
            have := num_back hN
            exact ⟨this.1.symm, this.2, rfl⟩
          · intro h; cases h
theorem more_txts : ∀ {ms : List N}, ms ≠ [] → N.more ms = 32 :: N.txts ms
  | [], h => absurd rfl h
  | _ :: _, _ => rfl
theorem back_loop {f : Nat → R} {t : List Nat} {D : Nat} (hpos : ∀ i n j, f i = .got n j → i < j ∧ j ≤ t.length) (hf : ∀ i n j, f i = .got n j → cut t i j = n.txt ∧ n.ok ∧ n.dep ≤ D) : ∀ (k i : Nat) (acc : List N) (n : N) (j : Nat), rloop f t k i acc = .got n j →
    ∃ ms, ms ≠ [] ∧ n = .tup (acc ++ ms) ∧ cut t (i + 1) j = N.txts ms ++ [41] ∧ i + 1 < j ∧ ∀ m ∈ ms, m.ok ∧ m.dep ≤ D
  | 0, i, acc, n, j, h => by unfold rloop at h; cases h
  | k + 1, i, acc, n, j, h => by
    unfold rloop at h
    cases e : f (i + 1) with
    | bad b => rw [e] at h; cases h
    | got x a =>
      rw [e] at h
      obtain ⟨p1, p2⟩ := hpos _ _ _ e
      obtain ⟨e1, e2, e3⟩ := hf _ _ _ e
      revert h
      show (if t[a]? = some 32 then rloop f t k a (acc ++ [x]) else if t[a]? = some 41 then R.got (.tup (acc ++ [x])) (a + 1) else .bad a) = _ → _
      by_cases h32 : t[a]? = some 32
      · rw [if_pos h32]
        intro h
        obtain ⟨ms, q0, q1, q2, q3, q4⟩ := back_loop hpos hf k a _ _ _ h
        refine ⟨x :: ms, by simp, by rw [q1]; simp, ?_, by omega, fun m hm => ?_⟩
        · rw [cut_app (j := a) (by omega) (by omega), e1, cut_cons h32 (by omega), q2]
          show _ = x.txt ++ N.more ms ++ [41]
          rw [more_txts q0, List.append_assoc]; rfl
        · rcases List.mem_cons.mp hm with z | z
          · rw [z]; exact ⟨e2, e3⟩
          · exact q4 m z
      · rw [if_neg h32]
        by_cases h41 : t[a]? = some 41
        · rw [if_pos h41]
          intro h; cases h
          refine ⟨[x], by simp, rfl, ?_, by omega, fun m hm => ?_⟩
          · rw [cut_app (j := a) (by omega) (by omega), e1, cut_one' h41]
            show _ = x.txt ++ N.more [] ++ [41]
            simp [N.more]
          · rw [List.mem_singleton.mp hm]; exact ⟨e2, e3⟩
        · rw [if_neg h41]; intro h; cases h
theorem back_part {t : List Nat} : ∀ (r i : Nat) (n : N) (j : Nat), rpart t r i = .got n j → cut t i j = n.txt ∧ n.ok ∧ n.dep ≤ r
  | 0, i, n, j, h => by
    rw [rpart_eq] at h
    split at h
    · cases h
    · obtain ⟨a, b, c⟩ := back_leaf h
      exact ⟨a, b, by omega⟩
  | r + 1, i, n, j, h => by
    rw [rpart_eq] at h
    split at h
    · rename_i h40
      have h' : rtup t r i = .got n j := h
      unfold rtup at h'
      split at h'
      · rename_i h41
        cases h'
        refine ⟨?_, trivial, by simp [N.dep, N.deps]⟩
        rw [cut_cons h40 (by omega), show i + 2 = i + 1 + 1 from rfl, cut_one' h41]
        rfl
      · obtain ⟨ms, q0, q1, q2, q3, q4⟩ := back_loop (rpart_pos r) (fun i n j => back_part r i n j) _ _ _ _ _ h'
        rw [List.nil_append] at q1
        subst q1
        refine ⟨?_, oks_mem.mpr fun m hm => (q4 m hm).1, ?_⟩
        · rw [cut_cons h40 (by omega), q2]; rfl
        · have : N.deps ms ≤ r := deps_le.mpr fun m hm => (q4 m hm).2
          simp only [N.dep]; omega
    · obtain ⟨a, b, c⟩ := back_leaf h
      exact ⟨a, b, by omega⟩
theorem cut_all' (t : List Nat) : cut t 0 t.length = t := by unfold cut; rw [List.drop_zero, Nat.sub_zero, List.take_length]
/-! ### the words of a note's text, its brackets parted -/
inductive Tk where
  | opn
  | cls
  | leaf (n : N)
def Tk.wd : Tk → List Nat
  | .opn => [40]
  | .cls => [41]
  | .leaf n => n.txt
def Lf (n : N) : Prop := n = .non ∨ (∃ w, n = .wrd w) ∨ ∃ i, n = .num i
def Tk.ok : Tk → Prop
  | .opn => True
  | .cls => True
  | .leaf n => n.ok ∧ Lf n
mutual
def N.tk : N → List Tk
  | .non => [.leaf .non]
  | .wrd w => [.leaf (.wrd w)]
  | .num i => [.leaf (.num i)]
  | .tup ns => .opn :: (N.tks ns ++ [.cls])
def N.tks : List N → List Tk
  | [] => []
  | n :: ns => N.tk n ++ N.tks ns
end
mutual
theorem tk_ok : ∀ (n : N), n.ok → ∀ x ∈ n.tk, x.ok
  | .non, _ => by intro x hx; rw [List.mem_singleton.mp hx]; exact ⟨trivial, .inl rfl⟩
  | .wrd w, h => by intro x hx; rw [List.mem_singleton.mp hx]; exact ⟨h, .inr (.inl ⟨w, rfl⟩)⟩
  | .num i, h => by intro x hx; rw [List.mem_singleton.mp hx]; exact ⟨h, .inr (.inr ⟨i, rfl⟩)⟩
  | .tup ns, h => by
    intro x hx
    rcases List.mem_cons.mp hx with e | hx
    · rw [e]; trivial
    · rcases List.mem_append.mp hx with hx | hx
      · exact tks_ok ns h x hx
      · rw [List.mem_singleton.mp hx]; trivial
theorem tks_ok : ∀ (ns : List N), N.oks ns → ∀ x ∈ N.tks ns, x.ok
  | [], _ => fun x hx => absurd hx List.not_mem_nil
  | n :: ns, h => by
    intro x hx
    rcases List.mem_append.mp hx with hx | hx
    · exact tk_ok n h.1 x hx
    · exact tks_ok ns h.2 x hx
end
/-- a stack of lists, innermost first, and what a word does to it -/
def prun : List (List N) → List Tk → Option (List (List N))
  | st, [] => some st
  | st, .opn :: r => prun ([] :: st) r
  | l :: m :: st, .cls :: r => prun ((m ++ [.tup l]) :: st) r
  | _, .cls :: _ => none
  | l :: st, .leaf n :: r => prun ((l ++ [n]) :: st) r
  | [], .leaf _ :: _ => none
theorem prun_opn (st : List (List N)) (r : List Tk) : prun st (.opn :: r) = prun ([] :: st) r := by
  cases st with
  | nil => rfl
  | cons a st => cases st <;> rfl
theorem prun_leaf (l : List N) (st : List (List N)) (n : N) (r : List Tk) : prun (l :: st) (.leaf n :: r) = prun ((l ++ [n]) :: st) r := by
  cases st <;> rfl
mutual
theorem prun_tk : ∀ (n : N) (l : List N) (st : List (List N)) (r : List Tk), prun (l :: st) (n.tk ++ r) = prun ((l ++ [n]) :: st) r
  | .non, l, st, r => prun_leaf _ _ _ _
  | .wrd w, l, st, r => prun_leaf _ _ _ _
  | .num i, l, st, r => prun_leaf _ _ _ _
  | .tup ns, l, st, r => by
    show prun (l :: st) (.opn :: ((N.tks ns ++ [.cls]) ++ r)) = _
    rw [prun_opn, List.append_assoc, prun_tks ns [] (l :: st)]
    rfl
theorem prun_tks : ∀ (ns : List N) (l : List N) (st : List (List N)) (r : List Tk), prun (l :: st) (N.tks ns ++ r) = prun ((l ++ ns) :: st) r
  | [], l, st, r => by rw [List.append_nil]; rfl
  | n :: ns, l, st, r => by
    show prun (l :: st) ((n.tk ++ N.tks ns) ++ r) = _
    rw [List.append_assoc, prun_tk n l st, prun_tks ns (l ++ [n]) st, List.append_assoc]
    rfl
end
theorem prun_note (n : N) : prun [[]] n.tk = some [[n]] := by
  have := prun_tk n [] [] []
  rw [List.append_nil] at this
  exact this
/-- the text with blanks around each bracket -/
def spc (t : List Nat) : List Nat := t.flatMap fun c => if c = 40 then [32, 40, 32] else if c = 41 then [32, 41, 32] else [c]
theorem spc_app (a b : List Nat) : spc (a ++ b) = spc a ++ spc b := by unfold spc; rw [List.flatMap_append]
theorem spc_cons (c : Nat) (b : List Nat) : spc (c :: b) = (if c = 40 then [32, 40, 32] else if c = 41 then [32, 41, 32] else [c]) ++ spc b := by unfold spc; rw [List.flatMap_cons]
theorem spc_free : ∀ {w : List Nat}, (∀ c ∈ w, c ≠ 40 ∧ c ≠ 41) → spc w = w
  | [], _ => rfl
  | c :: w, h => by
    have h0 := h c List.mem_cons_self
    rw [spc_cons, if_neg h0.1, if_neg h0.2, spc_free fun d hd => h d (List.mem_cons_of_mem _ hd)]; rfl
theorem spc_len : ∀ t : List Nat, (spc t).length ≤ 3 * t.length
  | [] => Nat.le_refl _
  | c :: t => by
    have := spc_len t
    rw [spc_cons, List.length_append, List.length_cons]
    have : (if c = 40 then [32, 40, 32] else if c = 41 then [32, 41, 32] else [c]).length ≤ 3 := by
      split
      · decide
      · split
        · decide
        · show 1 ≤ 3; decide
    omega
/-- signs that stand in a leaf -/
theorem leaf_sgn {n : N} (h : n.ok) (hl : Lf n) : n.txt ≠ [] ∧ ∀ c ∈ n.txt, c ∈ wcs := by
  rcases hl with rfl | ⟨w, rfl⟩ | ⟨i, rfl⟩
  · exact ⟨by simp [N.txt], fun c hc => by rw [List.mem_singleton.mp hc]; decide +kernel⟩
  · have h' : WOk w := h
    refine ⟨?_, h'.all⟩
    obtain ⟨_, c, r, e, _⟩ := h'
    show w ≠ []
    rw [e]; simp
  · have dw : ∀ c ∈ digs, c ∈ wcs := by decide +kernel
    show numT i ≠ [] ∧ ∀ c ∈ numT i, c ∈ wcs
    rcases Int.lt_or_le i 0 with c | c
    · rw [numT_ng c]
      refine ⟨by simp, fun d hd => ?_⟩
      rcases List.mem_cons.mp hd with e | hd
      · rw [e]; decide +kernel
      · exact dw _ (numL_digs _ d hd)
    · rw [numT_pos c]
      exact ⟨numL_ne _, fun d hd => dw _ (numL_digs _ d hd)⟩
theorem wcs_nb {c : Nat} (h : c ∈ wcs) : Unicode.isSpace c = false := by
  have : ∀ c ∈ wcs, Unicode.isSpace c = false := by decide +kernel
  exact this c h
/-- what a blank does behind a word, behind none -/
theorem wst_sp (ws : List (List Nat)) (u : List Nat) : wstep (ws, u) 32 = ((if u = [] then ws else ws ++ [u]), []) := by
  have hs : Unicode.isSpace 32 = true := by decide +kernel
  have a : wstep (ws, u) 32 = (if u = [] then (ws, u) else (ws ++ [u], [])) := if_pos hs
  rw [a]
  by_cases h : u = []
  · rw [if_pos h, if_pos h, h]
  · rw [if_neg h, if_neg h]
def Bl (s : List Nat) : Prop := s = [] ∨ ∃ r, s = 32 :: r
theorem wf_word {w : List Nat} (hn : w ≠ []) (h : ∀ c ∈ w, Unicode.isSpace c = false) {s : List Nat} (hs : Bl s) (ws : List (List Nat)) : wfin ((w ++ s).foldl wstep (ws, [])) = wfin (s.foldl wstep (ws ++ [w], [])) := by
  rw [List.foldl_append, wfold_word w ws [] h, List.nil_append]
  rcases hs with rfl | ⟨r, rfl⟩
  · show wfin (ws, w) = wfin (ws ++ [w], [])
    unfold wfin
    rw [if_neg hn, if_pos rfl]
  · rw [List.foldl_cons, List.foldl_cons, wst_sp, wst_sp, if_neg hn, if_pos rfl]
theorem wf_sp (s : List Nat) (ws : List (List Nat)) : wfin ((32 :: s).foldl wstep (ws, [])) = wfin (s.foldl wstep (ws, [])) := by
  rw [List.foldl_cons, wst_sp, if_pos rfl]
theorem sign40 : Unicode.isSpace 40 = false := by decide +kernel
theorem sign41 : Unicode.isSpace 41 = false := by decide +kernel
theorem bl_cons (r : List Nat) : Bl (32 :: r) := .inr ⟨r, rfl⟩
theorem spc_more_bl (ns : List N) (s : List Nat) (h : Bl s) : Bl (spc (N.more ns) ++ s) := by
  cases ns with
  | nil => exact h
  | cons n ns => exact .inr ⟨_, by show spc (32 :: _) ++ s = _; rw [spc_cons]; rfl⟩
theorem wf_leaf {n : N} (h : n.ok) (hl : Lf n) {s : List Nat} (hs : Bl s) (ws : List (List Nat)) : wfin ((spc n.txt ++ s).foldl wstep (ws, [])) = wfin (s.foldl wstep (ws ++ [n.txt], [])) := by
  obtain ⟨h1, h2⟩ := leaf_sgn h hl
  rw [spc_free fun c hc => by have := wcs_out (h2 c hc); omega]
  exact wf_word h1 (fun c hc => wcs_nb (h2 c hc)) hs ws
mutual
theorem wf_txt : ∀ (n : N), n.ok → ∀ (s : List Nat) (ws : List (List Nat)), Bl s → wfin ((spc n.txt ++ s).foldl wstep (ws, [])) = wfin (s.foldl wstep (ws ++ n.tk.map Tk.wd, []))
  | .non, h, s, ws, hs => wf_leaf h (.inl rfl) hs ws
  | .wrd w, h, s, ws, hs => wf_leaf h (.inr (.inl ⟨w, rfl⟩)) hs ws
  | .num i, h, s, ws, hs => wf_leaf h (.inr (.inr ⟨i, rfl⟩)) hs ws
  | .tup ns, h, s, ws, hs => by
    have e : spc (N.tup ns).txt ++ s = 32 :: ([40] ++ (32 :: (spc (N.txts ns) ++ (32 :: ([41] ++ (32 :: s)))))) := by
      show spc (40 :: (N.txts ns ++ [41])) ++ s = _
      rw [spc_cons, spc_app, spc_cons]
      simp [spc]
    have g1 : ∀ c ∈ [40], Unicode.isSpace c = false := fun c hc => by rw [List.mem_singleton.mp hc]; exact sign40
    have g2 : ∀ c ∈ [41], Unicode.isSpace c = false := fun c hc => by rw [List.mem_singleton.mp hc]; exact sign41
    rw [e, wf_sp, wf_word (by simp) g1 (bl_cons _), wf_sp, wf_txts ns h _ _ (bl_cons _), wf_sp, wf_word (by simp) g2 (bl_cons _), wf_sp]
    congr 2
    show _ = (ws ++ ([40] :: (N.tks ns ++ [Tk.cls]).map Tk.wd), [])
    rw [List.map_append]
    simp [Tk.wd]
theorem wf_txts : ∀ (ns : List N), N.oks ns → ∀ (s : List Nat) (ws : List (List Nat)), Bl s → wfin ((spc (N.txts ns) ++ s).foldl wstep (ws, [])) = wfin (s.foldl wstep (ws ++ (N.tks ns).map Tk.wd, []))
  | [], _, s, ws, hs => by simp [N.txts, N.tks, spc]
  | n :: ns, h, s, ws, hs => by
    show wfin ((spc (n.txt ++ N.more ns) ++ s).foldl wstep (ws, [])) = _
    rw [spc_app, List.append_assoc, wf_txt n h.1 _ ws (spc_more_bl ns s hs), wf_more ns h.2 s _ hs]
    show _ = wfin (s.foldl wstep (ws ++ (n.tk ++ N.tks ns).map Tk.wd, []))
    rw [List.map_append, List.append_assoc]
theorem wf_more : ∀ (ns : List N), N.oks ns → ∀ (s : List Nat) (ws : List (List Nat)), Bl s → wfin ((spc (N.more ns) ++ s).foldl wstep (ws, [])) = wfin (s.foldl wstep (ws ++ (N.tks ns).map Tk.wd, []))
  | [], _, s, ws, hs => by simp [N.more, N.tks, spc]
  | n :: ns, h, s, ws, hs => by
    have e : spc (N.more (n :: ns)) ++ s = 32 :: (spc n.txt ++ (spc (N.more ns) ++ s)) := by
      show spc (32 :: (n.txt ++ N.more ns)) ++ s = _
      rw [spc_cons, spc_app, List.append_assoc]
      simp
    rw [e, wf_sp, wf_txt n h.1 _ ws (spc_more_bl ns s hs), wf_more ns h.2 s _ hs]
    show _ = wfin (s.foldl wstep (ws ++ (n.tk ++ N.tks ns).map Tk.wd, []))
    rw [List.map_append, List.append_assoc]
end
/-! ### replacing -/
theorem repl_one (d : Nat) (z : List Nat) : ∀ t : List Nat, StrLaws.replL [d] z t = t.flatMap fun c => if c = d then z else [c]
  | [] => StrLaws.replL_nil
  | c :: t => by
    rw [List.flatMap_cons]
    by_cases h : c = d
    · rw [if_pos h, StrLaws.replL_hit (by simp) (by rw [h]; rfl)]
      show z ++ StrLaws.replL [d] z t = _
      rw [repl_one d z t]
    · rw [if_neg h, StrLaws.replL_miss (by simpa using h), repl_one d z t]; rfl
theorem spc_two (t : List Nat) : StrLaws.replL [41] [32, 41, 32] (StrLaws.replL [40] [32, 40, 32] t) = spc t := by
  rw [repl_one, repl_one, List.flatMap_assoc]
  unfold spc
  congr 1
  funext c
  by_cases h : c = 40
  · rw [if_pos h, if_pos h]; rfl
  · rw [if_neg h, if_neg h]
    show (if c = 41 then _ else [c]) ++ [] = _
    rw [List.append_nil]
theorem s_opn : tl (Str.ofString "(") = [40] := by decide +kernel
theorem s_cls : tl (Str.ofString ")") = [41] := by decide +kernel
theorem s_opn3 : tl (Str.ofString " ( ") = [32, 40, 32] := by decide +kernel
theorem s_cls3 : tl (Str.ofString " ) ") = [32, 41, 32] := by decide +kernel
theorem repl_txt (t : List Nat) : Txt.replace (Txt.replace (SX.S t) (Str.ofString "(") (Str.ofString " ( ")) (Str.ofString ")") (Str.ofString " ) ") = SX.S (spc t) := by
  apply TL.ext_tl
  have h1 : 1 ≤ (Str.ofString "(").length := by decide +kernel
  have h2 : 1 ≤ (Str.ofString ")").length := by decide +kernel
  have a := StrLaws.replace_list (x := SX.S t) (z := Str.ofString " ( ") h1
  have b := StrLaws.replace_list (x := Txt.replace (SX.S t) (Str.ofString "(") (Str.ofString " ( ")) (z := Str.ofString " ) ") h2
  show (Txt.replace (Txt.replace (SX.S t) (Str.ofString "(") (Str.ofString " ( ")) (Str.ofString ")") (Str.ofString " ) ")).cps.toList = spc t
  rw [b, a]
  have e1 : (Str.ofString "(").cps.toList = [40] := s_opn
  have e2 : (Str.ofString ")").cps.toList = [41] := s_cls
  have e3 : (Str.ofString " ( ").cps.toList = [32, 40, 32] := s_opn3
  have e4 : (Str.ofString " ) ").cps.toList = [32, 41, 32] := s_cls3
  rw [e1, e2, e3, e4]
  exact spc_two t
theorem words_note {n : N} (h : n.ok) : Txt.words (SX.S (spc n.txt)) = (n.tk.map Tk.wd).map SX.S := by
  have e := words_tl (SX.S (spc n.txt))
  have e2 : tl (SX.S (spc n.txt)) = spc n.txt := tl_mk _
  rw [e2] at e
  have w := wf_txt n h [] [] (.inl rfl)
  rw [List.append_nil] at w
  rw [w] at e
  have e3 : wfin (([] : List Nat).foldl wstep ([] ++ n.tk.map Tk.wd, [])) = n.tk.map Tk.wd := by
    show wfin ([] ++ n.tk.map Tk.wd, []) = _
    unfold wfin
    rw [if_pos rfl, List.nil_append]
  rw [e3] at e
  rw [← e, List.map_map]
  have : (SX.S ∘ tl) = id := by funext x; exact mk_tl x
  rw [this, List.map_id]
end GN
/-! a def that calls replace on a text with written texts: a token is out, as it has a parameter -/
namespace L2
open PySem PySem.Spec PyProof.Rows CwR
section
variable {X : Cx}
theorem PSsT.nox {st : List Stmt} {t : TS} (h : PSsT X.nox st t) : PSsT X st t := fun pins s σ H D h0 I hw => by
  have := h pins s σ H D h0 (I.wish _) hw
  exact wpAny_mono this (fun f s1 q => SP.unwish q) fun _ _ q => False.elim q
theorem pet_m0 {id : String} {name : Str} {o : Expr} {to : TE} {apos pos : Pos} {r : V → List V → Hp → VK → Prop} (slot : Slot "str" name id) (ty : typeOf (.builtin id) = pure (.type "method_descriptor")) (rule : MtR X id r) (ho : PET X o to)
    (hbase : attributeBase o name X.env (eval o X.env) = eval o X.env := by rfl) (hline : (apos.endLine == pos.line) = true := by rfl) : PET X (.Call (.Attribute o name apos) [] [] pos) (tM0 r to) := by
  intro pins s σ H Q h0 I h
  refine PySem.Call_method0 hbase hline (thn (ho pins s σ H _ h0 I h) fun v s1 ⟨x, H1, I1, r1, q1⟩ => ?_)
  obtain ⟨⟨a, rfl⟩, q1⟩ := q1
  obtain ⟨t, rfl⟩ := _root_.id r1
  exact ⟨"str", _, F.plainAttrs_str, slot, ty, typeIs_str _ _ _, (fun _ e => nomatch e), Calls.callWith_builtin rfl (PySem.evalArgs_none (rule pins s1 σ H1 _ [] _ [] Q I1 r1 .nil q1))⟩
end
/-- a def with a parameter, none of its names a cell -/
theorem Fun.okT {P : Program} {w : World} {K : PySem.W.Frag} {mg : Str → Option Value} {base : Heap} {x qual : Str} {st : Stmt} {f : Addr} {fd : FuncData} {N ps : List Str} {k : Nat} {sp : Sp} (F : Fun K x qual st f fd) (S : FnScope N ps (defScope st)) (len : ∀ vs H Q E, sp vs H Q E → vs.length = ps.length)
    (hnc : ∀ y ∈ (defScope st).names, y.2 ≠ .cell) (hps : 1 ≤ ps.length)
    (hbody : ∀ (cdv : Value) (A : Around) (outer : List Env) (s : Shared) (H : Hp) (vs : List V) (Q : VK) (E : XK), Room k (A.deeper (envOfC qual (defScope st) s.heap.objs.size f cdv)) → sp vs H Q E →
      ∃ t, PSsT (cxOf CX0 P w K mg base N qual (defScope st) f cdv A outer s H E).nox (defBody st) t ∧ t { nx := fun _ H' => Q .non H', rt := Q } (start N vs) H) : FnOk P w K mg base CX0 (k + 1) f fd ps sp := by
  obtain ⟨oc, od, kV, doc, pm, an, cdv, ct, osl, rfl, lk, hcd⟩ := F.ex
  refine fn_ofT lk hcd S hnc hps len fun A outer s H vs Q E hr hsp => ?_
  obtain ⟨t, h, q⟩ := hbody cdv A outer s H vs Q E hr hsp
  exact ⟨t, h.nox, q⟩
end L2
namespace LW
open PySem PySem.Spec PyProof.Rows L2
def top (i : Nat) : Stmt := PySem.Challenge.pw_gangbooks_k08_note_first_wrong.main.body.getD i (.Pass ⟨0, 0, 0, 0⟩)
abbrev s_GangError_init : Stmt := inClass (top 1) 0
abbrev s_write_note : Stmt := top 12
abbrev s_end_of : Stmt := top 18
abbrev s_begins_number : Stmt := top 17
abbrev s_read_number : Stmt := top 16
abbrev s_read_part : Stmt := top 14
abbrev s_read_tuple : Stmt := top 15
abbrev s_read_note : Stmt := top 13
abbrev s_pool : Stmt := top 20
abbrev s_draw : Stmt := top 21
abbrev s_word : Stmt := top 22
abbrev s_integer : Stmt := top 23
abbrev s_leaf : Stmt := top 24
abbrev s_close : Stmt := top 25
abbrev s_note : Stmt := top 26
abbrev s_whole : Stmt := top 27
abbrev s_same : Stmt := top 28
abbrev s_next : Stmt := top 29
abbrev s_wrong : Stmt := top 30
abbrev s_parsed : Stmt := top 31
abbrev s_asked : Stmt := top 32
abbrev s_char : Stmt := top 33
abbrev s_changed : Stmt := top 34
abbrev s_odd : Stmt := top 35
abbrev s_law : Stmt := top 36
theorem sc_GangError_init : FnScope ["self", "subject"] ["self", "subject"] (defScope s_GangError_init) := ⟨rfl, rfl, rfl, by decide +kernel, rfl, by decide +kernel, by decide +kernel⟩
theorem sc_write_note : FnScope ["note", "texts", "part"] ["note"] (defScope s_write_note) := ⟨rfl, rfl, rfl, by decide +kernel, rfl, by decide +kernel, by decide +kernel⟩
theorem sc_end_of : FnScope ["text", "at", "chars", "most", "end"] ["text", "at", "chars", "most"] (defScope s_end_of) := ⟨rfl, rfl, rfl, by decide +kernel, rfl, by decide +kernel, by decide +kernel⟩
theorem sc_begins_number : FnScope ["text", "at"] ["text", "at"] (defScope s_begins_number) := ⟨rfl, rfl, rfl, by decide +kernel, rfl, by decide +kernel, by decide +kernel⟩
theorem sc_read_number : FnScope ["text", "at", "first", "end"] ["text", "at"] (defScope s_read_number) := ⟨rfl, rfl, rfl, by decide +kernel, rfl, by decide +kernel, by decide +kernel⟩
theorem sc_read_part : FnScope ["text", "at", "depth", "end"] ["text", "at", "depth"] (defScope s_read_part) := ⟨rfl, rfl, rfl, by decide +kernel, rfl, by decide +kernel, by decide +kernel⟩
theorem sc_read_tuple : FnScope ["text", "at", "depth", "parts", "behind", "part"] ["text", "at", "depth"] (defScope s_read_tuple) := ⟨rfl, rfl, rfl, by decide +kernel, rfl, by decide +kernel, by decide +kernel⟩
theorem sc_read_note : FnScope ["text", "note", "at"] ["text"] (defScope s_read_note) := ⟨rfl, rfl, rfl, by decide +kernel, rfl, by decide +kernel, by decide +kernel⟩
theorem sc_pool : FnScope ["_law_script", "_law_pool_here", "_law_cell"] ["_law_script"] (defScope s_pool) := ⟨rfl, rfl, rfl, by decide +kernel, rfl, by decide +kernel, by decide +kernel⟩
theorem sc_draw : FnScope ["_law_pool_here", "_law_many", "_law_first", "_law_second", "_law_found"] ["_law_pool_here", "_law_many"] (defScope s_draw) := ⟨rfl, rfl, rfl, by decide +kernel, rfl, by decide +kernel, by decide +kernel⟩
theorem sc_word : FnScope ["_law_pool_here", "_law_letters", "_law_size", "_law_word_here", "_law_k"] ["_law_pool_here"] (defScope s_word) := ⟨rfl, rfl, rfl, by decide +kernel, rfl, by decide +kernel, by decide +kernel⟩
theorem sc_integer : FnScope ["_law_pool_here", "_law_way", "_law_number", "_law_count", "_law_k"] ["_law_pool_here"] (defScope s_integer) := ⟨rfl, rfl, rfl, by decide +kernel, rfl, by decide +kernel, by decide +kernel⟩
theorem sc_leaf : FnScope ["_law_pool_here", "_law_kind"] ["_law_pool_here"] (defScope s_leaf) := ⟨rfl, rfl, rfl, by decide +kernel, rfl, by decide +kernel, by decide +kernel⟩
theorem sc_close : FnScope ["_law_rows", "_law_texts", "_law_row", "_law_text"] ["_law_rows", "_law_texts"] (defScope s_close) := ⟨rfl, rfl, rfl, by decide +kernel, rfl, by decide +kernel, by decide +kernel⟩
theorem sc_note : FnScope ["_law_pool_here", "_law_rows", "_law_texts", "_law_many", "_law_k", "_law_way", "_law_leaf_here"] ["_law_pool_here"] (defScope s_note) := ⟨rfl, rfl, rfl, by decide +kernel, rfl, by decide +kernel, by decide +kernel⟩
theorem sc_whole : FnScope ["_law_value"] ["_law_value"] (defScope s_whole) := ⟨rfl, rfl, rfl, by decide +kernel, rfl, by decide +kernel, by decide +kernel⟩
theorem sc_same : FnScope ["_law_told", "_law_note_here", "_law_most", "_law_left", "_law_k", "_law_one", "_law_other"] ["_law_told", "_law_note_here", "_law_most"] (defScope s_same) := ⟨rfl, rfl, rfl, by decide +kernel, rfl, by decide +kernel, by decide +kernel⟩
theorem sc_next : FnScope ["_law_mode", "_law_size", "_law_depth", "_law_char_here", "_law_letters"] ["_law_mode", "_law_size", "_law_depth", "_law_char_here"] (defScope s_next) := ⟨rfl, rfl, rfl, by decide +kernel, rfl, by decide +kernel, by decide +kernel⟩
theorem sc_wrong : FnScope ["_law_text", "_law_mode", "_law_size", "_law_depth", "_law_at", "_law_later"] ["_law_text"] (defScope s_wrong) := ⟨rfl, rfl, rfl, by decide +kernel, rfl, by decide +kernel, by decide +kernel⟩
theorem sc_parsed : FnScope ["_law_text", "_law_rows", "_law_word_here", "_law_row"] ["_law_text"] (defScope s_parsed) := ⟨rfl, rfl, rfl, by decide +kernel, rfl, by decide +kernel, by decide +kernel⟩
theorem sc_asked : FnScope ["_law_text", "_law_wrong_here", "_law_told", "e"] ["_law_text"] (defScope s_asked) := ⟨rfl, rfl, rfl, by decide +kernel, rfl, by decide +kernel, by decide +kernel⟩
theorem sc_char : FnScope ["_law_pool_here", "_law_chars"] ["_law_pool_here"] (defScope s_char) := ⟨rfl, rfl, rfl, by decide +kernel, rfl, by decide +kernel, by decide +kernel⟩
theorem sc_changed : FnScope ["_law_pool_here", "_law_text", "_law_how", "_law_at", "_law_char_here"] ["_law_pool_here", "_law_text"] (defScope s_changed) := ⟨rfl, rfl, rfl, by decide +kernel, rfl, by decide +kernel, by decide +kernel⟩
theorem sc_odd : FnScope ["_law_at", "_law_odd_here"] ["_law_at"] (defScope s_odd) := ⟨rfl, rfl, rfl, by decide +kernel, rfl, by decide +kernel, by decide +kernel⟩
theorem sc_law : FnScope ["_law_script", "_law_pool_here", "_law_text", "_law_k", "_law_spoilt", "_law_turn"] ["_law_script"] (defScope s_law) := ⟨rfl, rfl, rfl, by decide +kernel, rfl, by decide +kernel, by decide +kernel⟩
/-- where the top has put what the law uses -/
structure Adr where
  c_GangError : Addr
  c_BadNote : Addr
  c_BadLine : Addr
  c_BadCertificate : Addr
  f_GangError_init : Addr
  d_GangError_init : FuncData
  f_write_note : Addr
  d_write_note : FuncData
  f_end_of : Addr
  d_end_of : FuncData
  f_begins_number : Addr
  d_begins_number : FuncData
  f_read_number : Addr
  d_read_number : FuncData
  f_read_part : Addr
  d_read_part : FuncData
  f_read_tuple : Addr
  d_read_tuple : FuncData
  f_read_note : Addr
  d_read_note : FuncData
  f_pool : Addr
  d_pool : FuncData
  f_draw : Addr
  d_draw : FuncData
  f_word : Addr
  d_word : FuncData
  f_integer : Addr
  d_integer : FuncData
  f_leaf : Addr
  d_leaf : FuncData
  f_close : Addr
  d_close : FuncData
  f_note : Addr
  d_note : FuncData
  f_whole : Addr
  d_whole : FuncData
  f_same : Addr
  d_same : FuncData
  f_next : Addr
  d_next : FuncData
  f_wrong : Addr
  d_wrong : FuncData
  f_parsed : Addr
  d_parsed : FuncData
  f_asked : Addr
  d_asked : FuncData
  f_char : Addr
  d_char : FuncData
  f_changed : Addr
  d_changed : FuncData
  f_odd : Addr
  d_odd : FuncData
  f_law : Addr
  d_law : FuncData
structure Txt (K : PySem.W.Frag) (mg : Str → Option Value) (A : Adr) : Prop where
  n_ValueError : mg "ValueError" = none
  n_bool : mg "bool" = none
  n_int : mg "int" = none
  n_isinstance : mg "isinstance" = none
  n_len : mg "len" = none
  n_list : mg "list" = none
  n_range : mg "range" = none
  n_str : mg "str" = none
  n_tuple : mg "tuple" = none
  n_zip : mg "zip" = none
  g_GangError : mg "GangError" = some (.ref A.c_GangError)
  g_BadNote : mg "BadNote" = some (.ref A.c_BadNote)
  g_BadLine : mg "BadLine" = some (.ref A.c_BadLine)
  g_BadCertificate : mg "BadCertificate" = some (.ref A.c_BadCertificate)
  F_GangError_init : Fun K "__init__" "GangError.__init__" s_GangError_init A.f_GangError_init A.d_GangError_init
  b_GangError_init : Binds K A.d_GangError_init ["self", "subject"] []
  me_GangError_init : Meth K A.c_GangError "__init__" A.f_GangError_init
  F_write_note : Fun K "write_note" "write_note" s_write_note A.f_write_note A.d_write_note
  b_write_note : Binds K A.d_write_note ["note"] []
  g_write_note : mg "write_note" = some (.ref A.f_write_note)
  F_end_of : Fun K "end_of" "end_of" s_end_of A.f_end_of A.d_end_of
  b_end_of : Binds K A.d_end_of ["text", "at", "chars", "most"] []
  g_end_of : mg "end_of" = some (.ref A.f_end_of)
  F_begins_number : Fun K "begins_number" "begins_number" s_begins_number A.f_begins_number A.d_begins_number
  b_begins_number : Binds K A.d_begins_number ["text", "at"] []
  g_begins_number : mg "begins_number" = some (.ref A.f_begins_number)
  F_read_number : Fun K "read_number" "read_number" s_read_number A.f_read_number A.d_read_number
  b_read_number : Binds K A.d_read_number ["text", "at"] []
  g_read_number : mg "read_number" = some (.ref A.f_read_number)
  F_read_part : Fun K "read_part" "read_part" s_read_part A.f_read_part A.d_read_part
  b_read_part : Binds K A.d_read_part ["text", "at", "depth"] []
  g_read_part : mg "read_part" = some (.ref A.f_read_part)
  F_read_tuple : Fun K "read_tuple" "read_tuple" s_read_tuple A.f_read_tuple A.d_read_tuple
  b_read_tuple : Binds K A.d_read_tuple ["text", "at", "depth"] []
  g_read_tuple : mg "read_tuple" = some (.ref A.f_read_tuple)
  F_read_note : Fun K "read_note" "read_note" s_read_note A.f_read_note A.d_read_note
  b_read_note : Binds K A.d_read_note ["text"] []
  g_read_note : mg "read_note" = some (.ref A.f_read_note)
  F_pool : Fun K "_law_pool" "_law_pool" s_pool A.f_pool A.d_pool
  b_pool : Binds K A.d_pool ["_law_script"] []
  g_pool : mg "_law_pool" = some (.ref A.f_pool)
  F_draw : Fun K "_law_draw" "_law_draw" s_draw A.f_draw A.d_draw
  b_draw : Binds K A.d_draw ["_law_pool_here", "_law_many"] []
  g_draw : mg "_law_draw" = some (.ref A.f_draw)
  F_word : Fun K "_law_word" "_law_word" s_word A.f_word A.d_word
  b_word : Binds K A.d_word ["_law_pool_here"] []
  g_word : mg "_law_word" = some (.ref A.f_word)
  F_integer : Fun K "_law_integer" "_law_integer" s_integer A.f_integer A.d_integer
  b_integer : Binds K A.d_integer ["_law_pool_here"] []
  g_integer : mg "_law_integer" = some (.ref A.f_integer)
  F_leaf : Fun K "_law_leaf" "_law_leaf" s_leaf A.f_leaf A.d_leaf
  b_leaf : Binds K A.d_leaf ["_law_pool_here"] []
  g_leaf : mg "_law_leaf" = some (.ref A.f_leaf)
  F_close : Fun K "_law_close" "_law_close" s_close A.f_close A.d_close
  b_close : Binds K A.d_close ["_law_rows", "_law_texts"] []
  g_close : mg "_law_close" = some (.ref A.f_close)
  F_note : Fun K "_law_note" "_law_note" s_note A.f_note A.d_note
  b_note : Binds K A.d_note ["_law_pool_here"] []
  g_note : mg "_law_note" = some (.ref A.f_note)
  F_whole : Fun K "_law_whole" "_law_whole" s_whole A.f_whole A.d_whole
  b_whole : Binds K A.d_whole ["_law_value"] []
  g_whole : mg "_law_whole" = some (.ref A.f_whole)
  F_same : Fun K "_law_same" "_law_same" s_same A.f_same A.d_same
  b_same : Binds K A.d_same ["_law_told", "_law_note_here", "_law_most"] []
  g_same : mg "_law_same" = some (.ref A.f_same)
  F_next : Fun K "_law_next" "_law_next" s_next A.f_next A.d_next
  b_next : Binds K A.d_next ["_law_mode", "_law_size", "_law_depth", "_law_char_here"] []
  g_next : mg "_law_next" = some (.ref A.f_next)
  F_wrong : Fun K "_law_wrong" "_law_wrong" s_wrong A.f_wrong A.d_wrong
  b_wrong : Binds K A.d_wrong ["_law_text"] []
  g_wrong : mg "_law_wrong" = some (.ref A.f_wrong)
  F_parsed : Fun K "_law_parsed" "_law_parsed" s_parsed A.f_parsed A.d_parsed
  b_parsed : Binds K A.d_parsed ["_law_text"] []
  g_parsed : mg "_law_parsed" = some (.ref A.f_parsed)
  F_asked : Fun K "_law_asked" "_law_asked" s_asked A.f_asked A.d_asked
  b_asked : Binds K A.d_asked ["_law_text"] []
  g_asked : mg "_law_asked" = some (.ref A.f_asked)
  F_char : Fun K "_law_char" "_law_char" s_char A.f_char A.d_char
  b_char : Binds K A.d_char ["_law_pool_here"] []
  g_char : mg "_law_char" = some (.ref A.f_char)
  F_changed : Fun K "_law_changed" "_law_changed" s_changed A.f_changed A.d_changed
  b_changed : Binds K A.d_changed ["_law_pool_here", "_law_text"] []
  g_changed : mg "_law_changed" = some (.ref A.f_changed)
  F_odd : Fun K "_law_odd" "_law_odd" s_odd A.f_odd A.d_odd
  b_odd : Binds K A.d_odd ["_law_at"] []
  g_odd : mg "_law_odd" = some (.ref A.f_odd)
  F_law : Fun K "law" "law" s_law A.f_law A.d_law
  b_law : Binds K A.d_law ["_law_script"] []
  g_law : mg "law" = some (.ref A.f_law)
  kg : PySem.W.specialIn K (.builtin "object.__class__") "__get__" = some (some (.builtin "getset_descriptor.__get__"))
  kt : PySem.W.takesIn K (.builtin "object.__class__") = some true
  x_GangError : GExc K A.c_GangError A.f_GangError_init
  xf_GangError : XfC K A.c_GangError
  xc_GangError : ExcC K A.c_GangError
  xm_GangError : PySem.W.exmOne K (.ref A.c_GangError) (.ref A.c_GangError) = some true
  x_BadNote : GExc K A.c_BadNote A.f_GangError_init
  xf_BadNote : XfC K A.c_BadNote
  xc_BadNote : ExcC K A.c_BadNote
  xm_BadNote : PySem.W.exmOne K (.ref A.c_BadNote) (.ref A.c_GangError) = some true
  x_BadLine : GExc K A.c_BadLine A.f_GangError_init
  xf_BadLine : XfC K A.c_BadLine
  xc_BadLine : ExcC K A.c_BadLine
  xm_BadLine : PySem.W.exmOne K (.ref A.c_BadLine) (.ref A.c_GangError) = some true
  x_BadCertificate : GExc K A.c_BadCertificate A.f_GangError_init
  xf_BadCertificate : XfC K A.c_BadCertificate
  xc_BadCertificate : ExcC K A.c_BadCertificate
  xm_BadCertificate : PySem.W.exmOne K (.ref A.c_BadCertificate) (.ref A.c_GangError) = some true
  k_LETTERS : ∃ t, mg "LETTERS" = some (.str (Str.ofString "abcdefghijklmnopqrstuvwxyz") t)
  k_DIGITS : ∃ t, mg "DIGITS" = some (.str (Str.ofString "0123456789") t)
  k_WORD_CHARS : ∃ t, mg "WORD_CHARS" = some (.str (Str.ofString "abcdefghijklmnopqrstuvwxyz0123456789-:") t)
  k_MOST_LETTERS : ∃ t, mg "MOST_LETTERS" = some (.int 24 t)
  k_MOST_DIGITS : ∃ t, mg "MOST_DIGITS" = some (.int 200 t)
  k_DEEPEST : ∃ t, mg "DEEPEST" = some (.int 100 t)
  kt_BadNote_BadNote : PySem.W.kitOne K (.ref A.c_BadNote) (.ref A.c_BadNote) = some true
  kt_BadNote_ValueError : PySem.W.kitOne K (.ref A.c_BadNote) (.type "ValueError") = some true
  kt_BadNote_BadLine : PySem.W.kitOne K (.ref A.c_BadNote) (.ref A.c_BadLine) = some false
  kt_BadNote_BadCertificate : PySem.W.kitOne K (.ref A.c_BadNote) (.ref A.c_BadCertificate) = some false

open GN SX TL
def BadAt (A : Adr) (E : XK) (H : Hp) (i : Nat) : Prop := ∀ d H', Same H H' → H' d = some (.xd [(("subject" : Str), .int (i : Int))]) → E (.ref A.c_BadNote) (some d) H'
def FinR (A : Adr) (Q : VK) (E : XK) (H : Hp) : R → Prop
  | .bad i => BadAt A E H i
  | .got n j => ∀ p v H', Same H H' → H' p = some (.tup [v, .int (j : Int)]) → NoteAt H' n v → Q (.ref p) H'
theorem FinR.from {A : Adr} {Q : VK} {E : XK} {H H1 : Hp} {r : R} (h : FinR A Q E H r) (s : Same H H1) : FinR A Q E H1 r := by
  cases r with
  | bad i => exact fun d H' s' e => h d H' (s.trans s') e
  | got n j => exact fun p v H' s' e hn => h p v H' (s.trans s') e hn
def small (t : List Nat) : Prop := t.length ≤ 1000000
structure IsTxt (n : N) (x : List Nat) : Prop where
  e : x = n.txt
def spWrite (d : Nat) : Sp := fun vs H Q _ => ∃ (v : V) (n : N) (tx : List Nat), vs = [v] ∧ NoteAt H n v ∧ IsTxt n tx ∧ n.ok ∧ n.dep < d ∧ small tx ∧ ∀ H', Same H H' → Q (.str (S tx)) H'
def spEnd : Sp := fun vs H Q _ => ∃ (t : List Nat) (i most : Nat) (z : Str), vs = [.str (S t), .int (i : Int), .str z, .int (most : Int)] ∧ i ≤ t.length ∧ small t ∧ Q (.int (run (tl z) most t i : Nat)) H
def spBegins : Sp := fun vs H Q _ => ∃ (t : List Nat) (i : Nat), vs = [.str (S t), .int (i : Int)] ∧ small t ∧ Q (.bl (isN t i)) H
def spNum (A : Adr) : Sp := fun vs H Q E => ∃ (t : List Nat) (i : Nat), vs = [.str (S t), .int (i : Int)] ∧ i < t.length ∧ small t ∧ FinR A Q E H (rnum t i)
def spPart (A : Adr) (q : Nat) : Sp := fun vs H Q E => ∃ (t : List Nat) (i r : Nat) (dp : Int), vs = [.str (S t), .int (i : Int), .int dp] ∧ dp = 100 - (r : Int) ∧ q = r + 1 ∧ i ≤ t.length ∧ small t ∧ FinR A Q E H (rpart t r i)
def spTup (A : Adr) (q : Nat) : Sp := fun vs H Q E => ∃ (t : List Nat) (i : Nat) (dp : Int), vs = [.str (S t), .int (i : Int), .int dp] ∧ dp = 101 - (q : Int) ∧ i < t.length ∧ small t ∧ FinR A Q E H (rtupS t q i)
def rnote (t : List Nat) : R := match rpart t 100 0 with
  | .bad b => .bad b
  | .got n j => if j < t.length then .bad j else .got n j
structure RN (t : List Nat) (r : R) : Prop where
  e : rnote t = r
def spRead (A : Adr) : Sp := fun vs H Q E => ∃ (t : List Nat) (r : R), vs = [.str (S t)] ∧ small t ∧ RN t r ∧ (match r with
  | .bad i => BadAt A E H i
  | .got n _ => ∀ v H', Same H H' → NoteAt H' n v → Q v H')
def Leaf (n : N) (v : V) : Prop := (n = .non ∧ v = .non) ∨ (∃ w, n = .wrd w ∧ WOk w ∧ v = .str (S w)) ∨ ∃ i : Int, n = .num i ∧ i.natAbs < 10 ^ 200 ∧ v = .int i
def spWord : Sp := fun vs H Q _ => ∃ p, vs = [.ref p] ∧ PoolAt H p ∧ ∀ w H', WOk w → PoolAt H' p → SameBut p H H' → Q (.str (S w)) H'
def spInteger : Sp := fun vs H Q _ => ∃ p, vs = [.ref p] ∧ PoolAt H p ∧ ∀ (i : Int) H', i.natAbs < 10 ^ 200 → PoolAt H' p → SameBut p H H' → Q (.int i) H'
def spLeaf : Sp := fun vs H Q _ => ∃ p, vs = [.ref p] ∧ PoolAt H p ∧ ∀ n v H', Leaf n v → PoolAt H' p → SameBut p H H' → Q v H'
/-- one level of the stacks: the list of its notes, the list of their texts -/
structure Lv where
  r : Addr
  t : Addr
  ns : List N
def txs (ns : List N) : List Str := ns.map fun n => S n.txt
def LvOk (H : Hp) (l : Lv) : Prop := (∃ vs, H l.r = some (.lst vs) ∧ NotesAt H l.ns vs) ∧ H l.t = some (.lst ((txs l.ns).map V.str))
def adrs : List Lv → List Addr
  | [] => []
  | l :: ls => l.r :: l.t :: adrs ls
structure Stk (H : Hp) (a b : Addr) (ls : List Lv) : Prop where
  ha : H a = some (.lst (ls.reverse.map fun l => V.ref l.r))
  hb : H b = some (.lst (ls.reverse.map fun l => V.ref l.t))
  ok : ∀ l ∈ ls, LvOk H l
  nd : (a :: b :: adrs ls).Nodup
def DepOk : List Lv → Prop
  | [] => True
  | l :: ls => (∀ n ∈ l.ns, n.ok ∧ n.dep + (ls.length + 1) ≤ 100) ∧ DepOk ls
def Wt : List Lv → Nat
  | [] => 0
  | l :: ls => (N.more l.ns).length + 3 + Wt ls
def spClose : Sp := fun vs H Q _ => ∃ (a b : Addr) (l m : Lv) (ls : List Lv), vs = [.ref a, .ref b] ∧ Stk H a b (l :: m :: ls) ∧ Wt (l :: m :: ls) ≤ 1000000 ∧ ls.length ≤ 200 ∧
  ∀ H', Stk H' a b ({ m with ns := m.ns ++ [.tup l.ns] } :: ls) → (∀ c o, c ≠ a → c ≠ b → c ≠ m.r → c ≠ m.t → H c = some o → H' c = some o) → Q .non H'
def spNote : Sp := fun vs H Q _ => ∃ p, vs = [.ref p] ∧ PoolAt H p ∧ ∀ q v n H', H' q = some (.tup [v, .str (S n.txt)]) → NoteAt H' n v → n.ok → n.dep ≤ 100 → n.txt.length ≤ 100000 → PoolAt H' p → SameBut p H H' → Q (.ref q) H'
def spWhole : Sp := fun vs H Q _ => ∃ i : Int, vs = [.int i] ∧ Q (.bl true) H
structure MB (m : Int) : Prop where
  e : m ≤ 1000001
def spSame : Sp := fun vs H Q _ => ∃ (x y : V) (n : N) (m : Int), vs = [x, y, .int m] ∧ NoteAt H n x ∧ NoteAt H n y ∧ (n.sz : Int) < m ∧ MB m ∧ ∀ H', Same H H' → Q (.bl true) H'

theorem small_len {t : List Nat} (h : small t) : (S t).length ≤ sizeLine := by
  rw [S_len, sizeLine_eq]; unfold small at h; omega
theorem small_len2 {t : List Nat} (h : small t) : (S t).length ≤ 640 ∨ True := .inr trivial
theorem atS {t : List Nat} {i c : Nat} (h : t[i]? = some c) : atI (S t).cps.toList (i : Int) = some c := atI_nat h
theorem len_lt {t : List Nat} {i : Nat} : ((i : Int) < ((S t).length : Nat)) ↔ i < t.length := by rw [S_len]; omega
theorem eq_sign {c d : Nat} : (V.str ⟨#[c]⟩ = V.str ⟨#[d]⟩) ↔ c = d := by simp
theorem sign_eq (c d : Nat) : decide (V.str ⟨#[c]⟩ = V.str ⟨#[d]⟩) = decide (c = d) := by
  by_cases h : c = d
  · subst h; rw [decide_eq_true rfl, decide_eq_true rfl]
  · rw [decide_eq_false h, decide_eq_false fun z => h (by simpa using z)]
theorem isN_in {t : List Nat} {i c : Nat} (hc : t[i]? = some c) (hd : c ∈ (Str.ofString "0123456789").cps.toList) : isN t i = !decide (V.str ⟨#[c]⟩ = V.str (Str.ofString "0")) := by
  have hr := digs_range hd
  have e : Str.ofString "0" = ⟨#[48]⟩ := by decide +kernel
  rw [e, sign_eq]
  unfold isN
  rw [hc]
  by_cases h : c = 48
  · subst h; decide
  · rw [decide_eq_false h]
    exact decide_eq_true ⟨by omega, hr.2⟩
theorem isN_out {t : List Nat} {i c : Nat} (hc : t[i]? = some c) (hd : ¬ c ∈ (Str.ofString "0123456789").cps.toList) : isN t i = false := by
  unfold isN
  rw [hc]
  exact decide_eq_false fun h => hd (digs_of (c := c) ⟨by omega, h.2⟩)
theorem isN_end {t : List Nat} {i : Nat} (h : ¬ i < t.length) : isN t i = false := by
  unfold isN
  rw [List.getElem?_eq_none (by omega)]
theorem sign_iff {c : Nat} {x : Str} (d : Nat) (e : x = ⟨#[d]⟩) : (V.str ⟨#[c]⟩ = V.str x) ↔ c = d := by subst e; simp
theorem s0 : Str.ofString "0" = ⟨#[48]⟩ := by decide +kernel
theorem sm : Str.ofString "-" = ⟨#[45]⟩ := by decide +kernel
theorem sl : Str.ofString "(" = ⟨#[40]⟩ := by decide +kernel
theorem sr : Str.ofString ")" = ⟨#[41]⟩ := by decide +kernel
theorem ss : Str.ofString " " = ⟨#[32]⟩ := by decide +kernel
theorem cutS_eq {t : List Nat} {i e : Nat} (h1 : i ≤ t.length) (h2 : e ≤ t.length) : cutS (S t) (some (i : Int)) (some (e : Int)) = S (cut t i e) := by
  unfold cutS cut
  rw [HT.sIx_nat, HT.sIx_nat, S_len, Nat.min_eq_left h1, Nat.min_eq_left h2]
theorem cut_one {t : List Nat} {j : Nat} (h : j ≤ t.length) : cutS (S t) (some (j : Int)) (some ((j : Int) + 1)) = S t[j]?.toList := by
  have e : ((j : Int) + 1) = ((j + 1 : Nat) : Int) := rfl
  unfold cutS
  rw [e, HT.sIx_nat, HT.sIx_nat, S_len, Nat.min_eq_left h]
  show S _ = S _
  congr 1
  by_cases hj : j < t.length
  · rw [Nat.min_eq_left (by omega), List.getElem?_eq_getElem hj, List.drop_eq_getElem_cons hj]
    have : j + 1 - j = 1 := by omega
    rw [this]; rfl
  · have : j = t.length := by omega
    subst this
    rw [List.getElem?_eq_none (Nat.le_refl _), List.drop_length]; simp
theorem cut_iff {t : List Nat} {j d : Nat} {x : Str} (h : j ≤ t.length) (e : x = ⟨#[d]⟩) : (V.str (cutS (S t) (some (j : Int)) (some ((j : Int) + 1))) = V.str x) ↔ t[j]? = some d := by
  rw [cut_one h, e]
  cases ht : t[j]? with
  | none => simp [S]
  | some c => simp [S]
theorem cut_iff2 {t : List Nat} {j d : Nat} {x : Str} (h : j < t.length) (e : x = ⟨#[d]⟩) : (V.str (cutS (S t) (some ((j : Int) + 1)) (some ((j : Int) + 2))) = V.str x) ↔ t[j + 1]? = some d := by
  have := cut_iff (t := t) (j := j + 1) (d := d) (x := x) (by omega) e
  rw [← this]
  have e2 : (((j + 1 : Nat) : Int) + 1) = (j : Int) + 2 := by omega
  rw [e2]; rfl
theorem seq1_by {a rest : TS} {D : Ends} {σ : L2.St} {H : Hp} (G : L2.St → Hp → Prop) (k : ∀ σ' H', G σ' H' → rest D σ' H') (h : ∀ N : L2.St → Hp → Prop, (∀ σ' H', G σ' H' → N σ' H') → a { D with nx := N } σ H) : tSeq a rest D σ H := h _ k
theorem seq2_by {a b rest : TS} {D : Ends} {σ : L2.St} {H : Hp} (G : L2.St → Hp → Prop) (k : ∀ σ' H', G σ' H' → rest D σ' H') (h : ∀ N : L2.St → Hp → Prop, (∀ σ' H', G σ' H' → N σ' H') → tSeq a b { D with nx := N } σ H) : tSeq a (tSeq b rest) D σ H := h _ k
theorem seq3_by {a b c rest : TS} {D : Ends} {σ : L2.St} {H : Hp} (G : L2.St → Hp → Prop) (k : ∀ σ' H', G σ' H' → rest D σ' H') (h : ∀ N : L2.St → Hp → Prop, (∀ σ' H', G σ' H' → N σ' H') → tSeq a (tSeq b c) { D with nx := N } σ H) : tSeq a (tSeq b (tSeq c rest)) D σ H := h _ k
theorem seq4_by {a b c d rest : TS} {D : Ends} {σ : L2.St} {H : Hp} (G : L2.St → Hp → Prop) (k : ∀ σ' H', G σ' H' → rest D σ' H') (h : ∀ N : L2.St → Hp → Prop, (∀ σ' H', G σ' H' → N σ' H') → tSeq a (tSeq b (tSeq c d)) { D with nx := N } σ H) : tSeq a (tSeq b (tSeq c (tSeq d rest))) D σ H := h _ k
theorem seq5_by {a b c d e rest : TS} {D : Ends} {σ : L2.St} {H : Hp} (G : L2.St → Hp → Prop) (k : ∀ σ' H', G σ' H' → rest D σ' H') (h : ∀ N : L2.St → Hp → Prop, (∀ σ' H', G σ' H' → N σ' H') → tSeq a (tSeq b (tSeq c (tSeq d e))) { D with nx := N } σ H) : tSeq a (tSeq b (tSeq c (tSeq d (tSeq e rest)))) D σ H := h _ k
theorem txts_le_more (ns : List N) : (N.txts ns).length ≤ (N.more ns).length := by
  cases ns with
  | nil => exact Nat.le_refl _
  | cons n ns => simp [N.txts, N.more]
theorem stk_cons {H : Hp} {a b : Addr} {l : Lv} {ls : List Lv} {xa xb : List V} (ha : H a = some (.lst xa)) (hb : H b = some (.lst xb)) (ea : xa = ls.reverse.map (fun l => V.ref l.r) ++ [.ref l.r]) (eb : xb = ls.reverse.map (fun l => V.ref l.t) ++ [.ref l.t]) (hl : LvOk H l) (hls : ∀ m ∈ ls, LvOk H m) (nd : (a :: b :: adrs (l :: ls)).Nodup) : Stk H a b (l :: ls) :=
  ⟨by rw [ha, ea]; simp, by rw [hb, eb]; simp, fun m hm => by rcases List.mem_cons.mp hm with e | h; (rw [e]; exact hl); exact hls m h, nd⟩
theorem mem_adrs {l : Lv} : ∀ {ls : List Lv}, l ∈ ls → l.r ∈ adrs ls ∧ l.t ∈ adrs ls
  | m :: ls, h => by
    rcases List.mem_cons.mp h with e | h
    · rw [e]; exact ⟨List.mem_cons_self, List.mem_cons_of_mem _ List.mem_cons_self⟩
    · have := mem_adrs h
      exact ⟨List.mem_cons_of_mem _ (List.mem_cons_of_mem _ this.1), List.mem_cons_of_mem _ (List.mem_cons_of_mem _ this.2)⟩
/-- what is kept of a level where its two lists and all tuples are -/
theorem LvOk.keep {H H' : Hp} {l : Lv} (h : LvOk H l) (hr : ∀ o, H l.r = some o → H' l.r = some o) (ht : ∀ o, H l.t = some o → H' l.t = some o) (t : Tups H H') : LvOk H' l := by
  obtain ⟨⟨vs, e, hn⟩, e2⟩ := h
  exact ⟨⟨vs, hr _ e, hn.mono t⟩, ht _ e2⟩
theorem Stk.ends {H : Hp} {a b : Addr} {l : Lv} {ls : List Lv} (h : Stk H a b (l :: ls)) : ∃ RA RB : List V, RA = ls.reverse.map (fun l => V.ref l.r) ∧ RB = ls.reverse.map (fun l => V.ref l.t) ∧ H a = some (.lst (RA ++ [.ref l.r])) ∧ H b = some (.lst (RB ++ [.ref l.t])) ∧ RA.length = ls.length ∧ RB.length = ls.length :=
  ⟨_, _, rfl, rfl, by rw [h.ha]; simp, by rw [h.hb]; simp, by simp, by simp⟩
structure NS (H0 H : Hp) (p a b : Addr) (ls : List Lv) (B : Nat) : Prop where
  stk : Stk H a b ls
  dep : DepOk ls
  wt : Wt ls ≤ B
  ne : 1 ≤ ls.length
  len : ls.length ≤ 100
  pool : PoolAt H p
  but : SameBut p H0 H
  fr : ∀ c, c ∈ a :: b :: adrs ls → H0 c = none ∧ c ≠ p
theorem NS.draw {H0 H H' : Hp} {p a b : Addr} {ls : List Lv} {B : Nat} (h : NS H0 H p a b ls B) (P : PoolAt H' p) (s : SameBut p H H') : NS H0 H' p a b ls B := by
  obtain ⟨x1, x2, x3, x4, xs, hp, _, _⟩ := h.pool
  have tp : Tups H H' := tups_but s hp
  obtain ⟨y1, y2, y3, y4⟩ := h.stk
  refine ⟨⟨s _ _ (h.fr a (by simp)).2 y1, s _ _ (h.fr b (by simp)).2 y2, fun l hl => ?_, y4⟩, h.dep, h.wt, h.ne, h.len, P, h.but.trans s, h.fr⟩
  obtain ⟨m1, m2⟩ := mem_adrs hl
  exact (y3 l hl).keep (fun o => s _ o (h.fr _ (by simp [m1])).2) (fun o => s _ o (h.fr _ (by simp [m2])).2) tp
/-- what is so behind a change that leaves all but some lists of the stacks -/
theorem NS.change {H0 H H' : Hp} {p a b : Addr} {ls ms : List Lv} {B C : Nat} (h : NS H0 H p a b ls B) (P : PoolAt H' p) (hs : Stk H' a b ms) (hd : DepOk ms) (hw : Wt ms ≤ C) (h1 : 1 ≤ ms.length) (h2 : ms.length ≤ 100)
    (f : ∀ c o, c ∉ a :: b :: adrs ls → H c = some o → H' c = some o) (fr : ∀ c, c ∈ adrs ms → c ∉ adrs ls → H c = none) : NS H0 H' p a b ms C := by
  refine ⟨hs, hd, hw, h1, h2, P, fun c o hc e => ?_, fun c hc => ?_⟩
  · refine f c o (fun hm => ?_) (h.but c o hc e)
    rw [(h.fr c hm).1] at e; cases e
  · by_cases hm : c ∈ a :: b :: adrs ls
    · exact h.fr c hm
    · simp only [List.mem_cons, not_or] at hm hc
      have hc' : c ∈ adrs ms := by
        rcases hc with e | e | e
        · exact absurd e hm.1
        · exact absurd e hm.2.1
        · exact e
      have e := fr c hc' hm.2.2
      have nc : c ≠ p := by
        obtain ⟨x1, x2, x3, x4, xs, hp, _, _⟩ := h.pool
        exact fun z => by rw [z, hp] at e; cases e
      refine ⟨?_, nc⟩
      cases e2 : H0 c with
      | none => rfl
      | some o => rw [h.but c o nc e2] at e; cases e
theorem NS.push {H0 H H' : Hp} {p a b R T : Addr} {ls : List Lv} {B : Nat} (h : NS H0 H p a b ls B) (hlen : ls.length < 100) (hR : H R = none) (hT : H T = none) (nRT : R ≠ T) (P : PoolAt H' p) {xa xb : List V} (ha : H a = some (.lst xa)) (hb : H b = some (.lst xb))
    (ea : H' a = some (.lst (xa ++ [.ref R]))) (eb : H' b = some (.lst (xb ++ [.ref T]))) (eR : H' R = some (.lst [])) (eT : H' T = some (.lst [])) (f : ∀ c o, c ≠ a → c ≠ b → H c = some o → H' c = some o) : NS H0 H' p a b (⟨R, T, []⟩ :: ls) (B + 3) := by
  have hs := h.stk
  have tp : Tups H H' := fun c xs e => f c _ (fun z => by rw [z, ha] at e; cases e) (fun z => by rw [z, hb] at e; cases e) e
  have nd := hs.nd
  have some_of : ∀ c, c ∈ a :: b :: adrs ls → ∃ o, H c = some o := by
    intro c hc
    simp only [List.mem_cons] at hc
    rcases hc with e | e | e
    · exact ⟨_, e ▸ ha⟩
    · exact ⟨_, e ▸ hb⟩
    · have : ∀ {ls : List Lv}, (∀ l ∈ ls, LvOk H l) → c ∈ adrs ls → ∃ o, H c = some o := by
        intro ls
        induction ls with
        | nil => intro _ h; cases h
        | cons l ls ih =>
          intro hok hc
          simp only [adrs, List.mem_cons] at hc
          obtain ⟨⟨_, q1, _⟩, q2⟩ := hok l List.mem_cons_self
          rcases hc with e | e | e
          · exact ⟨_, e ▸ q1⟩
          · exact ⟨_, e ▸ q2⟩
          · exact ih (fun m hm => hok m (List.mem_cons_of_mem _ hm)) e
      exact this hs.ok e
  have nR : ∀ c, c ∈ a :: b :: adrs ls → c ≠ R := fun c hc e => by obtain ⟨o, q⟩ := some_of c hc; rw [e, hR] at q; cases q
  have nT : ∀ c, c ∈ a :: b :: adrs ls → c ≠ T := fun c hc e => by obtain ⟨o, q⟩ := some_of c hc; rw [e, hT] at q; cases q
  have xa' : xa = ls.reverse.map fun l => V.ref l.r := by have := hs.ha; rw [ha] at this; injection this with e; injection e
  have xb' : xb = ls.reverse.map fun l => V.ref l.t := by have := hs.hb; rw [hb] at this; injection this with e; injection e
  have nd2 := nd
  simp only [List.nodup_cons, List.mem_cons, not_or] at nd2
  have out : ∀ l ∈ ls, ∀ c, (c = l.r ∨ c = l.t) → c ≠ a ∧ c ≠ b := by
    intro l hl c hc
    obtain ⟨m1, m2⟩ := mem_adrs hl
    rcases hc with e | e
    · exact ⟨fun z => nd2.1.2 (by rw [← z, e]; exact m1), fun z => nd2.2.1 (by rw [← z, e]; exact m1)⟩
    · exact ⟨fun z => nd2.1.2 (by rw [← z, e]; exact m2), fun z => nd2.2.1 (by rw [← z, e]; exact m2)⟩
  refine h.change P (stk_cons ea eb (by rw [xa']) (by rw [xb']) ⟨⟨[], eR, rfl⟩, eT⟩ (fun l hl => ?_) ?_) ⟨fun n hn => absurd hn List.not_mem_nil, h.dep⟩ ?_ (by simp) (by show ls.length + 1 ≤ 100; omega) (fun c o hc => f c o (fun z => hc (by simp [z])) (fun z => hc (by simp [z]))) ?_
  · exact (hs.ok l hl).keep (fun o => f _ o (out l hl _ (.inl rfl)).1 (out l hl _ (.inl rfl)).2) (fun o => f _ o (out l hl _ (.inr rfl)).1 (out l hl _ (.inr rfl)).2) tp
  · simp only [adrs, List.nodup_cons, List.mem_cons, not_or]
    exact ⟨⟨nd2.1.1, nR a (by simp), nT a (by simp), nd2.1.2⟩, ⟨nR b (by simp), nT b (by simp), nd2.2.1⟩, ⟨nRT, fun z => nR R (by simp [z]) rfl⟩, fun z => nT T (by simp [z]) rfl, nd2.2.2⟩
  · have := h.wt
    simp only [Wt, N.more, List.length_nil]; omega
  · intro c hc hn
    simp only [adrs, List.mem_cons] at hc
    rcases hc with e | e | e
    · rw [e]; exact hR
    · rw [e]; exact hT
    · exact absurd e hn
theorem more_app : ∀ (a b : List N), N.more (a ++ b) = N.more a ++ N.more b
  | [], b => rfl
  | n :: a, b => by simp [N.more, more_app a b]
theorem NS.close {H0 H H' : Hp} {p a b : Addr} {l m : Lv} {ls : List Lv} {B : Nat} (h : NS H0 H p a b (l :: m :: ls) B) (hs : Stk H' a b ({ m with ns := m.ns ++ [.tup l.ns] } :: ls)) (f : ∀ c o, c ≠ a → c ≠ b → c ≠ m.r → c ≠ m.t → H c = some o → H' c = some o) : NS H0 H' p a b ({ m with ns := m.ns ++ [.tup l.ns] } :: ls) B := by
  have hlen := h.len
  simp only [List.length_cons] at hlen
  have P : PoolAt H' p := by
    obtain ⟨x1, x2, x3, x4, xs, hp, h1, h2⟩ := h.pool
    exact .of (f _ _ (h.fr a (by simp)).2.symm (h.fr b (by simp)).2.symm (h.fr m.r (by simp [adrs])).2.symm (h.fr m.t (by simp [adrs])).2.symm hp) h1 h2
  obtain ⟨d1, d2, d3⟩ := h.dep
  refine h.change P hs ⟨fun n hn => ?_, d3⟩ ?_ (by simp) (by simp; omega) (fun c o hc => f c o (fun z => hc (by simp [z])) (fun z => hc (by simp [z])) (fun z => hc (by simp [z, adrs])) (fun z => hc (by simp [z, adrs]))) fun c hc hn => absurd hc (fun z => hn ?_)
  · rcases List.mem_append.mp hn with hn | hn
    · exact d2 n hn
    · rw [List.mem_singleton.mp hn]
      refine ⟨oks_mem.mpr fun x hx => (d1 x hx).1, ?_⟩
      have : N.deps l.ns ≤ 100 - (ls.length + 2) := deps_le.mpr fun x hx => by have := (d1 x hx).2; simp only [List.length_cons] at this; omega
      simp only [N.dep]; omega
  · have := h.wt
    have q := txts_le_more l.ns
    simp only [Wt] at this ⊢
    rw [more_app]
    simp only [N.more, N.txt, List.length_append, List.length_cons, List.length_nil]
    omega
  · simp only [adrs, List.mem_cons] at z ⊢
    rcases z with e | e | e
    · exact .inr (.inr (.inl e))
    · exact .inr (.inr (.inr (.inl e)))
    · exact .inr (.inr (.inr (.inr e)))
theorem NS.leaf {H0 H H' : Hp} {p a b : Addr} {l : Lv} {ls : List Lv} {B : Nat} {n : N} {v : V} {vs : List V} (h : NS H0 H p a b (l :: ls) B) (hv : NoteAt H n v) (hok : n.ok) (hdep : n.dep = 0) (hn : n.txt.length ≤ 201) (P : PoolAt H' p) (er : H l.r = some (.lst vs))
    (er' : H' l.r = some (.lst (vs ++ [v]))) (et' : H' l.t = some (.lst ((txs l.ns).map V.str ++ [V.str (S n.txt)]))) (f : ∀ c o, c ≠ l.r → c ≠ l.t → H c = some o → H' c = some o) : NS H0 H' p a b ({ l with ns := l.ns ++ [n] } :: ls) (B + 202) := by
  have hs := h.stk
  have hlen := h.len
  obtain ⟨⟨vs0, q1, q2⟩, q3⟩ := hs.ok l List.mem_cons_self
  rw [er] at q1; injection q1 with q1; injection q1 with q1; subst q1
  have tp : Tups H H' := fun c xs e => f c _ (fun z => by rw [z, er] at e; cases e) (fun z => by rw [z, q3] at e; cases e) e
  have nd2 := hs.nd
  simp only [adrs, List.nodup_cons, List.mem_cons, not_or] at nd2
  obtain ⟨⟨nab, na1, na2, na3⟩, ⟨nb1, nb2, nb3⟩, ⟨n1, n2⟩, n3, n4⟩ := nd2
  obtain ⟨d1, d2⟩ := h.dep
  refine h.change P (ms := { l with ns := l.ns ++ [n] } :: ls) ⟨f _ _ na1 na2 (by rw [hs.ha]; simp), f _ _ nb1 nb2 (by rw [hs.hb]; simp), fun m hm => ?_, hs.nd⟩ ⟨fun x hx => ?_, d2⟩ ?_ (by simp) (by simpa using hlen) (fun c o hc => f c o (fun z => hc (by simp [z, adrs])) (fun z => hc (by simp [z, adrs]))) fun c hc hn => absurd hc hn
  · rcases List.mem_cons.mp hm with e | hm
    · rw [e]
      refine ⟨⟨_, er', NotesAt.snoc (hv.mono tp) (q2.mono tp)⟩, ?_⟩
      rw [et']; simp [txs]
    · obtain ⟨m1, m2⟩ := mem_adrs hm
      exact (hs.ok m (List.mem_cons_of_mem _ hm)).keep (fun o => f _ o (fun z => n2 (z ▸ m1)) (fun z => n3 (z ▸ m1))) (fun o => f _ o (fun z => n2 (z ▸ m2)) (fun z => n3 (z ▸ m2))) tp
  · rcases List.mem_append.mp hx with hx | hx
    · exact d1 x hx
    · rw [List.mem_singleton.mp hx]
      simp only [List.length_cons] at hlen
      exact ⟨hok, by omega⟩
  · have := h.wt
    simp only [Wt] at this ⊢
    rw [more_app]
    simp only [N.more, List.length_append, List.length_cons, List.length_nil]
    omega
theorem Leaf.facts {H : Hp} {n : N} {v : V} (h : Leaf n v) : NoteAt H n v ∧ n.ok ∧ n.dep = 0 ∧ n.txt.length ≤ 201 := by
  rcases h with ⟨rfl, rfl⟩ | ⟨w, rfl, hw, rfl⟩ | ⟨i, rfl, hi, rfl⟩
  · exact ⟨rfl, trivial, rfl, by decide⟩
  · exact ⟨rfl, hw, rfl, by have := hw.1; show w.length ≤ 201; omega⟩
  · refine ⟨rfl, hi, rfl, ?_⟩
    show (numT i).length ≤ 201
    rcases Int.lt_or_le i 0 with c | c
    · obtain ⟨m, rfl⟩ : ∃ m : Nat, i = -(m : Int) := ⟨i.natAbs, by omega⟩
      rw [numT_neg m (by omega), List.length_cons]
      have := numL_len (n := m) (k := 200) (by decide) (by simpa using hi)
      omega
    · obtain ⟨m, rfl⟩ : ∃ m : Nat, i = (m : Int) := ⟨i.natAbs, by omega⟩
      rw [numT_nat]
      have := numL_len (n := m) (k := 200) (by decide) (by simpa using hi)
      omega
theorem NS.base {H H' : Hp} {p a b R T : Addr} (P0 : PoolAt H p) (P : PoolAt H' p) (s : SameBut p H H') (ea : H' a = some (.lst [.ref R])) (eb : H' b = some (.lst [.ref T])) (eR : H' R = some (.lst [])) (eT : H' T = some (.lst [])) (fa : H a = none) (fb : H b = none) (fR : H R = none) (fT : H T = none)
    (nd : [a, b, R, T].Nodup) : NS H H' p a b [⟨R, T, []⟩] 3 := by
  refine ⟨⟨ea, eb, fun l hl => ?_, nd⟩, ⟨fun n hn => absurd hn List.not_mem_nil, trivial⟩, by simp [Wt, N.more], by simp, by simp, P, s, fun c hc => ?_⟩
  · rw [List.mem_singleton.mp hl]; exact ⟨⟨[], eR, rfl⟩, eT⟩
  · simp only [adrs, List.mem_cons, List.not_mem_nil, or_false] at hc
    rcases hc with e | e | e | e <;> rw [e]
    · exact ⟨fa, (P0.ne fa).symm⟩
    · exact ⟨fb, (P0.ne fb).symm⟩
    · exact ⟨fR, (P0.ne fR).symm⟩
    · exact ⟨fT, (P0.ne fT).symm⟩
theorem NS.fin {H0 H : Hp} {p a b : Addr} {l : Lv} {B : Nat} (h : NS H0 H p a b [l] B) : N.oks l.ns ∧ (N.tup l.ns).dep ≤ 100 ∧ (∀ n ∈ l.ns, n.ok ∧ n.dep ≤ 100 ∧ n.txt.length ≤ B) ∧ (N.txts l.ns).length + 2 ≤ B + 2 ∧ (N.tup l.ns).txt.length ≤ B + 2 := by
  obtain ⟨d, _⟩ := h.dep
  have hw := h.wt
  have ht := txts_le_more l.ns
  simp only [Wt] at hw
  have e : (N.tup l.ns).txt.length = (N.txts l.ns).length + 2 := by simp [N.txt]
  refine ⟨oks_mem.mpr fun n hn => (d n hn).1, ?_, fun n hn => ⟨(d n hn).1, by have := (d n hn).2; omega, by have := mem_txt_le hn; omega⟩, by omega, by omega⟩
  have : N.deps l.ns ≤ 99 := deps_le.mpr fun n hn => by have := (d n hn).2; simp only [List.length_nil] at this; omega
  simp only [N.dep]; omega
theorem NS.up {H0 H : Hp} {p a b : Addr} {ls : List Lv} {B C : Nat} (h : NS H0 H p a b ls B) (e : B ≤ C) : NS H0 H p a b ls C := { h with wt := Nat.le_trans h.wt e }
theorem pool_ne {H : Hp} {p q : Addr} {o : HO} (P : PoolAt H p) (n : q ≠ p) : PoolAt (upd H q o) p := by
  obtain ⟨x1, x2, x3, x4, xs, hp, h1, h2⟩ := P
  exact .of (by rw [upd_ne n.symm]; exact hp) h1 h2
theorem rnote_txt {n : N} (h : n.ok) (hd : n.dep ≤ 100) : rnote n.txt = .got n n.txt.length := by
  have e := rpart_txt (t := n.txt) n 100 h hd [] [] (by simp) (.inl rfl)
  rw [List.length_nil, Nat.zero_add] at e
  unfold rnote
  rw [e]
  show (if n.txt.length < n.txt.length then R.bad _ else _) = _
  rw [if_neg (Nat.lt_irrefl _)]
theorem sgn_abs {n r : Int} (h : n.natAbs < 10 ^ 200) (h0 : 0 ≤ r) (h1 : r < 2) : (n * (1 - 2 * r)).natAbs < 10 ^ 200 := by
  rcases (by omega : r = 0 ∨ r = 1) with e | e
  · subst e; show (n * 1).natAbs < _; rw [Int.mul_one]; exact h
  · subst e; show (n * -1).natAbs < _; rw [Int.natAbs_mul]; simpa using h
theorem last_two {α : Type} (R : List α) (x y : α) : (R ++ [x, y])[(R ++ [x, y]).length - 1]? = some y ∧ atI ((R ++ [x, y]).dropLast) (-1) = some x ∧ (R ++ [x, y]).dropLast = R ++ [x] := by
  have e : R ++ [x, y] = (R ++ [x]) ++ [y] := by simp
  have d : ((R ++ [x]) ++ [y]).dropLast = R ++ [x] := List.dropLast_concat
  refine ⟨?_, ?_, by rw [e, d]⟩
  · rw [e, List.length_append]
    show ((R ++ [x]) ++ [y])[(R ++ [x]).length]? = some y
    rw [List.getElem?_append_right (Nat.le_refl _), Nat.sub_self]; rfl
  · rw [e, d]
    exact atI_last _ _
theorem wc_lets {r : Int} {c : Nat} (h : atI (Str.ofString "abcdefghijklmnopqrstuvwxyz0123456789-:").cps.toList r = some c) (h0 : 0 ≤ r) (h1 : r < 26) : c ∈ lets := by
  obtain ⟨n, rfl⟩ : ∃ n : Nat, r = (n : Int) := ⟨r.toNat, by omega⟩
  have : ∀ n : Fin 26, ∀ c, atI (Str.ofString "abcdefghijklmnopqrstuvwxyz0123456789-:").cps.toList ((n.val : Nat) : Int) = some c → c ∈ lets := by
    intro n c h
    have e : ∀ n : Fin 26, ((atI (Str.ofString "abcdefghijklmnopqrstuvwxyz0123456789-:").cps.toList ((n.val : Nat) : Int)).all fun c => decide (c ∈ lets)) = true := by decide +kernel
    have := e n
    rw [h] at this
    exact of_decide_eq_true this
  exact this ⟨n, by omega⟩ c h
theorem wc_at {r : Int} (h0 : 0 ≤ r) (h1 : r < 38) : ∃ c, atI (Str.ofString "abcdefghijklmnopqrstuvwxyz0123456789-:").cps.toList r = some c ∧ c ∈ wcs := by
  obtain ⟨n, rfl⟩ : ∃ n : Nat, r = (n : Int) := ⟨r.toNat, by omega⟩
  have hl : (Str.ofString "abcdefghijklmnopqrstuvwxyz0123456789-:").cps.toList.length = 38 := by decide +kernel
  have hn : n < (Str.ofString "abcdefghijklmnopqrstuvwxyz0123456789-:").cps.toList.length := by rw [hl]; omega
  exact ⟨_, atI_nat (List.getElem?_eq_getElem hn), List.getElem_mem hn⟩
theorem num_got {t : List Nat} {i : Nat} (hi : i < t.length) (h : isN t (rnumF t i) = true) : intText? (cutS (S t) (some (i : Int)) (some ((GN.run (tl (Str.ofString "0123456789")) 200 t (rnumF t i) : Nat) : Int))) = some (val (cut t i (GN.run digs 200 t (rnumF t i)))) ∧ (cutS (S t) (some (i : Int)) (some ((GN.run (tl (Str.ofString "0123456789")) 200 t (rnumF t i) : Nat) : Int))).length ≤ 640 := by
  obtain ⟨c, hc, _⟩ := isN_at h
  have hl := run_le (cs := digs) (most := 200) (Nat.le_of_lt (List.getElem?_eq_some_iff.mp hc).1)
  have e : cutS (S t) (some (i : Int)) (some ((GN.run (tl (Str.ofString "0123456789")) 200 t (rnumF t i) : Nat) : Int)) = S (cut t i (GN.run digs 200 t (rnumF t i))) := cutS_eq (Nat.le_of_lt hi) hl
  obtain ⟨e1, e2⟩ := num_read h
  rw [e]
  exact ⟨e1, by rw [S_len]; omega⟩
theorem log_small {i : Int} (h : i.natAbs < 10 ^ 200) : i.natAbs.log2 < 1920 := by
  by_cases h0 : i.natAbs = 0
  · rw [h0]; decide
  · exact (Nat.log2_lt h0).mpr (Nat.lt_of_lt_of_le h (by decide +kernel))
theorem txs_take {ns : List N} {i : Nat} {n : N} (h : ns[i]? = some n) : (txs (ns.take (i + 1))).map V.str = (txs (ns.take i)).map V.str ++ [V.str (S n.txt)] := by
  rw [List.take_succ, h]; simp [txs]
theorem tup_txt (ns : List N) : Str.ofString "(" ++ Txt.join (Str.ofString " ") (txs ns) ++ Str.ofString ")" = S (N.tup ns).txt := by
  have e : Txt.join (Str.ofString " ") (txs ns) = S (N.txts ns) := by rw [ss]; exact join_N ns
  rw [e, sl, sr]
  show S [40] ++ S (N.txts ns) ++ S [41] = _
  rw [S_cat, S_cat]
  rfl
theorem txs_sum (ns : List N) : ((txs ns).map (·.length)).sum + (txs ns).length * 1 ≤ (N.txts ns).length + 1 := by
  have h := txts_sum ns
  have e : ((txs ns).map (·.length)) = ns.map fun n => n.txt.length := by
    unfold txs; rw [List.map_map]; exact List.map_congr_left fun n _ => S_len n.txt
  have e2 : (txs ns).length = ns.length := by unfold txs; rw [List.length_map]
  rw [e, e2]; omega
theorem join_facts {ns : List N} (h : (N.txts ns).length + 2 ≤ 1000000) : ((txs ns).map (·.length)).sum + (txs ns).length * (Str.ofString " ").length ≤ 16777216 ∧ (Str.ofString "(").length + (Txt.join (Str.ofString " ") (txs ns)).length ≤ sizeLine ∧ (Str.ofString "(" ++ Txt.join (Str.ofString " ") (txs ns)).length + (Str.ofString ")").length ≤ sizeLine := by
  have g1 := txs_sum ns
  have l0 : (Str.ofString " ").length = 1 := by decide +kernel
  have l1 : (Str.ofString "(").length = 1 := by decide +kernel
  have l2 : (Str.ofString ")").length = 1 := by decide +kernel
  have hj : (Txt.join (Str.ofString " ") (txs ns)).length = (N.txts ns).length := by rw [show Txt.join (Str.ofString " ") (txs ns) = S (N.txts ns) from by rw [ss]; exact join_N ns, S_len]
  refine ⟨by rw [l0]; omega, by rw [hj, l1, sizeLine_eq]; omega, ?_⟩
  rw [len_tl (_ ++ _), tl_append, List.length_append, ← len_tl, ← len_tl, hj, l1, l2, sizeLine_eq]; omega
theorem txs_len (ns : List N) : (txs ns).length = ns.length := by unfold txs; rw [List.length_map]
theorem len_txts : ∀ ns : List N, N.oks ns → ns.length ≤ (N.txts ns).length
  | [], _ => Nat.le_refl _
  | n :: ns, h => by
    obtain ⟨c, r, e, _⟩ := txt_head h.1
    have := more_len ns
    simp only [N.txts, List.length_append, List.length_cons, e]
    omega
theorem pool_mono {H H' : Hp} {p : Addr} (s : Same H H') (P : PoolAt H p) : PoolAt H' p := P.mono s

abbrev lawLvl : Nat := 208
def code : Option Nat → Int
  | none => -1
  | some m => (m : Int)
structure WR (t : List Nat) (z : Int) : Prop where
  e : z = code (walk t 0 0 0 0)
structure IsS (z : Str) (t : List Nat) : Prop where
  e : z = S t
structure Lim (t : List Nat) (n : Nat) : Prop where
  le : t.length ≤ n
def spNext : Sp := fun vs H Q _ => ∃ m s d c : Nat, vs = [.int (m : Int), .int (s : Int), .int (d : Int), .str ⟨#[c]⟩] ∧ ∀ z, z = code (nx m s d c) → Q (.int z) H
def spWrong : Sp := fun vs H Q _ => ∃ (z : Str) (t : List Nat), vs = [.str z] ∧ IsS z t ∧ small t ∧ ∀ w, WR t w → Q (.int w) H
def spParsed : Sp := fun vs H Q _ => ∃ (z : Str) (n : N), vs = [.str z] ∧ IsS z n.txt ∧ n.ok ∧ Lim n.txt 200000 ∧ ∀ v H', Same H H' → NoteAt H' n v → Q v H'
def spAsked : Sp := fun vs H Q _ => ∃ (z : Str) (t : List Nat), vs = [.str z] ∧ IsS z t ∧ Lim t 200000 ∧ ∀ H', Same H H' → Q (.bl true) H'
def spChar : Sp := fun vs H Q _ => ∃ p, vs = [.ref p] ∧ PoolAt H p ∧ ∀ c H', PoolAt H' p → SameBut p H H' → Q (.str (S [c])) H'
def spChg : Sp := fun vs H Q _ => ∃ (p : Addr) (z : Str) (n : Nat), vs = [.ref p, .str z] ∧ PoolAt H p ∧ z.length ≤ n ∧ n ≤ 150000 ∧ ∀ (y : Str) H', y.length ≤ n + 210 → PoolAt H' p → SameBut p H H' → Q (.str y) H'
def spLOdd : Sp := fun vs H Q _ => ∃ i : Int, vs = [.int i] ∧ 0 ≤ i ∧ i < 30 ∧ ∀ t H', t.length ≤ 10 → Same H H' → Q (.str (S t)) H'
def spLaw (K : PySem.W.Frag) : Sp := fun vs H Q _ => ∃ (a : Addr) (ns : List Int), vs = [.ref a] ∧ SqL K H a (ns.map V.int) ∧ ns.length ≤ 63 ∧ (∀ z ∈ ns, Builtin.Int.intBits z ≤ 1048576) ∧ ∀ H', Q (.bl true) H'

theorem sg_at {x : Str} {n : Nat} {r : Int} (hn : x.length = n) (h0 : 0 ≤ r) (h1 : r < n) : ∃ c, atI x.cps.toList r = some c := by
  obtain ⟨m, rfl⟩ : ∃ m : Nat, r = (m : Int) := ⟨r.toNat, by omega⟩
  have hl : m < x.cps.toList.length := by rw [Array.length_toList]; have : x.cps.size = n := hn; omega
  exact ⟨_, atI_nat (List.getElem?_eq_getElem hl)⟩
theorem odd_at {xs : List V} {n : Nat} {r : Int} (h : (xs.all fun v => match v with | .str s => decide (s.length ≤ 10) | _ => false) = true) (hn : xs.length = n) (h0 : 0 ≤ r) (h1 : r < n) : ∃ t : List Nat, atI xs r = some (.str (S t)) ∧ t.length ≤ 10 := by
  obtain ⟨m, rfl⟩ : ∃ m : Nat, r = (m : Int) := ⟨r.toNat, by omega⟩
  have hl : m < xs.length := by omega
  have e := atI_nat (List.getElem?_eq_getElem hl)
  have hm := List.all_eq_true.mp h xs[m] (List.getElem_mem hl)
  cases hx : xs[m] with
  | str s =>
    rw [hx] at hm e
    refine ⟨tl s, ?_, ?_⟩
    · rw [e]
    · rw [← len_tl]; exact of_decide_eq_true hm
  | _ => rw [hx] at hm; cases hm
theorem cut_le (z : Str) (a b : Option Int) : (cutS z a b).length ≤ z.length := by
  rw [len_tl, len_tl z]
  show ((((z.cps.toList.drop _).take _).toArray).toList).length ≤ (tl z).length
  rw [List.length_take, List.length_drop]
  show _ ≤ z.cps.toList.length
  omega
/-! ### the walk's signs -/
theorem in_sgn {c : Nat} {x : Str} {l : List Nat} (e : tl x = l) : (c ∈ x.cps.toList) ↔ c ∈ l := by subst e; exact Iff.rfl
theorem t_m0 : tl (Str.ofString "-0") = [45, 48] := by decide +kernel
theorem t_sr : tl (Str.ofString " )") = [32, 41] := by decide +kernel
theorem t_d19 : tl (Str.ofString "123456789") = [49, 50, 51, 52, 53, 54, 55, 56, 57] := by decide +kernel
theorem d19 {c : Nat} : (c ∈ (Str.ofString "123456789").cps.toList) ↔ (49 ≤ c ∧ c ≤ 57) := by
  rw [in_sgn t_d19]; simp only [List.mem_cons, List.not_mem_nil, or_false]; omega
theorem m0 {c : Nat} : (c ∈ (Str.ofString "-0").cps.toList) ↔ (c = 45 ∨ c = 48) := by rw [in_sgn t_m0]; simp
theorem sr2 {c : Nat} : (c ∈ (Str.ofString " )").cps.toList) ↔ (c = 32 ∨ c = 41) := by rw [in_sgn t_sr]; simp
theorem wcs2 {c : Nat} : (c ∈ (Str.ofString "abcdefghijklmnopqrstuvwxyz" ++ Str.ofString "0123456789-:").cps.toList) ↔ c ∈ wcs := by
  have e : tl (Str.ofString "abcdefghijklmnopqrstuvwxyz" ++ Str.ofString "0123456789-:") = wcs := by decide +kernel
  exact in_sgn e
theorem ltr {c : Nat} : (c ∈ (Str.ofString "abcdefghijklmnopqrstuvwxyz").cps.toList) ↔ c ∈ lets := Iff.rfl
theorem dg {c : Nat} : (c ∈ (Str.ofString "0123456789").cps.toList) ↔ c ∈ digs := Iff.rfl
theorem eL {c : Nat} : (V.str ⟨#[c]⟩ = V.str (Str.ofString "(")) ↔ c = 40 := sign_iff 40 sl
theorem eR {c : Nat} : (V.str ⟨#[c]⟩ = V.str (Str.ofString ")")) ↔ c = 41 := sign_iff 41 sr
theorem e0 {c : Nat} : (V.str ⟨#[c]⟩ = V.str (Str.ofString "0")) ↔ c = 48 := sign_iff 48 s0
open GR NumText
theorem sz1 {z : Str} {a b : Option Int} {c : Nat} (h : z.length ≤ 160000) : (cutS z a b).length + (S [c]).length ≤ sizeLine := by
  have := cut_le z a b; have l1 : (S [c]).length = 1 := S_len [c]; rw [l1, sizeLine_eq]; omega
theorem sz2 {z : Str} {a b a' b' : Option Int} {c : Nat} (h : z.length ≤ 160000) : (cutS z a b ++ S [c]).length + (cutS z a' b').length ≤ sizeLine := by
  have := cut_le z a b; have := cut_le z a' b'; have l1 : (S [c]).length = 1 := S_len [c]; rw [Str.length_append, l1, sizeLine_eq]; omega
theorem sz3 {z : Str} {a b a' b' : Option Int} (h : z.length ≤ 160000) : (cutS z a b).length + (cutS z a' b').length ≤ sizeLine := by
  have := cut_le z a b; have := cut_le z a' b'; rw [sizeLine_eq]; omega
theorem mulc {c : Nat} {r : Int} (h0 : 0 ≤ r) (h1 : r < 210) : MulOk (S [c]) (1 + r) ∧ (Txt.mul (S [c]) (1 + r)).length ≤ 210 := by
  obtain ⟨n, e⟩ : ∃ n : Nat, 1 + r = (n : Int) := ⟨(1 + r).toNat, by omega⟩
  have hn1 : 1 ≤ n := by omega
  have hn2 : n ≤ 210 := by omega
  rw [e]
  have hT := mul_rep c n hn1
  have hL : (Txt.mul (S [c]) (n : Int)).length = n := by rw [len_tl]; show (tl (Txt.mul ⟨#[c]⟩ (n : Int))).length = n; rw [hT, List.length_replicate]
  refine ⟨⟨?_, fun _ _ => ?_, fun _ _ => ?_⟩, by rw [hL]; omega⟩
  · rw [Bool.or_eq_false_iff]; exact ⟨decide_eq_false (by omega), decide_eq_false (by omega)⟩
  · show ¬ ((1 : Nat) : Int) > (2 ^ 63 - 1) / (n : Int)
    have : (1 : Int) ≤ (2 ^ 63 - 1) / (n : Int) := by
      rw [Int.le_ediv_iff_mul_le (by omega)]; omega
    omega
  · show Builtin.Str.tooLong (1 * (n : Int).toNat) = false
    rw [Int.toNat_natCast]
    exact decide_eq_false (by rw [sizeLine_eq]; omega)
theorem sz4 {z : Str} {a b : Option Int} {c : Nat} {r : Int} (h : z.length ≤ 160000) (h0 : 0 ≤ r) (h1 : r < 210) : (cutS z a b).length + (Txt.mul (S [c]) (1 + r)).length ≤ sizeLine := by
  have := cut_le z a b; have := (mulc (c := c) h0 h1).2; rw [sizeLine_eq]; omega
theorem sz5 {z : Str} {a b a' b' : Option Int} {c : Nat} {r : Int} (h : z.length ≤ 160000) (h0 : 0 ≤ r) (h1 : r < 210) : (cutS z a b ++ Txt.mul (S [c]) (1 + r)).length + (cutS z a' b').length ≤ sizeLine := by
  have := cut_le z a b; have := cut_le z a' b'; have := (mulc (c := c) h0 h1).2; rw [Str.length_append, sizeLine_eq]; omega
theorem str_ls {z : Str} {n : Nat} (h : z.length ≤ n) (e : n ≤ 200000) : z.length ≤ sizeLine := by rw [sizeLine_eq]; omega
/-- pieces of two slices of one text, the first no longer than at, the second from at on -/
theorem two_cut {z : Str} {r : Int} (h0 : 0 ≤ r) : (cutS z none (some r)).length + (cutS z (some r) none).length ≤ z.length ∧ (cutS z none (some r)).length + (cutS z (some (r + 1)) none).length ≤ z.length := by
  obtain ⟨n, rfl⟩ : ∃ n : Nat, r = (n : Int) := ⟨r.toNat, by omega⟩
  have e : ((n : Int) + 1) = ((n + 1 : Nat) : Int) := rfl
  have f : ∀ a b, (cutS z a b).length = (((z.cps.toList).drop (HT.sIx z.length 0 a)).take (HT.sIx z.length z.length b - HT.sIx z.length 0 a)).length := fun a b => by rw [len_tl]; rfl
  rw [f, f, f, e, HT.sIx_nat, HT.sIx_nat, HT.sIx_nat, HT.sIx_none, HT.sIx_none]
  simp only [List.length_take, List.length_drop]
  have hl : z.cps.toList.length = z.length := (len_tl z).symm
  rw [hl]
  omega
theorem cl1 (c : Nat) : (S [c]).length = 1 := S_len [c]
/-! ### the walk's numbers -/
theorem dep_int {m s d c m' : Nat} (h : nx m s d c = some m') (hd : m = 1 → 1 ≤ d) : (d : Int) + (if c = 40 then 1 else 0) - (if c = 41 then 1 else 0) = ((dnx d c : Nat) : Int) ∧ (m' = 1 → 1 ≤ dnx d c) := by
  have ho : c ∈ digs ∨ c ∈ wcs ∨ c ∈ lets → c ≠ 40 ∧ c ≠ 41 := fun z => by
    rcases z with z | z | z
    · have := digs_out z; omega
    · have := wcs_out z; omega
    · have := lets_range z; omega
  unfold nx at h
  unfold dnx
  repeat' split at h
  all_goals (cases h)
  all_goals (refine ⟨?_, ?_⟩)
  all_goals (first | omega | ((repeat' split) <;> omega) | (have hx := ho (by first | exact .inl (And.right (And.right (by assumption))) | exact .inr (.inl (And.right (And.right (by assumption)))) | exact .inr (.inr (by assumption))); (repeat' split) <;> omega))
theorem siz_int {m m' s : Nat} : (1 : Int) + (s : Int) * (if m' = m then 1 else 0) = ((snx m m' s : Nat) : Int) := by
  unfold snx
  split <;> omega
theorem code_nx {m s d c : Nat} : code (nx m s d c) = if m < 2 then (if c = 40 ∧ d < 100 then 1 else if c = 41 ∧ m = 1 then 6 else if c = 45 then 2 else if c = 48 then 3 else if 49 ≤ c ∧ c ≤ 57 then 4 else if c ∈ lets then 5 else -1)
    else if 0 < d ∧ c = 32 then 0 else if 0 < d ∧ c = 41 then 6 else if m = 2 ∧ 49 ≤ c ∧ c ≤ 57 then 4 else if m = 4 ∧ s < 200 ∧ c ∈ digs then 4 else if m = 5 ∧ s < 24 ∧ c ∈ wcs then 5 else -1 := by
  unfold nx
  simp only [apply_ite code]
  rfl
theorem ch0 {z : Str} {c n : Nat} {r : Int} (h0 : 0 ≤ r) (hz : z.length ≤ n) : (cutS z none (some r) ++ S [c] ++ cutS z (some (r + 1)) none).length ≤ n + 210 := by
  have := two_cut (z := z) h0; rw [Str.length_append, Str.length_append, cl1]; omega
theorem ch1 {z : Str} {c n : Nat} {r : Int} (h0 : 0 ≤ r) (hz : z.length ≤ n) : (cutS z none (some r) ++ S [c] ++ cutS z (some r) none).length ≤ n + 210 := by
  have := two_cut (z := z) h0; rw [Str.length_append, Str.length_append, cl1]; omega
theorem ch2 {z : Str} {c n : Nat} {r q : Int} (h0 : 0 ≤ r) (hz : z.length ≤ n) (g0 : 0 ≤ q) (g1 : q < 210) : (cutS z none (some r) ++ Txt.mul (S [c]) (1 + q) ++ cutS z (some r) none).length ≤ n + 210 := by
  have := two_cut (z := z) h0; have := (mulc (c := c) g0 g1).2; rw [Str.length_append, Str.length_append]; omega
theorem ch3 {z : Str} {n : Nat} {r : Int} (h0 : 0 ≤ r) (hz : z.length ≤ n) : (cutS z none (some r) ++ cutS z (some (r + 1)) none).length ≤ n + 210 := by
  have := two_cut (z := z) h0; rw [Str.length_append]; omega
theorem ch4 {z : Str} {n : Nat} {r : Int} (hz : z.length ≤ n) : (cutS z none (some r)).length ≤ n + 210 := by
  have := cut_le z none (some r); omega
/-! ### a stack of lists of notes -/
structure RS (H0 H : Hp) (a p : Addr) (ws : List V) (ls : List (Addr × List N)) (B : Nat) : Prop where
  ha : H a = some (.lst (ls.reverse.map fun l => V.ref l.1))
  ok : ∀ l ∈ ls, ∃ vs, H l.1 = some (.lst vs) ∧ NotesAt H l.2 vs
  nd : (a :: p :: ls.map (·.1)).Nodup
  hp : H p = some (.lst ws)
  s : Same H0 H
  fr : ∀ c ∈ a :: ls.map (·.1), H0 c = none
  b1 : ls.length ≤ B + 1
  b2 : ∀ l ∈ ls, l.2.length ≤ B
theorem RS.push {H0 H : Hp} {a p R : Addr} {ws xs : List V} {ls : List (Addr × List N)} {B : Nat} (h : RS H0 H a p ws ls B) (hR : H R = none) (e : xs = ls.reverse.map fun l => V.ref l.1) : RS H0 (upd (upd H R (.lst [])) a (.lst (xs ++ [.ref R]))) a p ws ((R, []) :: ls) (B + 1) := by
  have nd := h.nd
  simp only [List.nodup_cons, List.mem_cons, not_or] at nd
  obtain ⟨⟨nap, nal⟩, npl, ndl⟩ := nd
  have nRa : R ≠ a := fun z => by rw [z, h.ha] at hR; cases hR
  have nRp : R ≠ p := fun z => by rw [z, h.hp] at hR; cases hR
  have nRl : R ∉ ls.map (·.1) := fun z => by
    obtain ⟨l, hl, e⟩ := List.mem_map.mp z
    obtain ⟨vs, e2, _⟩ := h.ok l hl
    rw [e, hR] at e2; cases e2
  have tp : Tups H (upd (upd H R (.lst [])) a (.lst (xs ++ [.ref R]))) := tups_put (tups_nw Tups.refl hR) (upd_fr h.ha hR)
  refine ⟨by rw [upd_same, e]; simp, fun l hl => ?_, ?_, upd_df (upd_fr h.hp hR) (Ne.symm nap), same_put (same_nw h.s hR) (h.fr a (by simp)), fun c hc => ?_, by have := h.b1; simp; omega, fun l hl => ?_⟩
  · rcases List.mem_cons.mp hl with z | hl
    · rw [z]
      exact ⟨[], upd_df upd_same nRa, rfl⟩
    · obtain ⟨vs, e1, e2⟩ := h.ok l hl
      have hm : l.1 ∈ ls.map (·.1) := List.mem_map.mpr ⟨l, hl, rfl⟩
      exact ⟨vs, upd_df (upd_fr e1 hR) (fun z => nal (z ▸ hm)), e2.mono tp⟩
  · simp only [List.map_cons, List.nodup_cons, List.mem_cons, not_or]
    exact ⟨⟨nap, nRa.symm, nal⟩, ⟨nRp.symm, npl⟩, nRl, ndl⟩
  · simp only [List.map_cons, List.mem_cons] at hc
    rcases hc with z | z | z
    · exact h.fr c (by simp [z])
    · rw [z]; exact h.s.free hR
    · exact h.fr c (List.mem_cons_of_mem _ z)
  · rcases List.mem_cons.mp hl with z | hl
    · rw [z]; exact Nat.zero_le _
    · have := h.b2 l hl; omega
theorem RS.leaf {H0 H : Hp} {a p : Addr} {ws vs : List V} {l : Addr × List N} {ls : List (Addr × List N)} {B : Nat} {n : N} {v : V} (h : RS H0 H a p ws (l :: ls) B) (er : H l.1 = some (.lst vs)) (hv : NoteAt H n v) : RS H0 (upd H l.1 (.lst (vs ++ [v]))) a p ws ((l.1, l.2 ++ [n]) :: ls) (B + 1) := by
  have nd := h.nd
  have nd0 := nd
  simp only [List.map_cons, List.nodup_cons, List.mem_cons, not_or] at nd
  obtain ⟨⟨nap, nal, nals⟩, ⟨npl, npls⟩, nll, ndl⟩ := nd
  have tp : Tups H (upd H l.1 (.lst (vs ++ [v]))) := tups_put Tups.refl er
  obtain ⟨vs0, q1, q2⟩ := h.ok l List.mem_cons_self
  rw [er] at q1; injection q1 with q1; injection q1 with q1; subst q1
  refine ⟨by rw [upd_ne nal, h.ha]; simp, fun x hx => ?_, nd0, upd_df h.hp npl, same_put h.s (h.fr _ (by simp)), fun c hc => h.fr c hc, by simpa using Nat.le_succ_of_le h.b1, fun x hx => ?_⟩
  · rcases List.mem_cons.mp hx with z | hx
    · rw [z]
      exact ⟨_, upd_same, NotesAt.snoc (hv.mono tp) (q2.mono tp)⟩
    · obtain ⟨us, e1, e2⟩ := h.ok x (List.mem_cons_of_mem _ hx)
      have hm : x.1 ∈ ls.map (·.1) := List.mem_map.mpr ⟨x, hx, rfl⟩
      exact ⟨us, upd_df e1 (fun z => nll (z ▸ hm)), e2.mono tp⟩
  · rcases List.mem_cons.mp hx with z | hx
    · rw [z]
      have := h.b2 l List.mem_cons_self
      simp; omega
    · have := h.b2 x (List.mem_cons_of_mem _ hx); omega
theorem RS.close {H0 H : Hp} {a p T : Addr} {ws xs vl vm : List V} {l m : Addr × List N} {ls : List (Addr × List N)} {B : Nat} (h : RS H0 H a p ws (l :: m :: ls) B) (el : H l.1 = some (.lst vl)) (em : H m.1 = some (.lst vm)) (e : xs = (m :: ls).reverse.map fun l => V.ref l.1) (hT : upd H a (.lst xs) T = none) :
    RS H0 (upd (upd (upd H a (.lst xs)) T (.tup vl)) m.1 (.lst (vm ++ [.ref T]))) a p ws ((m.1, m.2 ++ [.tup l.2]) :: ls) (B + 1) := by
  have nd := h.nd
  simp only [List.map_cons, List.nodup_cons, List.mem_cons, not_or] at nd
  obtain ⟨⟨nap, nal, nam, nals⟩, ⟨npl, npm, npls⟩, ⟨nlm, nll⟩, nml, ndl⟩ := nd
  have hT0 : H T = none := by
    by_cases z : T = a
    · rw [z, upd_same] at hT; cases hT
    · rw [upd_ne z] at hT; exact hT
  have nTa : T ≠ a := fun z => by rw [z, h.ha] at hT0; cases hT0
  have tp : Tups H (upd (upd (upd H a (.lst xs)) T (.tup vl)) m.1 (.lst (vm ++ [.ref T]))) := tups_put (tups_nw (tups_put Tups.refl h.ha) hT) (upd_fr (upd_df em (Ne.symm nam)) hT)
  have keep : ∀ c o, c ≠ a → c ≠ m.1 → H c = some o → upd (upd (upd H a (.lst xs)) T (.tup vl)) m.1 (.lst (vm ++ [.ref T])) c = some o := fun c o c1 c2 q => upd_df (upd_fr (upd_df q c1) hT) c2
  obtain ⟨vl0, q1, q2⟩ := h.ok l List.mem_cons_self
  rw [el] at q1; injection q1 with q1; injection q1 with q1; subst q1
  obtain ⟨vm0, q3, q4⟩ := h.ok m (List.mem_cons_of_mem _ List.mem_cons_self)
  rw [em] at q3; injection q3 with q3; injection q3 with q3; subst q3
  refine ⟨?_, fun x hx => ?_, ?_, keep _ _ (Ne.symm nap) npm h.hp, same_put (same_nw (same_put h.s (h.fr a (by simp))) hT) (h.fr _ (by simp)), fun c hc => ?_, ?_, fun x hx => ?_⟩
  · rw [upd_ne nam, upd_ne nTa.symm, upd_same, e]; simp
  · rcases List.mem_cons.mp hx with z | hx
    · rw [z]
      refine ⟨_, upd_same, NotesAt.snoc (n := .tup l.2) (v := .ref T) ⟨T, vl, rfl, ?_, q2.mono tp⟩ (q4.mono tp)⟩
      have nTm : T ≠ m.1 := fun z => by rw [z, em] at hT0; cases hT0
      exact upd_df upd_same nTm
    · obtain ⟨us, e1, e2⟩ := h.ok x (List.mem_cons_of_mem _ (List.mem_cons_of_mem _ hx))
      have hm : x.1 ∈ ls.map (·.1) := List.mem_map.mpr ⟨x, hx, rfl⟩
      exact ⟨us, keep _ _ (fun z => nals (z ▸ hm)) (fun z => nml (z ▸ hm)) e1, e2.mono tp⟩
  · simp only [List.map_cons, List.nodup_cons, List.mem_cons, not_or]
    exact ⟨⟨nap, nam, nals⟩, ⟨npm, npls⟩, nml, ndl⟩
  · refine h.fr c ?_
    simp only [List.map_cons, List.mem_cons] at hc ⊢
    rcases hc with z | z | z
    · exact .inl z
    · exact .inr (.inr (.inl z))
    · exact .inr (.inr (.inr z))
  · have := h.b1
    simp only [List.length_cons] at this ⊢; omega
  · rcases List.mem_cons.mp hx with z | hx
    · rw [z]
      have := h.b2 m (List.mem_cons_of_mem _ List.mem_cons_self)
      simp; omega
    · have := h.b2 x (List.mem_cons_of_mem _ (List.mem_cons_of_mem _ hx)); omega
theorem RS.up {H0 H : Hp} {a p : Addr} {ws : List V} {ls : List (Addr × List N)} {B C : Nat} (h : RS H0 H a p ws ls B) (e : B ≤ C) : RS H0 H a p ws ls C := { h with b1 := Nat.le_trans h.b1 (by omega), b2 := fun l hl => Nat.le_trans (h.b2 l hl) e }
theorem RS.base {H : Hp} {a p R : Addr} {ws : List V} (hR : H R = none) (ha : upd H R (.lst []) a = none) (hp : upd (upd H R (.lst [])) a (.lst [.ref R]) p = none) : RS H (upd (upd (upd H R (.lst [])) a (.lst [.ref R])) p (.lst ws)) a p ws [(R, [])] 0 := by
  have nRa : R ≠ a := ne_of_none upd_same ha
  have nap : a ≠ p := ne_of_none upd_same hp
  have nRp : R ≠ p := ne_of_none (upd_df upd_same nRa) hp
  have s1 : Same H (upd H R (.lst [])) := same_new hR
  have s2 := s1.trans (same_new (o := .lst [.ref R]) ha)
  refine ⟨upd_df upd_same nap, fun l hl => ?_, by simp [nap, nRa.symm, nRp.symm], upd_same, s2.trans (same_new hp), fun c hc => ?_, by simp, fun l hl => ?_⟩
  · rw [List.mem_singleton.mp hl]
    exact ⟨[], upd_df (upd_df upd_same nRa) nRp, rfl⟩
  · simp only [List.map_cons, List.map_nil, List.mem_cons, List.not_mem_nil, or_false] at hc
    rcases hc with z | z <;> rw [z]
    · exact s1.free ha
    · exact hR
  · rw [List.mem_singleton.mp hl]; exact Nat.le_refl _
theorem tk_len {n : N} (h : n.ok) (hl : n.txt.length ≤ 200000) : n.tk.length ≤ 600001 := by
  have e := congrArg List.length (words_note h)
  rw [List.length_map, List.length_map] at e
  have a := words_le (S (spc n.txt))
  rw [S_len] at a
  have := spc_len n.txt
  omega
theorem RS.last {H0 H : Hp} {a p : Addr} {ws : List V} {l : Addr × List N} {ls : List (Addr × List N)} {B : Nat} (h : RS H0 H a p ws (l :: ls) B) : ∃ RA : List V, RA = (ls.reverse.map fun l => V.ref l.1) ∧ H a = some (.lst (RA ++ [.ref l.1])) ∧ atI (RA ++ [V.ref l.1]) (-1) = some (.ref l.1) ∧ RA.length = ls.length :=
  ⟨_, rfl, by rw [h.ha]; simp, atI_last _ _, by simp⟩
theorem RS.last2 {H0 H : Hp} {a p : Addr} {ws : List V} {l m : Addr × List N} {ls : List (Addr × List N)} {B : Nat} (h : RS H0 H a p ws (l :: m :: ls) B) : ∃ RA : List V, RA = (ls.reverse.map fun l => V.ref l.1) ∧ H a = some (.lst (RA ++ [.ref m.1, .ref l.1])) :=
  ⟨_, rfl, by rw [h.ha]; simp⟩
theorem one_note {H : Hp} {n : N} {vs : List V} (h : NotesAt H [n] vs) : ∃ v, vs = [v] ∧ NoteAt H n v := by
  obtain ⟨v, r, e, h1, h2⟩ := h
  rw [(show r = [] from h2)] at e
  exact ⟨v, e, h1⟩
theorem tk_drop {n : N} {i : Nat} {y : V} (h : (((n.tk.map Tk.wd).map S).map V.str)[i]? = some y) : ∃ k, y = V.str (S k.wd) ∧ n.tk.drop i = k :: n.tk.drop (i + 1) ∧ k ∈ n.tk := by
  rw [List.getElem?_map, List.getElem?_map, List.getElem?_map] at h
  cases e : n.tk[i]? with
  | none => rw [e] at h; cases h
  | some k =>
    rw [e] at h
    obtain ⟨hl, e2⟩ := List.getElem?_eq_some_iff.mp e
    exact ⟨k, (Option.some.inj h).symm, by rw [List.drop_eq_getElem_cons hl, e2], e2 ▸ List.getElem_mem hl⟩
theorem sgn_ne {w : List Nat} {d : Nat} {x : Str} (e : tl x = [d]) (h : w ≠ [d]) : ¬ V.str (S w) = V.str x := fun z => by
  injection z with z
  apply h
  rw [← e, ← z]
theorem sgn_is {d : Nat} {x : Str} (e : tl x = [d]) : V.str (S [d]) = V.str x := by
  have : x = S [d] := TL.ext_tl (by rw [e])
  rw [this]
theorem kit_any2 {K : PySem.W.Frag} {t a b : Value} (h1 : PySem.W.kitOne K t a = some false) (h2 : PySem.W.kitOne K t b = some false) : PySem.W.kitAny K t [a, b] = some false :=
  kitAny_cons h1 (fun _ => kitAny_cons h2 (fun _ => kitAny_nil) (fun z => by cases z)) (fun z => by cases z)
theorem snx_le {m m' s i : Nat} (h : s ≤ i) : snx m m' s ≤ i + 1 := by unfold snx; split <;> omega
theorem dnx_le {d c i : Nat} (h : d ≤ i) : dnx d c ≤ i + 1 := by
  unfold dnx
  split
  · omega
  · split <;> omega
theorem isS_tl (z : Str) : IsS z (tl z) := ⟨(mk_tl z).symm⟩
theorem lim_tl {z : Str} {n : Nat} (h : z.length ≤ n) : Lim (tl z) n := ⟨by rw [← len_tl]; exact h⟩
theorem t_mi : tl (Str.ofString "-") = [45] := by decide +kernel
theorem t_op : tl (Str.ofString "(") = [40] := by decide +kernel
theorem t_cl : tl (Str.ofString ")") = [41] := by decide +kernel
theorem numT_ne (i : Int) : numT i ≠ [45] ∧ ∃ c r, numT i = c :: r ∧ c ∉ lets := by
  rcases Int.lt_or_le i 0 with c | c
  · rw [numT_ng c]
    exact ⟨fun z => by injection z with _ z; exact numL_ne _ z, 45, _, rfl, by decide +kernel⟩
  · rw [numT_pos c]
    cases e : numL i.natAbs with
    | nil => exact absurd e (numL_ne _)
    | cons c r =>
      have := numL_digits i.natAbs c (by rw [e]; exact List.mem_cons_self)
      exact ⟨fun z => by injection z with z _; omega, c, r, rfl, fun z => by have := lets_range z; omega⟩
theorem int_numT {i : Int} (h : i.natAbs < 10 ^ 200) : intText? (S (numT i)) = some i ∧ (S (numT i)).length ≤ 640 := by
  have hl : (numT i).length ≤ 201 := by
    have := numL_len (n := i.natAbs) (k := 200) (by decide) h
    rcases Int.lt_or_le i 0 with c | c
    · rw [numT_ng c, List.length_cons]; omega
    · rw [numT_pos c]; omega
  refine ⟨?_, by rw [S_len]; omega⟩
  have := int_sdig (t := numT i) (by rw [body_num0]; exact isD_num _) (by omega)
  rw [sval_num] at this
  exact this
local macro_rules | `(tactic| walk_at "gb pool") => `(tactic| (first | assumption | (refine pool_mono (by assumption) ?_; walk_at "gb pool") | fail))
local macro_rules | `(tactic| walk_at "gb same") => `(tactic| ((with_reducible show Same _ _); first | assumption | exact Same.refl _ | ((with_reducible show Same _ (upd _ _ _)); first | (refine same_nw ?_ (by assumption); walk_at "gb same") | (refine same_put ?_ (by assumption); walk_at "gb same")) | (refine Same.trans ?_ (by assumption); walk_at "gb same") | fail))
local macro_rules | `(tactic| walk_at "gb but") => `(tactic| ((with_reducible show SameBut _ _ _); first | assumption | exact SameBut.refl | (refine Same.but ?_; (first | assumption | exact Same.refl _ )) | ((with_reducible show SameBut _ _ (upd _ _ _)); first | (refine but_own ?_; walk_at "gb but") | (refine put_but ?_ (by assumption); walk_at "gb but") | (refine but_nw ?_ (by assumption); walk_at "gb but")) | (refine SameBut.trans ?_ (by assumption); walk_at "gb but") | (refine SameBut.trans ?_ (Same.but (by assumption)); walk_at "gb but") | fail))
local macro_rules | `(tactic| walk_at "gb ne") => `(tactic| ((with_reducible show _ ≠ _); first | assumption | exact Ne.symm (by assumption) | exact none_ne (by assumption) (by walk_at "gb hp") | exact Ne.symm (none_ne (by assumption) (by walk_at "gb hp")) | ((refine ne_of (by assumption) ?h2 ?d2); (case h2 => walk_at "gb hp"); (case d2 => (intro z; cases z))) | fail))
local macro_rules | `(tactic| walk_at "gb hp") => `(tactic| ((with_reducible show _ = some _); first | assumption | ((with_reducible show upd _ _ _ _ = some _); first | exact upd_same | (refine upd_fr ?_ (by assumption); walk_at "gb hp") | (refine upd_df ?_ (by walk_at "gb ne"); walk_at "gb hp")) | (refine (by assumption : Same _ _) _ _ ?_; walk_at "gb hp") | (refine (by assumption : SameBut _ _ _) _ _ (by walk_at "gb ne") ?_; walk_at "gb hp") | fail | fail))
local macro_rules | `(tactic| walk_at "gb leaf") => `(tactic| (first | ((with_reducible show IntMulOk _ _); first |  exact mulR ⟨by omega, by omega⟩ | exact mulL ⟨by omega, by omega⟩) | ((first | (with_reducible show @LE.le _ _ _ _) | (with_reducible show @LT.lt _ _ _ _)); (first | (first | omega | decide +kernel | (simp only [List.length_append, List.length_map, List.length_cons, List.length_nil, List.length_take, List.length_zipWith, List.length_replicate]; omega) | (rw [sizeLine_eq]; (first | omega | (simp only [List.length_append, List.length_map, List.length_cons, List.length_nil, List.length_take, List.length_zipWith, List.length_replicate]; omega))) | (simp only [List.length_append, List.length_map, List.length_cons, List.length_nil, List.length_take, List.length_zipWith, List.length_replicate] at *; omega) | fail) | assumption | exact sz1 (by omega) | exact sz2 (by omega) | exact sz3 (by omega) | exact sz4 (by omega) (by omega) (by omega) | exact sz5 (by omega) (by omega) (by omega) | exact str_ls (by assumption) (by omega) | exact (nine (by omega) (by omega)).2.choose_spec.2.2 | (rw [sizeLine_eq]; show _ + 1 ≤ _; omega) | exact small_len (by assumption) | exact log_small (by assumption) | fail)) | ((fail_if_success (with_reducible show IntMulOk _ _)); (fail_if_success (first | (with_reducible show @LE.le _ _ _ _) | (with_reducible show @LT.lt _ _ _ _))); first | exact rfl | assumption | ((with_reducible show _ = _); walk_at "gb hp") | (first | exact (by assumption : Txt _ _ _).x_BadNote | exact (by assumption : Txt _ _ _).xc_BadNote | exact (by assumption : Txt _ _ _).xm_BadNote | exact (by assumption : Txt _ _ _).kt_BadNote_BadNote | exact (by assumption : Txt _ _ _).kt_BadNote_ValueError | exact (by assumption : Txt _ _ _).kt_BadNote_BadLine | exact (by assumption : Txt _ _ _).kt_BadNote_BadCertificate | fail) | (first | exact .own _ | exact .ty _ | exact .base (.int _) | exact .base (.str _) | exact .base (.tup (by walk_at "gb hp")) | exact .base (.lst (by walk_at "gb hp")) | exact kit_same | exact kit_ty (by decide +kernel) | exact .base .non | fail) | (first | ((with_reducible show SqL _ _ _ _); exact SqL.of (by walk_at "gb hp")) | ((with_reducible show SqT _ _ _ _); exact SqT.of (by walk_at "gb hp")) | ((with_reducible show SqL _ _ _ _ ∨ _); exact Or.inl (SqL.of (by walk_at "gb hp"))) | ((with_reducible show _ ∨ SqT _ _ _ _); exact Or.inr (SqT.of (by walk_at "gb hp"))) | ((with_reducible show SqT _ _ _ _ ∨ _); exact Or.inl (SqT.of (by walk_at "gb hp"))) | ((with_reducible show _ ∨ SqL _ _ _ _); exact Or.inr (SqL.of (by walk_at "gb hp"))) | ((with_reducible show ∃ _, SqT _ _ _ _); exact ⟨_, SqT.of (by walk_at "gb hp")⟩) | ((with_reducible show ∃ _, SqL _ _ _ _); exact ⟨_, SqL.of (by walk_at "gb hp")⟩) | fail) | (first | exact Or.inl ⟨rfl, _, SqL.of (by walk_at "gb hp")⟩ | exact .lst (SqL.of (by walk_at "gb hp")) (dpInts _) | exact .tup (SqT.of (by walk_at "gb hp")) (dpInts _) | exact .lst (SqL.of (by walk_at "gb hp")) (dpStrs _) | exact .tup (SqT.of (by walk_at "gb hp")) (dpStrs _) | exact .lst (SqL.of (by walk_at "gb hp")) .nil | exact .int _ | exact .str _ | exact .non | exact shL _ | exact shT _ | exact shSL (by assumption) | exact shST (by assumption) | exact fun _ h => h | exact flat_str _ | exact flat_int _ | fail) | (first | assumption | ((with_reducible show NoteAt _ _ _); first | assumption | (refine NoteAt.mono ?tt (by assumption); (case tt => exact tups_same (by walk_at "gb same")))) | ((with_reducible show PoolAt _ _); first | walk_at "gb pool" | exact PoolAt.mono (by assumption) (by walk_at "gb same")) | fail) | walk_at "gb same" | walk_at "gb but" | (first | omega | decide +kernel | (simp only [List.length_append, List.length_map, List.length_cons, List.length_nil, List.length_take, List.length_zipWith, List.length_replicate]; omega) | (rw [sizeLine_eq]; (first | omega | (simp only [List.length_append, List.length_map, List.length_cons, List.length_nil, List.length_take, List.length_zipWith, List.length_replicate]; omega))) | (simp only [List.length_append, List.length_map, List.length_cons, List.length_nil, List.length_take, List.length_zipWith, List.length_replicate] at *; omega) | fail) | exact ⟨by omega, by omega⟩ | ((with_reducible show Paired ClsV _ _); exact .cons (.own _) (.cons (.own _) .nil)) | ((with_reducible show PySem.W.kitAny _ _ _ = _); exact kit_any2 (by assumption : Txt _ _ _).kt_BadNote_BadLine (by assumption : Txt _ _ _).kt_BadNote_BadCertificate) | exact (mulc (by omega) (by omega)).1 | ((show TruV _ _ _ _); exact Or.inl ⟨_, SqL.of (by walk_at "gb hp"), rfl⟩) | exact (nine (by omega) (by omega)).1 | exact (nine (by omega) (by omega)).2.choose_spec.1 | exact (wc_at (by omega) (by omega)).choose_spec.1 | exact atS (by assumption) | ((with_reducible show ∃ z : Str, V.str _ = V.str z); exact ⟨_, rfl⟩) | ((with_reducible show Lim _ _); first | exact ⟨by omega⟩ | exact lim_tl (by omega) | fail) | exact ⟨rfl⟩ | ((with_reducible show IsS _ _); exact isS_tl _) | exact (sg_at (n := 12) (by decide +kernel) (by omega) (by omega)).choose_spec | exact (sg_at (n := 95) (by decide +kernel) (by omega) (by omega)).choose_spec | exact (odd_at (n := 30) (by decide +kernel) rfl (by omega) (by omega)).choose_spec.1 | fail | fail) | fail))
local macro_rules | `(tactic| walk_at "gb num") => `(tactic| (first | omega | decide +kernel | (simp only [List.length_append, List.length_map, List.length_cons, List.length_nil, List.length_take, List.length_zipWith, List.length_replicate]; omega) | (rw [sizeLine_eq]; (first | omega | (simp only [List.length_append, List.length_map, List.length_cons, List.length_nil, List.length_take, List.length_zipWith, List.length_replicate]; omega))) | (simp only [List.length_append, List.length_map, List.length_cons, List.length_nil, List.length_take, List.length_zipWith, List.length_replicate] at *; omega) | fail))
local macro_rules | `(tactic| walk_at "gb step") => `(tactic| (first | ((with_reducible show RaiseG _ _ _ _ _ _); refine raiseG_in (by first | exact (by assumption : Txt _ _ _).x_BadNote | exact (by assumption : Txt _ _ _).xc_BadNote | exact (by assumption : Txt _ _ _).xm_BadNote | exact (by assumption : Txt _ _ _).kt_BadNote_BadNote | exact (by assumption : Txt _ _ _).kt_BadNote_ValueError | exact (by assumption : Txt _ _ _).kt_BadNote_BadLine | exact (by assumption : Txt _ _ _).kt_BadNote_BadCertificate | fail) ?_) | ((show _ ∧ _); refine And.intro (by walk_at "gb leaf") ?_) | ((show (_ → _) ∧ (_ ≠ _ → _)); refine And.intro (fun _ => ?_) (fun h => absurd (by first | assumption | omega | (simp only [List.length_append, List.length_map, List.length_cons, List.length_nil, List.length_take, List.length_zipWith, List.length_replicate]; omega)) h)) | ((show Exists _); refine ⟨_, fun (_ : L2.St) (_ : Hp) h => h, ?_⟩) | ((fail_if_success show ∃ (_ : List (Addr × List N)) (_ : Option V), _); (fail_if_success show ∃ (_ : Nat) (_ : Nat) (_ : Nat) (_ : Option V), _); (fail_if_success show spPart _ _ _ _ _ _); (fail_if_success show ∃ (_ : List Nat) (_ : Option V), _); (fail_if_success show ∃ (_ : List Lv) (_ : Option V), _); (fail_if_success show ∃ (_ : Lv) (_ : Option V), _); (fail_if_success show spLeaf _ _ _ E0); (show Exists _);  (fail_if_success show ∃ mm : Nat, mm < _ ∧ _); (fail_if_success refine Exists.intro (fun (_ : L2.St) (_ : Hp) => True) ?_); (fail_if_success refine Exists.intro (fun _ _ _ _ => True) ?_); (fail_if_success refine Exists.intro (fun _ _ _ => True) ?_); apply Exists.intro) | ((show ite _ _ _); (try (first | rw [eqv00] | rw [eqvL, decide_eq_true rfl] | rw [eqvT, decide_eq_true rfl] | rw [eqvL] | rw [eqvT] | rw [eqvSL, decide_eq_true rfl] | rw [eqvST, decide_eq_true rfl] | rw [eqvSL0] | rw [eqvSL] | rw [eqvST] | rw [inV_strs] | rw [inV_kv])); ((first | refine iteT ?_ | refine iteF ?_ | refine iteI (fun _ => ?_) (fun _ => ?_) | refine iteIN (fun _ => ?_) (fun _ => ?_) | refine iteD (fun _ => ?_) (fun _ => ?_) | refine iteDN (fun _ => ?_) (fun _ => ?_) | refine iteB (fun _ => ?_) (fun _ => ?_)) <;> try (exfalso; first | contradiction | omega | (simp only [SX.S_len] at *; omega) | (rename_i hq; first | exact absurd ((sign_iff 48 s0).mp hq) (by first | assumption | omega) | exact absurd ((sign_iff 48 s0).mpr (by first | assumption | omega)) hq | exact absurd ((sign_iff 45 sm).mp hq) (by first | assumption | omega) | exact absurd ((sign_iff 45 sm).mpr (by first | assumption | omega)) hq | exact absurd ((sign_iff 40 sl).mp hq) (by first | assumption | omega) | exact absurd ((sign_iff 40 sl).mpr (by first | assumption | omega)) hq | exact absurd ((sign_iff 41 sr).mp hq) (by first | assumption | omega) | exact absurd ((sign_iff 41 sr).mpr (by first | assumption | omega)) hq | exact absurd ((sign_iff 32 ss).mp hq) (by first | assumption | omega) | exact absurd ((sign_iff 32 ss).mpr (by first | assumption | omega)) hq | (rw [show isN _ _ = _ from by assumption] at hq; exact absurd hq (by decide)) | fail) | (rename_i hcc; revert hcc; simp; done)))) | ((show _ ∨ _); (first | (refine Or.inl ?_; apply Exists.intro; refine And.intro (by walk_at "gb leaf") ?_) | (refine Or.inr ?_; apply Exists.intro; refine And.intro (by walk_at "gb leaf") ?_) | (refine Or.inl (And.intro (by walk_at "gb leaf") ?_)) | (refine Or.inr (And.intro (by walk_at "gb leaf") ?_)))) | ((conv => whnf); (with_reducible show ∀ (x dx : Addr), _ = none → _ = none → dx ≠ x → _); first | fail) | (first | ((with_reducible show Same _ _); walk_at "gb same") | ((with_reducible show SameBut _ _ _); walk_at "gb but")) | fail | intro _))
local macro_rules | `(tactic| walk_at "gb go") => `(tactic| (repeat' walk_at "gb step"))

section
variable {P : Program} {w : World} {K : PySem.W.Frag} {mg : Str → Option Value} {base : Heap} {A : Adr}
theorem ok_GangError_init (T : Txt K mg A) : FnOk P w K mg base CX0 1 A.f_GangError_init A.d_GangError_init ["self", "subject"] (spGI K) := by
  refine T.F_GangError_init.ok sc_GangError_init (fun vs H Q E h => ?_) (fun cdv Ar outer s H vs Q E hr h => ?_)
  · obtain ⟨a, C, v, rfl, _⟩ := h
    rfl
  · obtain ⟨a, C, v, rfl, hT, hn, ha, k⟩ := h
    refine ⟨_, (pss_one (ps_ost (pv 0) (pv 1))), ?_⟩
    exact ⟨_, rfl, _, rfl, a, C, rfl, hT, hn, .inl ⟨ha, k⟩⟩
theorem st_write_note (T : Txt K mg A) (d : Nat) (IH : FnOk P w K mg base CX0 d A.f_write_note A.d_write_note ["note"] (spWrite d)) : FnOk P w K mg base CX0 (d + 1) A.f_write_note A.d_write_note ["note"] (spWrite (d + 1)) := by
  refine T.F_write_note.ok sc_write_note (fun vs H Q E h => ?_) (fun cdv Ar outer s H vs Q E hr h => ?_)
  · obtain ⟨v, n, tx, rfl, _⟩ := h
    rfl
  · obtain ⟨v, n, tx, rfl, hn, hT, hok, hdep, hsm, k⟩ := h
    refine ⟨_, (pss_cons (ps_if (pt_cmpR op_isN (pv 0) pe_non (nomark _)) (pss_one (ps_ret pe_str)) pss_nil)
        (pss_cons (ps_if (pt_not (pt_val (pe_callB (call_isiK' K) (by rfl) T.n_isinstance (by decide +kernel) (pa_cons (pv 0) (pa_cons (pe_bltn (v := .ty "tuple") (by rfl) T.n_tuple (by decide +kernel) rfl) pa_nil))) (by intro _; rfl))) (pss_one (ps_ret (pe_callTy call_str2 (by rfl) T.n_str (by decide +kernel) (pa_cons (pv 0) pa_nil)))) pss_nil)
        (pss_cons (ps_set (i := 1) sc_write_note.nd rfl (Or.inl rfl) (pe_lst pa_nil))
        (pss_cons (ps_for PassesOwn.never rfl (pi_tupK K (pv 0)) (pg_name (i := 2) sc_write_note.nd rfl (Or.inl rfl))
        (pss_one (ps_expr (pe_bm PySem.F.plainAttrs_list PySem.F.slot_list_append PySem.F.type_list_append mt_append (pv 1) (pa_cons (pe_call IH (hr.mono (by omega)) rfl T.g_write_note T.F_write_note.kp T.b_write_note .nil pass0 (pa_cons (pv 2) pa_nil)) pa_nil)))))
        (pss_one (ps_ret (pe_op op_add_str (pe_op op_add_str pe_str (pe_join pe_str (pv 1))) pe_str))))))), ?_⟩
    obtain rfl := hT.e
    clear hT
    cases n with
    | non =>
      obtain rfl : v = .non := hn
      walk_at "gb go"
      have e : S N.non.txt = Str.ofString "-" := sm.symm
      rw [e] at k
      exact k _ (Same.refl _)
    | wrd w' =>
      obtain rfl : v = .str ⟨w'.toArray⟩ := hn
      walk_at "gb go"
      exact k _ (Same.refl _)
    | num i =>
      obtain rfl : v = .int i := hn
      have hok' : i.natAbs < 10 ^ 200 := hok
      walk_at "gb go"
      have e : S (N.num i).txt = toString i := mk_tl _
      rw [e] at k
      exact k _ (Same.refl _)
    | tup ns =>
      obtain ⟨a, vs, rfl, ha, hs⟩ := hn
      have hdeps : N.deps ns < d := by simp only [N.dep] at hdep; omega
      have hlen := hs.len
      have hl1 := len_txts ns hok
      have htl : (N.tup ns).txt.length = (N.txts ns).length + 2 := by simp [N.txt]
      have hsm' : (N.txts ns).length + 2 ≤ 1000000 := by unfold small at hsm; omega
      walk_at "gb go"
      rename_i l hl
      refine for_tup (K := K) (a := a) (xs := vs) (fun i σ H' => ∃ v3, σ = [some (.ref a), some (.ref l), v3] ∧ Same H H' ∧ H' l = some (.lst ((txs (ns.take i)).map V.str))) ⟨none, rfl, same_new hl, upd_same⟩ (fun i σ H' _ ⟨_, _, s', _⟩ => SqT.of (s' _ _ ha)) ?_ ?_
      · rintro i v σ H' hv ⟨v3, rfl, s', hl'⟩
        obtain ⟨n', hn', hv'⟩ := hs.get hv
        have hmem := List.mem_of_getElem? hn'
        have hv2 := hv'.mono (tups_same s')
        have hok' : n'.ok := (oks_mem.mp hok) _ hmem
        have hdep' : n'.dep < d := Nat.lt_of_le_of_lt (deps_le.mp (Nat.le_refl _) _ hmem) hdeps
        have hsz : small n'.txt := by have := mem_txt_le hmem; unfold small at *; omega
        have hi : i < ns.length := (List.getElem?_eq_some_iff.mp hn').1
        have hT' : IsTxt n' n'.txt := ⟨rfl⟩
        have hlt : ((txs (ns.take i)).map V.str).length < sizeLine := by rw [List.length_map, txs_len, sizeLine_eq, List.length_take]; omega
        walk_at "gb go"
        rw [upd_same, txs_take hn']
      · rintro σ H' ⟨v3, rfl, s', hl'⟩
        rw [hlen, List.take_length] at hl'
        have g1 := txs_sum ns
        have g2 : ((txs ns).map (·.length)).sum + (txs ns).length * (Str.ofString " ").length ≤ 16777216 := by
          have : (Str.ofString " ").length = 1 := by decide +kernel
          rw [this]; omega
        have hj : (Txt.join (Str.ofString " ") (txs ns)).length = (N.txts ns).length := by rw [show Txt.join (Str.ofString " ") (txs ns) = S (N.txts ns) from by rw [ss]; exact join_N ns, S_len]
        have l1 : (Str.ofString "(").length = 1 := by decide +kernel
        have l2 : (Str.ofString ")").length = 1 := by decide +kernel
        have g3 : (Str.ofString "(").length + (Txt.join (Str.ofString " ") (txs ns)).length ≤ sizeLine := by rw [hj, l1, sizeLine_eq]; omega
        have g4 : (Str.ofString "(" ++ Txt.join (Str.ofString " ") (txs ns)).length + (Str.ofString ")").length ≤ sizeLine := by
          rw [len_tl (_ ++ _), tl_append, List.length_append, ← len_tl, ← len_tl, hj, l1, l2, sizeLine_eq]; omega
        walk_at "gb go"
        rw [← tup_txt ns] at k
        exact k _ s'
theorem ok_write_note (T : Txt K mg A) : ∀ d : Nat, FnOk P w K mg base CX0 d A.f_write_note A.d_write_note ["note"] (spWrite d)
  | 0 => ⟨fun _ _ _ _ ⟨_, _, _, _, _, _, _, h, _⟩ => absurd h (Nat.not_lt_zero _), fun _ _ _ _ _ _ _ _ _ _ _ _ _ ⟨_, _, _, _, _, _, _, h, _⟩ => absurd h (Nat.not_lt_zero _)⟩
  | d + 1 => st_write_note T d (ok_write_note T d)
theorem ok_end_of (T : Txt K mg A) : FnOk P w K mg base CX0 1 A.f_end_of A.d_end_of ["text", "at", "chars", "most"] (spEnd) := by
  refine T.F_end_of.ok sc_end_of (fun vs H Q E h => ?_) (fun cdv Ar outer s H vs Q E hr h => ?_)
  · obtain ⟨t, i, most, z, rfl, _⟩ := h
    rfl
  · obtain ⟨t, i, most, z, rfl, hi, hsm, k⟩ := h
    refine ⟨_, (pss_cons (ps_set (i := 4) sc_end_of.nd rfl (Or.inl rfl) (pv 1))
        (pss_cons (ps_while PassesOwn.never (PW.pt (pw_and (pt_cmpR op_lt (pv 4) (pe_callB call_len_str (by rfl) T.n_len (by decide +kernel) (pa_cons (pv 0) pa_nil)) (nomark _)) (pw_and (pt_cmpR op_lt (pe_op op_sub (pv 4) (pv 1)) (pv 3) (nomark _)) (pw_and1 (pt_cmpR op_in_sign (pe_ix ix_str (pv 0) (pv 4) (fun _ _ => rfl)) (pv 2) rfl))))) (pss_one (ps_aug (i := 4) sc_end_of.nd rfl (Or.inl rfl) pe_int ip_add)))
        (pss_one (ps_ret (pv 4))))), ?_⟩
    walk_at "gb go"
    refine ⟨fun m σ H' => ∃ kk : Nat, σ = [some (.str (S t)), some (.int (i : Nat)), some (.str z), some (.int (most : Nat)), some (.int ((i + kk : Nat) : Int))] ∧ H' = H ∧ kk ≤ most ∧ i + kk ≤ t.length ∧ (∀ j, j < kk → ∃ c, t[i + j]? = some c ∧ c ∈ tl z) ∧ m = t.length - (i + kk), ⟨_, 0, rfl, rfl, Nat.zero_le _, hi, (fun j h => absurd h (Nat.not_lt_zero _)), rfl⟩, ?_⟩
    rintro m σ H' ⟨kk, rfl, rfl, h1, h2, h3, rfl⟩
    by_cases hlt : i + kk < t.length
    · obtain ⟨c, hc⟩ : ∃ c, t[i + kk]? = some c := ⟨_, List.getElem?_eq_getElem hlt⟩
      walk_at "gb go"
      · rename_i g1 g2 g3
        refine ⟨t.length - (i + (kk + 1)), by omega, kk + 1, rfl, rfl, by omega, by omega, fun j hj => ?_, rfl⟩
        by_cases hjk : j < kk
        · exact h3 j hjk
        · obtain rfl : j = kk := by omega
          exact ⟨c, hc, g3⟩
      · rename_i g1 g2 g3
        rw [run_char h1 h3 (.inr (.inr ⟨c, hc, g3⟩))] at k; exact k
      · rename_i g1 g2
        rw [run_char h1 h3 (.inl (by omega))] at k; exact k
    · walk_at "gb go"
      rw [run_char h1 h3 (.inr (.inl (List.getElem?_eq_none (by omega))))] at k; exact k
theorem ok_begins_number (T : Txt K mg A) : FnOk P w K mg base CX0 1 A.f_begins_number A.d_begins_number ["text", "at"] (spBegins) := by
  refine T.F_begins_number.ok sc_begins_number (fun vs H Q E h => ?_) (fun cdv Ar outer s H vs Q E hr h => ?_)
  · obtain ⟨t, i, rfl, _⟩ := h
    rfl
  · obtain ⟨t, i, rfl, hsm, k⟩ := h
    refine ⟨_, (pss_one (ps_ret (pe_and (pe_cmpR op_lt (pv 1) (pe_callB call_len_str (by rfl) T.n_len (by decide +kernel) (pa_cons (pv 0) pa_nil)) (nomark _)) (pe_and (pe_cmpR op_in_sign (pe_ix ix_str (pv 0) (pv 1) (fun _ _ => rfl)) (pe_glob (v := .str (Str.ofString "0123456789")) rfl T.k_DIGITS.choose_spec ⟨_, rfl⟩) rfl) (pe_one (pe_cmpR op_ne (pe_ix ix_str (pv 0) (pv 1) (fun _ _ => rfl)) pe_str (nomark _))))))), ?_⟩
    by_cases hlt : i < t.length
    · obtain ⟨c, hc⟩ : ∃ c, t[i]? = some c := ⟨_, List.getElem?_eq_getElem hlt⟩
      walk_at "gb go"
      · rename_i hd
        rw [isN_in hc hd] at k; exact k
      · rename_i hd
        rw [isN_out hc hd] at k; exact k
    · walk_at "gb go"
      rw [isN_end hlt] at k; exact k
theorem ok_read_number (T : Txt K mg A) : FnOk P w K mg base (L2N.CX P w) 3 A.f_read_number A.d_read_number ["text", "at"] (spNum A) := by
  refine T.F_read_number.okXN sc_read_number (fun vs H Q E h => ?_) (fun cdv Ar outer s H vs Q E hr h => ?_)
  · obtain ⟨t, i, rfl, _⟩ := h
    rfl
  · obtain ⟨t, i, rfl, hi, hsm, k⟩ := h
    refine ⟨_, (pss_cons (ps_if (pt_cmpR op_eq (pe_ix ix_str (pv 0) (pv 1) (fun _ _ => rfl)) pe_str (nomark _)) (pss_one (ps_ret (pe_tup (pa_cons pe_int (pa_cons (pe_op op_add (pv 1) pe_int) pa_nil))))) pss_nil)
        (pss_cons (ps_set (i := 2) sc_read_number.nd rfl (Or.inl rfl) (pe_ifExp (pt_cmpR op_eq (pe_ix ix_str (pv 0) (pv 1) (fun _ _ => rfl)) pe_str (nomark _)) (pe_op op_add (pv 1) pe_int) (pv 1)))
        (pss_cons (ps_if (pt_not (pt_val (pe_call (ok_begins_number T) (hr.mono (by decide)) rfl T.g_begins_number T.F_begins_number.kp T.b_begins_number .nil pass0 (pa_cons (pv 0) (pa_cons (pv 2) pa_nil))) (by intro _; rfl))) (pss_one (ps_raiseGN rfl T.x_BadNote (ok_GangError_init T) (hr.mono (by decide)) T.b_GangError_init rfl T.g_BadNote (L2N.takes_of rfl rfl rfl rfl) (pv 2))) pss_nil)
        (pss_cons (ps_set (i := 3) sc_read_number.nd rfl (Or.inl rfl) (pe_call (ok_end_of T) (hr.mono (by decide)) rfl T.g_end_of T.F_end_of.kp T.b_end_of .nil pass0 (pa_cons (pv 0) (pa_cons (pv 2) (pa_cons (pe_glob (v := .str (Str.ofString "0123456789")) rfl T.k_DIGITS.choose_spec ⟨_, rfl⟩) (pa_cons (pe_glob (v := .int 200) rfl T.k_MOST_DIGITS.choose_spec ⟨_, rfl⟩) pa_nil))))))
        (pss_one (ps_ret (pe_tup (pa_cons (pe_callTy call_int_str (by rfl) T.n_int (by decide +kernel) (pa_cons (pe_slice sl_str (pv 0) (po_some (pv 1)) (po_some (pv 3))) pa_nil)) (pa_cons (pv 3) pa_nil))))))))), ?_⟩
    obtain ⟨c, hc⟩ : ∃ c, t[i]? = some c := ⟨_, List.getElem?_eq_getElem hi⟩
    by_cases h48 : c = 48
    · have k : FinR A Q E H (.got (.num 0) (i + 1)) := by rw [rnum, if_pos (by rw [hc, h48])] at k; exact k
      walk_at "gb go"
      rename_i p hp
      exact k p _ _ (same_new hp) upd_same rfl
    have hn48 : ¬ t[i]? = some 48 := by rw [hc]; intro z; injection z; contradiction
    rw [rnum, if_neg hn48] at k
    by_cases h45 : c = 45
    · have hF : rnumF t i = i + 1 := by unfold rnumF; rw [if_pos (by rw [hc, h45])]
      cases hN : isN t (i + 1) with
      | false =>
        rw [hF, hN, if_neg (by decide)] at k
        walk_at "gb go"
        rename_i d hd
        exact k d _ (same_new hd) upd_same
      | true =>
        obtain ⟨g1, g2⟩ := num_got hi (hF.symm ▸ hN)
        rw [hF] at g1 g2 k
        rw [hN, if_pos rfl] at k
        walk_at "gb go"
        rename_i p hp
        exact k p _ _ (same_new hp) upd_same rfl
    · have hF : rnumF t i = i := by unfold rnumF; rw [if_neg (by rw [hc]; intro z; injection z; contradiction)]
      cases hN : isN t i with
      | false =>
        rw [hF, hN, if_neg (by decide)] at k
        walk_at "gb go"
        rename_i d hd
        exact k d _ (same_new hd) upd_same
      | true =>
        obtain ⟨g1, g2⟩ := num_got hi (hF.symm ▸ hN)
        rw [hF] at g1 g2 k
        rw [hN, if_pos rfl] at k
        walk_at "gb go"
        rename_i p hp
        exact k p _ _ (same_new hp) upd_same rfl
theorem st_read_part (T : Txt K mg A) (q : Nat) (IH : FnOk P w K mg base (L2N.CX P w) (2 * q + 3) A.f_read_tuple A.d_read_tuple ["text", "at", "depth"] (spTup A q)) : FnOk P w K mg base (L2N.CX P w) (2 * q + 3 + 1) A.f_read_part A.d_read_part ["text", "at", "depth"] (spPart A (q + 1)) := by
  refine T.F_read_part.okXN sc_read_part (fun vs H Q E h => ?_) (fun cdv Ar outer s H vs Q E hr h => ?_)
  · obtain ⟨t, i, r, dp, rfl, _⟩ := h
    rfl
  · obtain ⟨t, i, r, dp, rfl, hdp, hq, hi, hsm, k⟩ := h
    refine ⟨_, (pss_cons (ps_if (pt_cmpR op_eq (pv 1) (pe_callB call_len_str (by rfl) T.n_len (by decide +kernel) (pa_cons (pv 0) pa_nil)) (nomark _)) (pss_one (ps_raiseGN rfl T.x_BadNote (ok_GangError_init T) (hr.mono (by omega)) T.b_GangError_init rfl T.g_BadNote (L2N.takes_of rfl rfl rfl rfl) (pv 1))) pss_nil)
        (pss_cons (ps_if (pt_cmpR op_eq (pe_ix ix_str (pv 0) (pv 1) (fun _ _ => rfl)) pe_str (nomark _)) (pss_one (ps_ret (pe_call IH (hr.mono (by omega)) rfl T.g_read_tuple T.F_read_tuple.kp T.b_read_tuple .nil (L2N.passes_call (L2N.takes_of rfl rfl rfl rfl) (fun _ _ _ _ h => h)) (pa_cons (pv 0) (pa_cons (pv 1) (pa_cons (pe_op op_add (pv 2) pe_int) pa_nil)))))) pss_nil)
        (pss_cons (ps_if (pt_cmpR op_in_sign (pe_ix ix_str (pv 0) (pv 1) (fun _ _ => rfl)) (pe_glob (v := .str (Str.ofString "abcdefghijklmnopqrstuvwxyz")) rfl T.k_LETTERS.choose_spec ⟨_, rfl⟩) rfl) (pss_cons (ps_set (i := 3) sc_read_part.nd rfl (Or.inl rfl) (pe_call (ok_end_of T) (hr.mono (by omega)) rfl T.g_end_of T.F_end_of.kp T.b_end_of .nil pass0 (pa_cons (pv 0) (pa_cons (pv 1) (pa_cons (pe_glob (v := .str (Str.ofString "abcdefghijklmnopqrstuvwxyz0123456789-:")) rfl T.k_WORD_CHARS.choose_spec ⟨_, rfl⟩) (pa_cons (pe_glob (v := .int 24) rfl T.k_MOST_LETTERS.choose_spec ⟨_, rfl⟩) pa_nil))))))
        (pss_one (ps_ret (pe_tup (pa_cons (pe_slice sl_str (pv 0) (po_some (pv 1)) (po_some (pv 3))) (pa_cons (pv 3) pa_nil)))))) pss_nil)
        (pss_cons (ps_if (PW.pt (pw_and (pt_cmpR op_eq (pe_ix ix_str (pv 0) (pv 1) (fun _ _ => rfl)) pe_str (nomark _)) (pw_and1 (pt_not (pt_val (pe_call (ok_begins_number T) (hr.mono (by omega)) rfl T.g_begins_number T.F_begins_number.kp T.b_begins_number .nil pass0 (pa_cons (pv 0) (pa_cons (pe_op op_add (pv 1) pe_int) pa_nil))) (by intro _; rfl)))))) (pss_one (ps_ret (pe_tup (pa_cons pe_non (pa_cons (pe_op op_add (pv 1) pe_int) pa_nil))))) pss_nil)
        (pss_one (ps_ret (pe_call (ok_read_number T) (hr.mono (by omega)) rfl T.g_read_number T.F_read_number.kp T.b_read_number .nil (L2N.passes_call (L2N.takes_of rfl rfl rfl rfl) (fun _ _ _ _ h => h)) (pa_cons (pv 0) (pa_cons (pv 1) pa_nil))))))))), ?_⟩
    obtain rfl : q = r := by omega
    by_cases hlt : i < t.length
    · obtain ⟨c, hc⟩ : ∃ c, t[i]? = some c := ⟨_, List.getElem?_eq_getElem hlt⟩
      by_cases h40 : c = 40
      · have k : FinR A Q E H (rtupS t q i) := by rw [rpart_eq, if_pos (by rw [hc, h40])] at k; exact k
        walk_at "gb go"
        exact k
      have k : FinR A Q E H (rleaf t i) := by rw [rpart_leaf (by rw [hc]; intro z; injection z; contradiction)] at k; exact k
      by_cases hL : c ∈ lets
      · have k : FinR A Q E H (.got (.wrd (cut t i (GN.run wcs 24 t i))) (GN.run wcs 24 t i)) := by
          unfold rleaf at k; rw [hc] at k; revert k; show FinR A Q E H (if c ∈ lets then _ else _) → _; rw [if_pos hL]; exact id
        walk_at "gb go"
        rename_i p hp
        refine k p _ _ (same_new hp) ?_ rfl
        rw [upd_same, cutS_eq hi (run_le hi)]
        rfl
      by_cases hM : c = 45 ∧ isN t (i + 1) = false
      · have k : FinR A Q E H (.got .non (i + 1)) := by
          unfold rleaf at k; rw [hc] at k; revert k; show FinR A Q E H (if c ∈ lets then _ else if _ then _ else _) → _; rw [if_neg hL, if_pos hM]; exact id
        obtain ⟨h45, hN⟩ := hM
        walk_at "gb go"
        rename_i p hp
        exact k p _ _ (same_new hp) upd_same rfl
      · have k : FinR A Q E H (rnum t i) := by
          unfold rleaf at k; rw [hc] at k; revert k; show FinR A Q E H (if c ∈ lets then _ else if _ then _ else _) → _; rw [if_neg hL, if_neg hM]; exact id
        by_cases h45 : c = 45
        · have hN : isN t (i + 1) = true := by
            cases e : isN t (i + 1) with
            | true => rfl
            | false => exact absurd ⟨h45, e⟩ hM
          walk_at "gb go"
          all_goals exact k
        · walk_at "gb go"
          all_goals exact k
    · have k : FinR A Q E H (.bad i) := by
        have hn : t[i]? = none := List.getElem?_eq_none (by omega)
        rw [rpart_leaf (by rw [hn]; intro z; cases z)] at k
        unfold rleaf at k; rw [hn] at k; exact k
      walk_at "gb go"
      rename_i d hd
      exact k d _ (same_new hd) upd_same
theorem st_read_tuple (T : Txt K mg A) (q : Nat) (IH : FnOk P w K mg base (L2N.CX P w) (2 * q + 2) A.f_read_part A.d_read_part ["text", "at", "depth"] (spPart A q)) : FnOk P w K mg base (L2N.CX P w) (2 * q + 2 + 1) A.f_read_tuple A.d_read_tuple ["text", "at", "depth"] (spTup A q) := by
  refine T.F_read_tuple.okXN sc_read_tuple (fun vs H Q E h => ?_) (fun cdv Ar outer s H vs Q E hr h => ?_)
  · obtain ⟨t, i, dp, rfl, _⟩ := h
    rfl
  · obtain ⟨t, i, dp, rfl, hdp, hi, hsm, k⟩ := h
    refine ⟨_, (pss_cons (ps_if (pt_cmpR op_gt (pv 2) (pe_glob (v := .int 100) rfl T.k_DEEPEST.choose_spec ⟨_, rfl⟩) (nomark _)) (pss_one (ps_raiseGN rfl T.x_BadNote (ok_GangError_init T) (hr.mono (by omega)) T.b_GangError_init rfl T.g_BadNote (L2N.takes_of rfl rfl rfl rfl) (pv 1))) pss_nil)
        (pss_cons (ps_if (pt_cmpR op_eq (pe_slice sl_str (pv 0) (po_some (pe_op op_add (pv 1) pe_int)) (po_some (pe_op op_add (pv 1) pe_int))) pe_str (nomark _)) (pss_one (ps_ret (pe_tup (pa_cons (pe_tup pa_nil) (pa_cons (pe_op op_add (pv 1) pe_int) pa_nil))))) pss_nil)
        (pss_cons (ps_set (i := 3) sc_read_tuple.nd rfl (Or.inl rfl) (pe_lst pa_nil))
        (pss_cons (ps_set (i := 4) sc_read_tuple.nd rfl (Or.inl rfl) pe_str)
        (pss_cons (ps_while (passes_of rfl) (pt_cmpR op_eq (pv 4) pe_str (nomark _)) (pss_cons (ps_asg (pe_call IH (hr.mono (by omega)) rfl T.g_read_part T.F_read_part.kp T.b_read_part .nil (L2N.passes_call (L2N.takes_of rfl rfl rfl rfl) (fun _ _ _ _ h => h)) (pa_cons (pv 0) (pa_cons (pe_op op_add (pv 1) pe_int) (pa_cons (pv 2) pa_nil)))) (pg_tup rfl (pgs_cons (pg_name (i := 5) sc_read_tuple.nd rfl (Or.inl rfl)) (pgs_cons (pg_name (i := 1) sc_read_tuple.nd rfl (Or.inl rfl)) pgs_nil))))
        (pss_cons (ps_expr (pe_bm PySem.F.plainAttrs_list PySem.F.slot_list_append PySem.F.type_list_append mt_append (pv 3) (pa_cons (pv 5) pa_nil)))
        (pss_one (ps_set (i := 4) sc_read_tuple.nd rfl (Or.inl rfl) (pe_slice sl_str (pv 0) (po_some (pv 1)) (po_some (pe_op op_add (pv 1) pe_int))))))))
        (pss_cons (ps_if (pt_cmpR op_ne (pv 4) pe_str (nomark _)) (pss_one (ps_raiseGN rfl T.x_BadNote (ok_GangError_init T) (hr.mono (by omega)) T.b_GangError_init rfl T.g_BadNote (L2N.takes_of rfl rfl rfl rfl) (pv 1))) pss_nil)
        (pss_one (ps_ret (pe_tup (pa_cons (pe_callTy call_tuple_of (by rfl) T.n_tuple (by decide +kernel) (pa_cons (pv 3) pa_nil)) (pa_cons (pe_op op_add (pv 1) pe_int) pa_nil))))))))))), ?_⟩
    cases q with
    | zero =>
      have k : FinR A Q E H (.bad i) := k
      walk_at "gb go"
      rename_i d hd
      exact k d _ (same_new hd) upd_same
    | succ r =>
      have k : FinR A Q E H (rtup t r i) := k
      walk_at "gb go"
      · rename_i p1 h1 p2 h2
        have k : FinR A Q E H (.got (.tup []) (i + 2)) := by unfold rtup at k; rw [if_pos ((cut_iff2 hi sr).mp (by assumption))] at k; exact k
        exact k p2 _ _ ((same_new h1).trans (same_new h2)) upd_same ⟨p1, [], rfl, upd_fr upd_same h2, rfl⟩
      rename_i l hl
      have k : FinR A Q E H (rloop (rpart t r) t (t.length - i) i []) := by unfold rtup at k; rw [if_neg (fun z => absurd ((cut_iff2 hi sr).mpr z) (by assumption))] at k; exact k
      walk_at "gb go"
      refine ⟨fun m σ H' => ∃ (j : Nat) (b : Str) (v5 : Option V) (acc : List N) (vs : List V), σ = [some (.str (S t)), some (.int (j : Nat)), some (.int dp), some (.ref l), some (.str b), v5] ∧ Same H H' ∧ H' l = some (.lst vs) ∧ NotesAt H' acc vs ∧ vs.length ≤ j ∧ j ≤ t.length ∧ m = t.length - j ∧
        ((b = Str.ofString " " ∧ j < t.length ∧ ∃ f, t.length - j ≤ f ∧ FinR A Q E H (rloop (rpart t r) t f j acc)) ∨ (b ≠ Str.ofString " " ∧ (b = Str.ofString ")" ↔ t[j]? = some 41) ∧ FinR A Q E H (if t[j]? = some 41 then .got (.tup acc) (j + 1) else .bad j))),
        ⟨_, i, _, _, [], [], rfl, same_new hl, upd_same, rfl, Nat.zero_le _, Nat.le_of_lt hi, rfl, .inl ⟨rfl, hi, _, Nat.le_refl _, k⟩⟩, ?_⟩
      clear k
      rintro m σ H' ⟨j, b, v5, acc, vs, rfl, s', hl', hN, hvl, hj, rfl, hcase⟩
      rcases hcase with ⟨rfl, hj2, f, hf, k⟩ | ⟨hb, hb2, k⟩
      · walk_at "gb go"
        refine ⟨t, j + 1, r, dp, rfl, by omega, rfl, hj2, hsm, ?_⟩
        obtain ⟨f, rfl⟩ : ∃ f', f = f' + 1 := ⟨f - 1, by omega⟩
        unfold rloop at k
        cases hR : rpart t r (j + 1) with
        | bad i2 =>
          rw [hR] at k
          exact FinR.from (r := .bad i2) k s'
        | got n a =>
          obtain ⟨p1, p2⟩ := rpart_pos _ _ _ _ hR
          rw [hR] at k
          intro p v H2 s2 hp hv
          have hvs : vs.length < sizeLine := by rw [sizeLine_eq]; unfold small at hsm; omega
          have hl2 := s2 _ _ hl'
          walk_at "gb go"
          have sP := s'.trans s2
          refine ⟨t.length - a, by omega, a, _, _, acc ++ [n], vs ++ [v], rfl, same_put sP hl, upd_same, NotesAt.snoc (hv.mono (tups_put Tups.refl hl2)) (hN.mono (tups_put (tups_same s2) hl2)), by rw [List.length_append]; show vs.length + 1 ≤ a; omega, p2, rfl, ?_⟩
          by_cases h32 : t[a]? = some 32
          · have k : FinR A Q E H (rloop (rpart t r) t f a (acc ++ [n])) := by revert k; show FinR A Q E H (if t[a]? = some 32 then _ else _) → _; rw [if_pos h32]; exact id
            exact .inl ⟨by have := (cut_iff p2 ss).mpr h32; injection this, (List.getElem?_eq_some_iff.mp h32).1, f, by omega, k⟩
          · have k : FinR A Q E H (if t[a]? = some 41 then .got (.tup (acc ++ [n])) (a + 1) else .bad a) := by revert k; show FinR A Q E H (if t[a]? = some 32 then _ else if _ then _ else _) → _; rw [if_neg h32]; exact id
            exact .inr ⟨fun z => h32 ((cut_iff p2 ss).mp (by rw [z])), ⟨fun z => (cut_iff p2 sr).mp (by rw [z]), fun z => by have := (cut_iff p2 sr).mpr z; injection this⟩, k⟩
      · have hb' : ¬ V.str b = V.str (Str.ofString " ") := fun z => hb (by injection z)
        by_cases h41 : t[j]? = some 41
        · have k : FinR A Q E H (.got (.tup acc) (j + 1)) := by rw [if_pos h41] at k; exact k
          have hb3 : V.str b = V.str (Str.ofString ")") := by rw [hb2.mpr h41]
          walk_at "gb go"
          rename_i l2 h2 p2 h3
          exact k p2 _ _ (s'.trans ((same_new h2).trans (same_new h3))) upd_same ⟨l2, vs, rfl, upd_fr upd_same h3, hN.mono (tups_same ((same_new h2).trans (same_new h3)))⟩
        · have k : FinR A Q E H (.bad j) := by rw [if_neg h41] at k; exact k
          have hb3 : ¬ V.str b = V.str (Str.ofString ")") := fun z => h41 (hb2.mp (by injection z))
          walk_at "gb go"
          rename_i d hd
          exact k d _ (s'.trans (same_new hd)) upd_same
theorem ok_parts (T : Txt K mg A) : ∀ q : Nat, FnOk P w K mg base (L2N.CX P w) (2 * q + 2) A.f_read_part A.d_read_part ["text", "at", "depth"] (spPart A q)
  | 0 => ⟨fun _ _ _ _ ⟨_, _, _, _, _, _, h, _⟩ => absurd h (by omega), fun _ _ _ _ _ _ _ _ _ _ _ _ _ ⟨_, _, _, _, _, _, h, _⟩ => absurd h (by omega)⟩
  | q + 1 => (st_read_part T q ((st_read_tuple T q (ok_parts T q)).mono (by omega))).mono (by omega)
theorem ok_read_note (T : Txt K mg A) : FnOk P w K mg base (L2N.CX P w) 205 A.f_read_note A.d_read_note ["text"] (spRead A) := by
  refine T.F_read_note.okXN sc_read_note (fun vs H Q E h => ?_) (fun cdv Ar outer s H vs Q E hr h => ?_)
  · obtain ⟨t, rr, rfl, _⟩ := h
    rfl
  · obtain ⟨t, rr, rfl, hsm, hrr, k⟩ := h
    refine ⟨_, (pss_cons (ps_asg (pe_call (ok_parts T 101) (hr.mono (by omega)) rfl T.g_read_part T.F_read_part.kp T.b_read_part .nil (L2N.passes_call (L2N.takes_of rfl rfl rfl rfl) (fun _ _ _ _ h => h)) (pa_cons (pv 0) (pa_cons pe_int (pa_cons pe_int pa_nil)))) (pg_tup rfl (pgs_cons (pg_name (i := 1) sc_read_note.nd rfl (Or.inl rfl)) (pgs_cons (pg_name (i := 2) sc_read_note.nd rfl (Or.inl rfl)) pgs_nil))))
        (pss_cons (ps_if (pt_cmpR op_lt (pv 2) (pe_callB call_len_str (by rfl) T.n_len (by decide +kernel) (pa_cons (pv 0) pa_nil)) (nomark _)) (pss_one (ps_raiseGN rfl T.x_BadNote (ok_GangError_init T) (hr.mono (by decide)) T.b_GangError_init rfl T.g_BadNote (L2N.takes_of rfl rfl rfl rfl) (pv 2))) pss_nil)
        (pss_one (ps_ret (pv 1))))), ?_⟩
    obtain rfl := hrr.e
    clear hrr
    walk_at "gb go"
    refine ⟨t, 0, 100, 0, rfl, rfl, rfl, Nat.zero_le _, hsm, ?_⟩
    cases hR : rpart t 100 0 with
    | bad b =>
      unfold rnote at k
      rw [hR] at k
      exact k
    | got n j =>
      obtain ⟨p1, p2⟩ := rpart_pos _ _ _ _ hR
      unfold rnote at k
      rw [hR] at k
      intro p v H2 s2 hp hv
      by_cases hj : j < t.length
      · have k : BadAt A E H j := by revert k; show (match (if j < t.length then R.bad j else R.got n j) with | .bad i => _ | .got n _ => _) → _; rw [if_pos hj]; exact id
        walk_at "gb go"
        rename_i d hd
        exact k d _ (s2.trans (same_new hd)) upd_same
      · have k : ∀ v H', Same H H' → NoteAt H' n v → Q v H' := by revert k; show (match (if j < t.length then R.bad j else R.got n j) with | .bad i => _ | .got n _ => _) → _; rw [if_neg hj]; exact id
        walk_at "gb go"
        exact k v H2 s2 hv
theorem ok_pool (T : Txt K mg A) : FnOk P w K mg base CX0 1 A.f_pool A.d_pool ["_law_script"] (spPool K) := by
  refine T.F_pool.ok sc_pool (fun vs H Q E h => ?_) (fun cdv Ar outer s H vs Q E hr h => ?_)
  · obtain ⟨a, ns, rfl, _⟩ := h
    rfl
  · obtain ⟨a, ns, rfl, hS, hl, hb, k⟩ := h
    refine ⟨_, (pss_cons (ps_set (i := 1) sc_pool.nd rfl (Or.inl rfl) (pe_lst (pa_cons pe_int (pa_cons pe_int (pa_cons pe_int (pa_cons pe_int pa_nil))))))
        (pss_cons (ps_for PassesOwn.never rfl (pi_listK K (pv 0)) (pg_name (i := 2) sc_pool.nd rfl (Or.inl rfl))
        (pss_one (ps_if (pt_cmpR op_ge (pv 2) (pe_op op_pow pe_int pe_int) (nomark _)) (pss_one (ps_expr (pe_bm PySem.F.plainAttrs_list PySem.F.slot_list_append PySem.F.type_list_append mt_append (pv 1) (pa_cons (pv 2) pa_nil)))) (pss_cons (ps_asg (pe_op op_mod (pe_callTy call_int1 (by rfl) T.n_int (by decide +kernel) (pa_cons (pe_op op_add (pe_op op_mulX (pe_ix (ix_listK K) (pv 1) pe_int (fun _ _ => rfl)) pe_int) (pv 2)) pa_nil)) pe_int) (pg_sub (pv 1) pe_int set_list))
        (pss_cons (ps_asg (pe_op op_mod (pe_callTy call_int1 (by rfl) T.n_int (by decide +kernel) (pa_cons (pe_op op_add (pe_op op_mulX (pe_ix (ix_listK K) (pv 1) pe_int (fun _ _ => rfl)) pe_int) (pe_op op_mulX (pv 2) (pv 2))) pa_nil)) pe_int) (pg_sub (pv 1) pe_int set_list))
        (pss_one (ps_asg (pe_op op_mod (pe_callTy call_int1 (by rfl) T.n_int (by decide +kernel) (pa_cons (pe_op op_add (pe_op op_mulX (pe_ix (ix_listK K) (pv 1) pe_int (fun _ _ => rfl)) pe_int) (pe_op op_mulX (pv 2) pe_int)) pa_nil)) pe_int) (pg_sub (pv 1) pe_int set_list))))))))
        (pss_one (ps_ret (pv 1))))), ?_⟩
    refine ⟨(by show 4 ≤ sizeLine; decide), fun p hp => ?_⟩
    have sp : Same H (upd H p (.lst (poolL 1 2 3 0 []))) := same_new hp
    refine ⟨_, rfl, a, rfl, ⟨_, sp.seq hS⟩, for_list (K := K) (a := a) (xs := ns.map V.int) (fun i σ H' => ∃ v x0 x1 x2 bs, σ = [some (.ref a), some (.ref p), v] ∧ SameBut p H H' ∧ H' p = some (.lst (poolL x0 x1 x2 0 bs)) ∧ bs.length ≤ i ∧ ∀ z ∈ bs, 1 ≤ z)
      ⟨none, 1, 2, 3, [], rfl, sp.but, upd_same, Nat.le_refl _, fun z h => absurd h List.not_mem_nil⟩ (fun i σ H' _ ⟨_, _, _, _, _, _, sb, _⟩ => (same_of_but hp sb).seq hS) ?_ ?_⟩
    · rintro i y σ H' hi ⟨v, x0, x1, x2, bs, rfl, sb, hp', hbl, hz⟩
      obtain ⟨z, hzi, rfl⟩ := getMap hi
      have hil : i < ns.length := (List.getElem?_eq_some_iff.mp hzi).1
      have hbits := hb z (List.mem_of_getElem? hzi)
      refine ⟨_, rfl, _, _, rfl, rfl, ⟨by decide, by decide, by decide⟩, _, _, rfl, rfl, _, rfl, ?_⟩
      refine iteD (fun c => ?_) (fun c => ?_)
      · refine ⟨_, rfl, .inl ⟨rfl, _, SqL.of hp'⟩, _, rfl, p, _, _, rfl, rfl, hp', small1000 (by rw [pool_len]; omega), ?_⟩
        refine ⟨some (.int z), x0, x1, x2, bs ++ [z], rfl, sb.trans sameBut_upd, ?_, by rw [List.length_append]; show bs.length + 1 ≤ i + 1; omega, fun q hq => ?_⟩
        · rw [upd_same]; simp [poolL]
        · rcases List.mem_append.mp hq with h | h
          · exact hz q h
          · rw [List.mem_singleton.mp h]
            have e18 : (10 : Int) ^ (18 : Int).toNat = 1000000000000000000 := by decide
            have c' : (1000000000000000000 : Int) ≤ z := e18 ▸ c
            omega
      · refine ⟨_, rfl, p, _, 0, _, rfl, rfl, SqL.of hp', pool_at0, _, _, rfl, rfl, mulR ⟨by decide, by decide⟩, _, rfl, _, _, rfl, rfl, .inl ⟨_, rfl, _, _, rfl, rfl, (by show (0 : Int) < 101; decide), _, rfl, p, _, _, 0, rfl, rfl, hp', pool_ix 0 (by decide), ?_⟩⟩
        refine ⟨_, rfl, p, _, 1, _, rfl, rfl, SqL.of (show _ = some (.lst (poolL _ x1 x2 0 bs)) from upd_same), pool_at1, _, _, rfl, rfl, mulR ⟨by decide, by decide⟩, _, rfl, _, rfl, _, _, rfl, rfl, bitsMul hbits hbits, _, _, rfl, rfl, .inl ⟨_, rfl, _, _, rfl, rfl, (by show (0 : Int) < 103; decide), _, rfl, p, _, _, 1, rfl, rfl, (show _ = some (.lst (poolL _ x1 x2 0 bs)) from upd_same), pool_ix 1 (by decide), ?_⟩⟩
        refine ⟨_, rfl, p, _, 2, _, rfl, rfl, SqL.of (show _ = some (.lst (poolL _ _ x2 0 bs)) from upd_same), pool_at2, _, _, rfl, rfl, mulR ⟨by decide, by decide⟩, _, rfl, _, _, rfl, rfl, mulR ⟨by decide, by decide⟩, _, _, rfl, rfl, .inl ⟨_, rfl, _, _, rfl, rfl, (by show (0 : Int) < 1009; decide), _, rfl, p, _, _, 2, rfl, rfl, (show _ = some (.lst (poolL _ _ x2 0 bs)) from upd_same), pool_ix 2 (by decide), ?_⟩⟩
        exact ⟨some (.int z), _, _, _, bs, rfl, sb.trans (sameBut_upd.trans (sameBut_upd.trans sameBut_upd)), upd_same, by omega, hz⟩
    · rintro σ H' ⟨v, x0, x1, x2, bs, rfl, sb, hp', hbl, hz⟩
      rw [List.length_map] at hbl
      exact ⟨_, rfl, k p H' hp (.of hp' (by omega) hz) sb⟩
theorem ok_draw (T : Txt K mg A) : FnOk P w K mg base CX0 1 A.f_draw A.d_draw ["_law_pool_here", "_law_many"] (spDraw) := by
  refine T.F_draw.ok sc_draw (fun vs H Q E h => ?_) (fun cdv Ar outer s H vs Q E hr h => ?_)
  · obtain ⟨p, m, rfl, _⟩ := h
    rfl
  · obtain ⟨p, m, rfl, hP, h0, h1, k⟩ := h
    refine ⟨_, (pss_cons (ps_asg (pe_op op_add (pe_ix (ix_listK K) (pv 0) pe_int (fun _ _ => rfl)) pe_int) (pg_sub (pv 0) pe_int set_list))
        (pss_cons (ps_if (pt_cmpR op_gt (pe_callB (call_len_seqK K) (by rfl) T.n_len (by decide +kernel) (pa_cons (pv 0) pa_nil)) pe_int (nomark _)) (pss_cons (ps_set (i := 4) sc_draw.nd rfl (Or.inl rfl) (pe_op op_mod (pe_callTy call_int1 (by rfl) T.n_int (by decide +kernel) (pa_cons (pe_ix (ix_listK K) (pv 0) pe_int (fun _ _ => rfl)) pa_nil)) (pv 1)))
        (pss_cons (ps_asg (pe_op op_fdiv (pe_ix (ix_listK K) (pv 0) pe_int (fun _ _ => rfl)) (pv 1)) (pg_sub (pv 0) pe_int set_list))
        (pss_cons (ps_if (pt_cmpR op_eq (pe_ix (ix_listK K) (pv 0) pe_int (fun _ _ => rfl)) pe_int (nomark _)) (pss_one (ps_expr (pe_bm PySem.F.plainAttrs_list PySem.F.slot_list_pop PySem.F.type_list_pop mt_popAt (pv 0) (pa_cons pe_int pa_nil)))) pss_nil)
        (pss_one (ps_ret (pv 4)))))) pss_nil)
        (pss_cons (ps_set (i := 2) sc_draw.nd rfl (Or.inl rfl) (pe_op op_mod (pe_callTy call_int1 (by rfl) T.n_int (by decide +kernel) (pa_cons (pe_op op_add (pe_ix (ix_listK K) (pv 0) pe_int (fun _ _ => rfl)) (pe_op op_mulX pe_int (pe_ix (ix_listK K) (pv 0) pe_int (fun _ _ => rfl)))) pa_nil)) pe_int))
        (pss_cons (ps_set (i := 3) sc_draw.nd rfl (Or.inl rfl) (pe_op op_mod (pe_callTy call_int1 (by rfl) T.n_int (by decide +kernel) (pa_cons (pe_op op_add (pe_ix (ix_listK K) (pv 0) pe_int (fun _ _ => rfl)) (pe_op op_mulX (pv 2) (pv 2))) pa_nil)) pe_int))
        (pss_one (ps_ret (pe_op op_mod (pe_op op_mod (pe_callTy call_int1 (by rfl) T.n_int (by decide +kernel) (pa_cons (pe_op op_add (pe_op op_add (pe_ix (ix_listK K) (pv 0) pe_int (fun _ _ => rfl)) (pe_op op_mulX pe_int (pe_ix (ix_listK K) (pv 0) pe_int (fun _ _ => rfl)))) (pe_op op_mulX (pv 3) (pv 3))) pa_nil)) pe_int) (pv 1)))))))), ?_⟩
    obtain ⟨x0, x1, x2, n, bs, hp, hl, hz⟩ := hP
    refine ⟨_, rfl, p, _, 3, _, rfl, rfl, SqL.of hp, pool_at3, _, _, rfl, rfl, _, rfl, p, _, _, 3, rfl, rfl, hp, pool_ix 3 (by decide), ?_⟩
    have s1 : SameBut p H (upd H p (.lst (poolL x0 x1 x2 (n + 1) bs))) := sameBut_upd
    have hp1 : (upd H p (.lst (poolL x0 x1 x2 (n + 1) bs))) p = some (.lst (poolL x0 x1 x2 (n + 1) bs)) := upd_same
    refine ⟨_, rfl, p, _, rfl, .inl (SqL.of hp1), _, _, rfl, rfl, _, rfl, ?_⟩
    refine iteD (fun c => ?_) (fun c => ?_)
    · rw [pool_len] at c
      cases bs with
      | nil => exact absurd c (by decide)
      | cons b bs =>
        have hb1 := hz b List.mem_cons_self
        have hm0 : 0 ≤ b % m := Int.emod_nonneg b (by omega)
        have hm1 : b % m < m := Int.emod_lt_of_pos b (by omega)
        have hq : 0 ≤ b / m := Int.ediv_nonneg (by omega) (by omega)
        have hz' : ∀ z ∈ bs, 1 ≤ z := fun z h => hz z (List.mem_cons_of_mem _ h)
        have hl' : bs.length + 1 ≤ 63 := hl
        refine ⟨_, rfl, p, _, 4, _, rfl, rfl, SqL.of hp1, pool_at4, .inl ⟨_, rfl, _, rfl, _, _, rfl, rfl, (by show (0 : Int) < m; omega), ?_⟩⟩
        refine ⟨_, rfl, p, _, 4, _, rfl, rfl, SqL.of hp1, pool_at4, _, rfl, _, _, rfl, rfl, ⟨by omega, h1⟩, _, rfl, p, _, _, 4, rfl, rfl, hp1, pool_ix4, ?_⟩
        have hp2 : (upd (upd H p (.lst (poolL x0 x1 x2 (n + 1) (b :: bs)))) p (.lst (poolL x0 x1 x2 (n + 1) (b / m :: bs)))) p = some (.lst (poolL x0 x1 x2 (n + 1) (b / m :: bs))) := upd_same
        refine ⟨_, rfl, p, _, 4, _, rfl, rfl, SqL.of hp2, pool_at4, rfl, _, rfl, ?_⟩
        refine iteD (fun c2 => ?_) (fun c2 => ?_)
        · refine ⟨_, rfl, .inl ⟨rfl, _, SqL.of hp2⟩, p, _, 4, 4, _, rfl, rfl, hp2, by decide, by decide, pool_seq4, rfl, ?_⟩
          exact ⟨_, rfl, k _ _ hm0 hm1 (.of (bs := bs) upd_same (by omega) hz') (s1.trans (sameBut_upd.trans sameBut_upd))⟩
        · refine ⟨_, rfl, k _ _ hm0 hm1 (.of hp2 hl fun z h => ?_) (s1.trans sameBut_upd)⟩
          rcases List.mem_cons.mp h with e | h
          · rw [e]
            have : b / m ≠ 0 := fun e => c2 (by rw [e])
            omega
          · exact hz' z h
    · refine ⟨_, rfl, p, _, 0, _, rfl, rfl, SqL.of hp1, pool_at0, _, rfl, p, _, 3, _, rfl, rfl, SqL.of hp1, pool_at3, _, _, rfl, rfl, mulL ⟨by decide, by decide⟩, _, _, rfl, rfl, .inl ⟨_, rfl, _, _, rfl, rfl, (by show (0 : Int) < 101; decide), ?_⟩⟩
      have f0 : 0 ≤ (x0 + 7 * (n + 1)) % 101 := Int.emod_nonneg _ (by decide)
      have f1 : (x0 + 7 * (n + 1)) % 101 < 101 := Int.emod_lt_of_pos _ (by decide)
      generalize (x0 + 7 * (n + 1)) % 101 = fi at f0 f1
      refine ⟨_, rfl, p, _, 1, _, rfl, rfl, SqL.of hp1, pool_at1, _, rfl, _, rfl, _, _, rfl, rfl, mulL ⟨by omega, by omega⟩, _, _, rfl, rfl, .inl ⟨_, rfl, _, _, rfl, rfl, (by show (0 : Int) < 103; decide), ?_⟩⟩
      have g0 : 0 ≤ (x1 + fi * fi) % 103 := Int.emod_nonneg _ (by decide)
      have g1 : (x1 + fi * fi) % 103 < 103 := Int.emod_lt_of_pos _ (by decide)
      generalize (x1 + fi * fi) % 103 = se at g0 g1
      refine ⟨_, rfl, p, _, 2, _, rfl, rfl, SqL.of hp1, pool_at2, _, rfl, p, _, 3, _, rfl, rfl, SqL.of hp1, pool_at3, _, _, rfl, rfl, mulL ⟨by decide, by decide⟩, _, _, rfl, rfl, _, rfl, _, rfl, _, _, rfl, rfl, mulL ⟨by omega, by omega⟩, _, _, rfl, rfl, .inl ⟨_, rfl, _, _, rfl, rfl, (by show (0 : Int) < 1009; decide), _, rfl, _, _, rfl, rfl, (by show (0 : Int) < m; omega), ?_⟩⟩
      exact k _ _ (Int.emod_nonneg _ (by omega)) (Int.emod_lt_of_pos _ (by omega)) (.of hp1 hl hz) s1
theorem ok_word (T : Txt K mg A) : FnOk P w K mg base CX0 2 A.f_word A.d_word ["_law_pool_here"] (spWord) := by
  refine T.F_word.ok sc_word (fun vs H Q E h => ?_) (fun cdv Ar outer s H vs Q E hr h => ?_)
  · obtain ⟨p, rfl, _⟩ := h
    rfl
  · obtain ⟨p, rfl, hP, k⟩ := h
    refine ⟨_, (pss_cons (ps_set (i := 1) sc_word.nd rfl (Or.inl rfl) pe_str)
        (pss_cons (ps_set (i := 2) sc_word.nd rfl (Or.inl rfl) (pe_call (ok_draw T) (hr.mono (by decide)) rfl T.g_draw T.F_draw.kp T.b_draw .nil pass0 (pa_cons (pv 0) (pa_cons pe_int pa_nil))))
        (pss_cons (ps_if (pt_cmpR op_eq (pe_call (ok_draw T) (hr.mono (by decide)) rfl T.g_draw T.F_draw.kp T.b_draw .nil pass0 (pa_cons (pv 0) (pa_cons pe_int pa_nil))) pe_int (nomark _)) (pss_one (ps_set (i := 2) sc_word.nd rfl (Or.inl rfl) (pe_op op_sub pe_int (pe_call (ok_draw T) (hr.mono (by decide)) rfl T.g_draw T.F_draw.kp T.b_draw .nil pass0 (pa_cons (pv 0) (pa_cons pe_int pa_nil)))))) pss_nil)
        (pss_cons (ps_set (i := 3) sc_word.nd rfl (Or.inl rfl) (pe_ix ix_str (pv 1) (pe_call (ok_draw T) (hr.mono (by decide)) rfl T.g_draw T.F_draw.kp T.b_draw .nil pass0 (pa_cons (pv 0) (pa_cons pe_int pa_nil))) (fun _ _ => rfl)))
        (pss_cons (ps_for PassesOwn.never rfl (pi_range1 rfl T.n_range (pa_cons (pv 2) pa_nil)) (pg_name (i := 4) sc_word.nd rfl (Or.inl rfl))
        (pss_one (ps_set (i := 3) sc_word.nd rfl (Or.inl rfl) (pe_op op_add_str (pv 3) (pe_ix ix_str (pv 1) (pe_call (ok_draw T) (hr.mono (by decide)) rfl T.g_draw T.F_draw.kp T.b_draw .nil pass0 (pa_cons (pv 0) (pa_cons pe_int pa_nil))) (fun _ _ => rfl))))))
        (pss_one (ps_ret (pv 3)))))))), ?_⟩
    refine seq3_by (fun σ' H' => ∃ (z : Int), σ' = [some (.ref p), some (.str (Str.ofString "abcdefghijklmnopqrstuvwxyz0123456789-:")), some (.int z), none, none] ∧ 0 ≤ z ∧ z ≤ 23 ∧ PoolAt H' p ∧ SameBut p H H') ?_ ?_
    · rintro σ' H1 ⟨z, rfl, hz0, hz, P1, s1⟩
      walk_at "gb go"
      rename_i r H2 h0 h1 P2 s2
      generalize hc : (wc_at h0 (show r < 38 by omega)).choose = c
      have hcl : c ∈ lets := by rw [← hc]; exact wc_lets (wc_at h0 (show r < 38 by omega)).choose_spec.1 h0 h1
      refine for_range (lo := 0) (n := z.toNat) (fun i σ H' => ∃ (w : List Nat) (v4 : Option V), σ = [some (.ref p), some (.str (Str.ofString "abcdefghijklmnopqrstuvwxyz0123456789-:")), some (.int z), some (.str (S w)), v4] ∧ WOk w ∧ w.length = i + 1 ∧ PoolAt H' p ∧ SameBut p H H') ⟨[c], none, rfl, ⟨by show 1 ≤ 24; decide, c, [], rfl, hcl, fun d h => absurd h List.not_mem_nil⟩, rfl, P2, s1.trans s2⟩ ?_ ?_
      · rintro i σ H' hi ⟨w, v4, rfl, hw, hwl, P', s'⟩
        have hi2 : i < 23 := by omega
        have hsw : (S w).length = i + 1 := by rw [S_len, hwl]
        walk_at "gb go"
        rename_i r2 H3 g0 g1 P3 s3
        have hcw := (wc_at g0 g1).choose_spec.2
        generalize (wc_at g0 g1).choose = c2 at hcw ⊢
        obtain ⟨q1, c0, rr, rfl, q2, q3⟩ := hw
        refine ⟨(c0 :: rr) ++ [c2], some (.int (0 + (i : Int))), ?_, ⟨by rw [List.length_append]; show _ + 1 ≤ 24; omega, c0, rr ++ [c2], rfl, q2, fun d hd => ?_⟩, by rw [List.length_append, hwl]; rfl, P3, s'.trans s3⟩
        · rw [← S_cat]; rfl
        · rcases List.mem_append.mp hd with h | h
          · exact q3 d h
          · rw [List.mem_singleton.mp h]; exact hcw
      · rintro σ H' ⟨w, v4, rfl, hw, hwl, P', s'⟩
        walk_at "gb go"
        exact k w H' hw P' s'
    · intro N hN
      walk_at "gb go"
      · rename_i r1 H1 _ _ P1 s1 r2 H2 _ _ P2 s2 hq r3 H3 g0 g1 P3 s3
        exact hN _ _ ⟨23 - r3, rfl, by omega, by omega, P3, (s1.trans s2).trans s3⟩
      · rename_i r1 H1 _ _ P1 s1 r2 H2 _ _ P2 s2 hq
        exact hN _ _ ⟨r1, rfl, by omega, by omega, P2, s1.trans s2⟩
theorem ok_integer (T : Txt K mg A) : FnOk P w K mg base CX0 2 A.f_integer A.d_integer ["_law_pool_here"] (spInteger) := by
  refine T.F_integer.ok sc_integer (fun vs H Q E h => ?_) (fun cdv Ar outer s H vs Q E hr h => ?_)
  · obtain ⟨p, rfl, _⟩ := h
    rfl
  · obtain ⟨p, rfl, hP, k⟩ := h
    refine ⟨_, (pss_cons (ps_set (i := 1) sc_integer.nd rfl (Or.inl rfl) (pe_call (ok_draw T) (hr.mono (by decide)) rfl T.g_draw T.F_draw.kp T.b_draw .nil pass0 (pa_cons (pv 0) (pa_cons pe_int pa_nil))))
        (pss_cons (ps_set (i := 2) sc_integer.nd rfl (Or.inl rfl) (pe_call (ok_draw T) (hr.mono (by decide)) rfl T.g_draw T.F_draw.kp T.b_draw .nil pass0 (pa_cons (pv 0) (pa_cons pe_int pa_nil))))
        (pss_cons (ps_set (i := 3) sc_integer.nd rfl (Or.inl rfl) pe_int)
        (pss_cons (ps_if (pt_cmpR op_eq (pv 1) pe_int (nomark _)) (pss_one (ps_set (i := 3) sc_integer.nd rfl (Or.inl rfl) (pe_op op_add pe_int (pe_call (ok_draw T) (hr.mono (by decide)) rfl T.g_draw T.F_draw.kp T.b_draw .nil pass0 (pa_cons (pv 0) (pa_cons pe_int pa_nil)))))) pss_nil)
        (pss_cons (ps_if (pt_cmpR op_eq (pv 1) pe_int (nomark _)) (pss_one (ps_set (i := 3) sc_integer.nd rfl (Or.inl rfl) (pe_op op_add pe_int (pe_call (ok_draw T) (hr.mono (by decide)) rfl T.g_draw T.F_draw.kp T.b_draw .nil pass0 (pa_cons (pv 0) (pa_cons pe_int pa_nil)))))) pss_nil)
        (pss_cons (ps_for PassesOwn.never rfl (pi_range1 rfl T.n_range (pa_cons (pv 3) pa_nil)) (pg_name (i := 4) sc_integer.nd rfl (Or.inl rfl))
        (pss_one (ps_set (i := 2) sc_integer.nd rfl (Or.inl rfl) (pe_op op_add (pe_op op_mulX (pv 2) pe_int) (pe_call (ok_draw T) (hr.mono (by decide)) rfl T.g_draw T.F_draw.kp T.b_draw .nil pass0 (pa_cons (pv 0) (pa_cons pe_int pa_nil)))))))
        (pss_cons (ps_if (pt_cmpR op_eq (pv 1) pe_int (nomark _)) (pss_one (ps_set (i := 2) sc_integer.nd rfl (Or.inl rfl) (pe_callTy call_int_str (by rfl) T.n_int (by decide +kernel) (pa_cons (pe_op op_mul_str pe_str (pe_op op_add pe_int (pe_call (ok_draw T) (hr.mono (by decide)) rfl T.g_draw T.F_draw.kp T.b_draw .nil pass0 (pa_cons (pv 0) (pa_cons pe_int pa_nil))))) pa_nil)))) pss_nil)
        (pss_one (ps_ret (pe_op op_mulX (pv 2) (pe_op op_sub pe_int (pe_op op_mulX pe_int (pe_call (ok_draw T) (hr.mono (by decide)) rfl T.g_draw T.F_draw.kp T.b_draw .nil pass0 (pa_cons (pv 0) (pa_cons pe_int pa_nil))))))))))))))), ?_⟩
    refine seq5_by (fun σ' H' => ∃ (w n c : Int), σ' = [some (.ref p), some (.int w), some (.int n), some (.int c), none] ∧ 0 ≤ n ∧ n < 12 ∧ 0 ≤ c ∧ c ≤ 66 ∧ PoolAt H' p ∧ SameBut p H H') ?_ ?_
    · rintro σ' H1 ⟨wy, nn, cc, rfl, hn0, hn1, hc0, hc1, P1, s1⟩
      refine seq1_by (fun σ' H' => ∃ (n : Int) (v4 : Option V), σ' = [some (.ref p), some (.int wy), some (.int n), some (.int cc), v4] ∧ 0 ≤ n ∧ n < 12 * 1000 ^ 66 ∧ PoolAt H' p ∧ SameBut p H H') ?_ ?_
      · rintro σ' H2 ⟨n2, v4, rfl, hm0, hm1, P2, s2⟩
        walk_at "gb go"
        · rename_i hw r1 H3 a0 a1 P3 s3 r2 H4 b0 b1 P4 s4
          exact k _ _ (sgn_abs (nine a0 a1).2.choose_spec.2.1 b0 b1) P4 (s2.trans (s3.trans s4))
        · rename_i hw r2 H4 b0 b1 P4 s4
          have hb : n2.natAbs < 10 ^ 200 := by
            have : (12 : Int) * 1000 ^ 66 < 10 ^ 200 := by decide +kernel
            omega
          exact k _ _ (sgn_abs hb b0 b1) P4 (s2.trans s4)
      · intro N hN
        walk_at "gb go"
        refine for_range (lo := 0) (n := cc.toNat) (fun i σ H' => ∃ (n : Int) (v4 : Option V), σ = [some (.ref p), some (.int wy), some (.int n), some (.int cc), v4] ∧ 0 ≤ n ∧ n < 12 * 1000 ^ i ∧ PoolAt H' p ∧ SameBut p H H') ⟨nn, none, rfl, hn0, by rw [Int.pow_zero]; omega, P1, s1⟩ ?_ ?_
        · rintro i σ H' hi ⟨n2, v4, rfl, hm0, hm1, P2, s2⟩
          walk_at "gb go"
          skip
        · rintro σ H' ⟨n2, v4, rfl, hm0, hm1, P2, s2⟩
          refine hN _ _ ⟨n2, v4, rfl, hm0, Int.lt_of_lt_of_le hm1 ?_, P2, s2⟩
          have : (1000 : Int) ^ cc.toNat ≤ 1000 ^ 66 := by exact_mod_cast Nat.pow_le_pow_right (n := 1000) (by decide) (show cc.toNat ≤ 66 by omega)
          omega
    · intro N hN
      walk_at "gb go"
      · rename_i r1 H1 _ _ P1 s1 r2 H2 _ _ P2 s2 hq r3 H3 g0 g1 P3 s3 hq2
        exact hN _ _ ⟨r1, r2, 1 + r3, rfl, by omega, by omega, by omega, by omega, P3, (s1.trans s2).trans s3⟩
      · rename_i r1 H1 _ _ P1 s1 r2 H2 _ _ P2 s2 hq hq2 r3 H3 g0 g1 P3 s3
        exact hN _ _ ⟨r1, r2, 1 + r3, rfl, by omega, by omega, by omega, by omega, P3, (s1.trans s2).trans s3⟩
      · rename_i r1 H1 _ _ P1 s1 r2 H2 _ _ P2 s2 hq hq2
        exact hN _ _ ⟨r1, r2, 0, rfl, by omega, by omega, by omega, by omega, P2, s1.trans s2⟩
theorem ok_leaf (T : Txt K mg A) : FnOk P w K mg base CX0 3 A.f_leaf A.d_leaf ["_law_pool_here"] (spLeaf) := by
  refine T.F_leaf.ok sc_leaf (fun vs H Q E h => ?_) (fun cdv Ar outer s H vs Q E hr h => ?_)
  · obtain ⟨p, rfl, _⟩ := h
    rfl
  · obtain ⟨p, rfl, hP, k⟩ := h
    refine ⟨_, (pss_cons (ps_set (i := 1) sc_leaf.nd rfl (Or.inl rfl) (pe_call (ok_draw T) (hr.mono (by decide)) rfl T.g_draw T.F_draw.kp T.b_draw .nil pass0 (pa_cons (pv 0) (pa_cons pe_int pa_nil))))
        (pss_cons (ps_if (pt_cmpR op_eq (pv 1) pe_int (nomark _)) (pss_one (ps_ret pe_non)) pss_nil)
        (pss_cons (ps_if (pt_cmpR op_eq (pv 1) pe_int (nomark _)) (pss_one (ps_ret (pe_call (ok_word T) (hr.mono (by decide)) rfl T.g_word T.F_word.kp T.b_word .nil pass0 (pa_cons (pv 0) pa_nil)))) pss_nil)
        (pss_one (ps_ret (pe_call (ok_integer T) (hr.mono (by decide)) rfl T.g_integer T.F_integer.kp T.b_integer .nil pass0 (pa_cons (pv 0) pa_nil))))))), ?_⟩
    walk_at "gb go"
    · rename_i r H1 h0 h1 P1 s1 c
      exact k .non .non H1 (.inl ⟨rfl, rfl⟩) P1 s1
    · rename_i r H1 h0 h1 P1 s1 c1 c2 w H2 hw P2 s2
      exact k (.wrd w) _ H2 (.inr (.inl ⟨w, rfl, hw, rfl⟩)) P2 (s1.trans s2)
    · rename_i r H1 h0 h1 P1 s1 c1 c2 i H2 hi P2 s2
      exact k (.num i) _ H2 (.inr (.inr ⟨i, rfl, hi, rfl⟩)) P2 (s1.trans s2)
theorem ok_close (T : Txt K mg A) : FnOk P w K mg base CX0 1 A.f_close A.d_close ["_law_rows", "_law_texts"] (spClose) := by
  refine T.F_close.ok sc_close (fun vs H Q E h => ?_) (fun cdv Ar outer s H vs Q E hr h => ?_)
  · obtain ⟨a, b, l, m, ls, rfl, _⟩ := h
    rfl
  · obtain ⟨a, b, l, m, ls, rfl, hS, hW, hls, k⟩ := h
    refine ⟨_, (pss_cons (ps_set (i := 2) sc_close.nd rfl (Or.inl rfl) (pe_callTy call_tuple_of (by rfl) T.n_tuple (by decide +kernel) (pa_cons (pe_bm0 PySem.F.plainAttrs_list PySem.F.slot_list_pop PySem.F.type_list_pop mt_pop (pv 0)) pa_nil)))
        (pss_cons (ps_set (i := 3) sc_close.nd rfl (Or.inl rfl) (pe_op op_add_str (pe_op op_add_str pe_str (pe_join pe_str (pe_bm0 PySem.F.plainAttrs_list PySem.F.slot_list_pop PySem.F.type_list_pop mt_pop (pv 1)))) pe_str))
        (pss_cons (ps_expr (pe_bm PySem.F.plainAttrs_list PySem.F.slot_list_append PySem.F.type_list_append mt_append (pe_ix (ix_listK K) (pv 0) (pe_un un_neg pe_int) (fun _ _ => rfl)) (pa_cons (pv 2) pa_nil)))
        (pss_one (ps_expr (pe_bm PySem.F.plainAttrs_list PySem.F.slot_list_append PySem.F.type_list_append mt_append (pe_ix (ix_listK K) (pv 1) (pe_un un_neg pe_int) (fun _ _ => rfl)) (pa_cons (pv 3) pa_nil))))))), ?_⟩
    obtain ⟨ha, hb, hok, hnd⟩ := hS
    have hL := hok l List.mem_cons_self
    have hM := hok m (List.mem_cons_of_mem _ List.mem_cons_self)
    obtain ⟨⟨vl, hlr, hlN⟩, hlt⟩ := id hL
    obtain ⟨⟨vm, hmr, hmN⟩, hmt⟩ := id hM
    have hnd2 := hnd
    simp only [adrs, List.nodup_cons, List.mem_cons, not_or] at hnd2
    obtain ⟨⟨nab, na1, na2, na3, na4, na5⟩, ⟨nb1, nb2, nb3, nb4, nb5⟩, ⟨n1, n2, n3, n4⟩, ⟨n5, n6, n7⟩, ⟨n8, n9⟩, n10, hnd3⟩ := hnd2
    generalize hRA : ls.reverse.map (fun l => V.ref l.r) = RA at *
    generalize hRB : ls.reverse.map (fun l => V.ref l.t) = RB at *
    have ha : H a = some (.lst (RA ++ [.ref m.r, .ref l.r])) := by rw [ha, ← hRA]; simp
    have hb : H b = some (.lst (RB ++ [.ref m.t, .ref l.t])) := by rw [hb, ← hRB]; simp
    have x1 := last_two RA (V.ref m.r) (V.ref l.r)
    have x2 := last_two RB (V.ref m.t) (V.ref l.t)
    obtain ⟨x11, x12, x13⟩ := x1
    obtain ⟨x21, x22, x23⟩ := x2
    obtain ⟨g2, g3, g4⟩ := join_facts (ns := l.ns) (by have := txts_le_more l.ns; simp only [Wt] at hW; omega)
    have hmm := more_len m.ns
    have hvm := hmN.len
    have q1 : vm.length < sizeLine := by rw [hvm, sizeLine_eq]; simp only [Wt] at hW; omega
    have q2 : ((txs m.ns).map V.str).length < sizeLine := by rw [List.length_map, txs_len, sizeLine_eq]; simp only [Wt] at hW; omega
    walk_at "gb go"
    rename_i T hT
    have hT0 : H T = none := by
      by_cases e : T = a
      · rw [e, upd_same] at hT; cases hT
      · rw [upd_ne e] at hT; exact hT
    have frame : ∀ c o, c ≠ a → c ≠ b → c ≠ m.r → c ≠ m.t → H c = some o → upd (upd (upd (upd (upd H a (.lst (RA ++ [V.ref m.r, V.ref l.r]).dropLast)) T (.tup vl)) b (.lst (RB ++ [V.ref m.t, V.ref l.t]).dropLast)) m.r (.lst (vm ++ [V.ref T]))) m.t (.lst (List.map V.str (txs m.ns) ++ [V.str (Str.ofString "(" ++ Txt.join (Str.ofString " ") (txs l.ns) ++ Str.ofString ")")])) c = some o := by
      intro c o c1 c2 c3 c4 e
      rw [upd_ne c4, upd_ne c3, upd_ne c2, upd_ne (ne_of_none e hT0), upd_ne c1]
      exact e
    have tp : Tups H (upd (upd (upd (upd (upd H a (.lst (RA ++ [V.ref m.r, V.ref l.r]).dropLast)) T (.tup vl)) b (.lst (RB ++ [V.ref m.t, V.ref l.t]).dropLast)) m.r (.lst (vm ++ [V.ref T]))) m.t (.lst (List.map V.str (txs m.ns) ++ [V.str (Str.ofString "(" ++ Txt.join (Str.ofString " ") (txs l.ns) ++ Str.ofString ")")]))) :=
      tups_put (xs := (txs m.ns).map V.str) (tups_put (xs := vm) (tups_put (xs := RB ++ [V.ref m.t, V.ref l.t]) (tups_nw (tups_put Tups.refl ha) hT) (by walk_at "gb hp")) (by walk_at "gb hp")) (by walk_at "gb hp")
    have e1 : upd (upd (upd (upd (upd H a (.lst (RA ++ [V.ref m.r, V.ref l.r]).dropLast)) T (.tup vl)) b (.lst (RB ++ [V.ref m.t, V.ref l.t]).dropLast)) m.r (.lst (vm ++ [V.ref T]))) m.t (.lst (List.map V.str (txs m.ns) ++ [V.str (Str.ofString "(" ++ Txt.join (Str.ofString " ") (txs l.ns) ++ Str.ofString ")")])) a = some (.lst (RA ++ [V.ref m.r, V.ref l.r]).dropLast) := by walk_at "gb hp"
    have e2 : upd (upd (upd (upd (upd H a (.lst (RA ++ [V.ref m.r, V.ref l.r]).dropLast)) T (.tup vl)) b (.lst (RB ++ [V.ref m.t, V.ref l.t]).dropLast)) m.r (.lst (vm ++ [V.ref T]))) m.t (.lst (List.map V.str (txs m.ns) ++ [V.str (Str.ofString "(" ++ Txt.join (Str.ofString " ") (txs l.ns) ++ Str.ofString ")")])) b = some (.lst (RB ++ [V.ref m.t, V.ref l.t]).dropLast) := by walk_at "gb hp"
    have e3 : upd (upd (upd (upd (upd H a (.lst (RA ++ [V.ref m.r, V.ref l.r]).dropLast)) T (.tup vl)) b (.lst (RB ++ [V.ref m.t, V.ref l.t]).dropLast)) m.r (.lst (vm ++ [V.ref T]))) m.t (.lst (List.map V.str (txs m.ns) ++ [V.str (Str.ofString "(" ++ Txt.join (Str.ofString " ") (txs l.ns) ++ Str.ofString ")")])) m.r = some (.lst (vm ++ [V.ref T])) := by walk_at "gb hp"
    have e4 : upd (upd (upd (upd (upd H a (.lst (RA ++ [V.ref m.r, V.ref l.r]).dropLast)) T (.tup vl)) b (.lst (RB ++ [V.ref m.t, V.ref l.t]).dropLast)) m.r (.lst (vm ++ [V.ref T]))) m.t (.lst (List.map V.str (txs m.ns) ++ [V.str (Str.ofString "(" ++ Txt.join (Str.ofString " ") (txs l.ns) ++ Str.ofString ")")])) m.t = some (.lst (List.map V.str (txs m.ns) ++ [V.str (Str.ofString "(" ++ Txt.join (Str.ofString " ") (txs l.ns) ++ Str.ofString ")")])) := upd_same
    have e5 : upd (upd (upd (upd (upd H a (.lst (RA ++ [V.ref m.r, V.ref l.r]).dropLast)) T (.tup vl)) b (.lst (RB ++ [V.ref m.t, V.ref l.t]).dropLast)) m.r (.lst (vm ++ [V.ref T]))) m.t (.lst (List.map V.str (txs m.ns) ++ [V.str (Str.ofString "(" ++ Txt.join (Str.ofString " ") (txs l.ns) ++ Str.ofString ")")])) T = some (.tup vl) := by walk_at "gb hp"
    generalize upd (upd (upd (upd (upd H a (.lst (RA ++ [V.ref m.r, V.ref l.r]).dropLast)) T (.tup vl)) b (.lst (RB ++ [V.ref m.t, V.ref l.t]).dropLast)) m.r (.lst (vm ++ [V.ref T]))) m.t (.lst (List.map V.str (txs m.ns) ++ [V.str (Str.ofString "(" ++ Txt.join (Str.ofString " ") (txs l.ns) ++ Str.ofString ")")])) = HF at *
    refine k HF (stk_cons e1 e2 (by rw [x13, ← hRA]) (by rw [x23, ← hRB]) ⟨⟨_, e3, NotesAt.snoc (n := .tup l.ns) (v := .ref T) (show NoteAt HF (.tup l.ns) (.ref T) from ⟨T, vl, rfl, e5, hlN.mono tp⟩) (hmN.mono tp)⟩, ?_⟩ ?_ ?_) frame
    · rw [e4, tup_txt]
      simp [txs]
    · intro x hx
      obtain ⟨y1, y2⟩ := mem_adrs hx
      have out : ∀ c o, c ∈ adrs ls → H c = some o → HF c = some o := fun c o hc => frame c o (fun e => na5 (e ▸ hc)) (fun e => nb5 (e ▸ hc)) (fun e => n9 (e ▸ hc)) (fun e => n10 (e ▸ hc))
      exact (hok x (List.mem_cons_of_mem _ (List.mem_cons_of_mem _ hx))).keep (fun o => out x.r o y1) (fun o => out x.t o y2) tp
    · simp only [adrs, List.nodup_cons, List.mem_cons, not_or]
      exact ⟨⟨nab, na3, na4, na5⟩, ⟨nb3, nb4, nb5⟩, ⟨n8, n9⟩, n10, hnd3⟩
theorem ok_note (T : Txt K mg A) : FnOk P w K mg base CX0 4 A.f_note A.d_note ["_law_pool_here"] (spNote) := by
  refine T.F_note.ok sc_note (fun vs H Q E h => ?_) (fun cdv Ar outer s H vs Q E hr h => ?_)
  · obtain ⟨p, rfl, _⟩ := h
    rfl
  · obtain ⟨p, rfl, hP, k⟩ := h
    refine ⟨_, (pss_cons (ps_set (i := 1) sc_note.nd rfl (Or.inl rfl) (pe_lst (pa_cons (pe_lst pa_nil) pa_nil)))
        (pss_cons (ps_set (i := 2) sc_note.nd rfl (Or.inl rfl) (pe_lst (pa_cons (pe_lst pa_nil) pa_nil)))
        (pss_cons (ps_if (pt_cmpR op_eq (pe_call (ok_draw T) (hr.mono (by decide)) rfl T.g_draw T.F_draw.kp T.b_draw .nil pass0 (pa_cons (pv 0) (pa_cons pe_int pa_nil))) pe_int (nomark _)) (pss_one (ps_for PassesOwn.never rfl (pi_range1 rfl T.n_range (pa_cons (pe_op op_sub pe_int (pe_call (ok_draw T) (hr.mono (by decide)) rfl T.g_draw T.F_draw.kp T.b_draw .nil pass0 (pa_cons (pv 0) (pa_cons pe_int pa_nil)))) pa_nil)) (pg_name (i := 4) sc_note.nd rfl (Or.inl rfl))
        (pss_cons (ps_expr (pe_bm PySem.F.plainAttrs_list PySem.F.slot_list_append PySem.F.type_list_append mt_append (pv 1) (pa_cons (pe_lst pa_nil) pa_nil)))
        (pss_one (ps_expr (pe_bm PySem.F.plainAttrs_list PySem.F.slot_list_append PySem.F.type_list_append mt_append (pv 2) (pa_cons (pe_lst pa_nil) pa_nil))))))) pss_nil)
        (pss_cons (ps_set (i := 3) sc_note.nd rfl (Or.inl rfl) (pe_call (ok_draw T) (hr.mono (by decide)) rfl T.g_draw T.F_draw.kp T.b_draw .nil pass0 (pa_cons (pv 0) (pa_cons pe_int pa_nil))))
        (pss_cons (ps_if (pt_cmpR op_eq (pe_call (ok_draw T) (hr.mono (by decide)) rfl T.g_draw T.F_draw.kp T.b_draw .nil pass0 (pa_cons (pv 0) (pa_cons pe_int pa_nil))) pe_int (nomark _)) (pss_one (ps_set (i := 3) sc_note.nd rfl (Or.inl rfl) (pe_op op_add (pv 3) pe_int))) pss_nil)
        (pss_cons (ps_for PassesOwn.never rfl (pi_range1 rfl T.n_range (pa_cons (pv 3) pa_nil)) (pg_name (i := 4) sc_note.nd rfl (Or.inl rfl))
        (pss_cons (ps_set (i := 5) sc_note.nd rfl (Or.inl rfl) (pe_call (ok_draw T) (hr.mono (by decide)) rfl T.g_draw T.F_draw.kp T.b_draw .nil pass0 (pa_cons (pv 0) (pa_cons pe_int pa_nil))))
        (pss_one (ps_if (PW.pt (pw_and (pt_cmpR op_eq (pv 5) pe_int (nomark _)) (pw_and1 (pt_cmpR op_lt (pe_callB (call_len_seqK K) (by rfl) T.n_len (by decide +kernel) (pa_cons (pv 1) pa_nil)) pe_int (nomark _))))) (pss_cons (ps_expr (pe_bm PySem.F.plainAttrs_list PySem.F.slot_list_append PySem.F.type_list_append mt_append (pv 1) (pa_cons (pe_lst pa_nil) pa_nil)))
        (pss_one (ps_expr (pe_bm PySem.F.plainAttrs_list PySem.F.slot_list_append PySem.F.type_list_append mt_append (pv 2) (pa_cons (pe_lst pa_nil) pa_nil))))) (pss_one (ps_if (PW.pt (pw_and (pt_cmpR op_eq (pv 5) pe_int (nomark _)) (pw_and1 (pt_cmpR op_gt (pe_callB (call_len_seqK K) (by rfl) T.n_len (by decide +kernel) (pa_cons (pv 1) pa_nil)) pe_int (nomark _))))) (pss_one (ps_expr (pe_call (ok_close T) (hr.mono (by decide)) rfl T.g_close T.F_close.kp T.b_close .nil pass0 (pa_cons (pv 1) (pa_cons (pv 2) pa_nil))))) (pss_cons (ps_set (i := 6) sc_note.nd rfl (Or.inl rfl) (pe_call (ok_leaf T) (hr.mono (by decide)) rfl T.g_leaf T.F_leaf.kp T.b_leaf .nil pass0 (pa_cons (pv 0) pa_nil)))
        (pss_cons (ps_expr (pe_bm PySem.F.plainAttrs_list PySem.F.slot_list_append PySem.F.type_list_append mt_append (pe_ix (ix_listK K) (pv 1) (pe_un un_neg pe_int) (fun _ _ => rfl)) (pa_cons (pv 6) pa_nil)))
        (pss_one (ps_if (pt_cmpR op_isN (pv 6) pe_non (nomark _)) (pss_one (ps_expr (pe_bm PySem.F.plainAttrs_list PySem.F.slot_list_append PySem.F.type_list_append mt_append (pe_ix (ix_listK K) (pv 2) (pe_un un_neg pe_int) (fun _ _ => rfl)) (pa_cons pe_str pa_nil)))) (pss_one (ps_expr (pe_bm PySem.F.plainAttrs_list PySem.F.slot_list_append PySem.F.type_list_append mt_append (pe_ix (ix_listK K) (pv 2) (pe_un un_neg pe_int) (fun _ _ => rfl)) (pa_cons (pe_callTy call_str2 (by rfl) T.n_str (by decide +kernel) (pa_cons (pv 6) pa_nil)) pa_nil))))))))))))))
        (pss_cons (ps_for PassesOwn.never rfl (pi_range1 rfl T.n_range (pa_cons (pe_op op_sub (pe_callB (call_len_seqK K) (by rfl) T.n_len (by decide +kernel) (pa_cons (pv 1) pa_nil)) pe_int) pa_nil)) (pg_name (i := 4) sc_note.nd rfl (Or.inl rfl))
        (pss_one (ps_expr (pe_call (ok_close T) (hr.mono (by decide)) rfl T.g_close T.F_close.kp T.b_close .nil pass0 (pa_cons (pv 1) (pa_cons (pv 2) pa_nil))))))
        (pss_cons (ps_if (PW.pt (pw_and (pt_cmpR op_eq (pe_callB (call_len_seqK K) (by rfl) T.n_len (by decide +kernel) (pa_cons (pe_ix (ix_listK K) (pv 1) pe_int (fun _ _ => rfl)) pa_nil)) pe_int (nomark _)) (pw_and1 (pt_cmpR op_eq (pe_call (ok_draw T) (hr.mono (by decide)) rfl T.g_draw T.F_draw.kp T.b_draw .nil pass0 (pa_cons (pv 0) (pa_cons pe_int pa_nil))) pe_int (nomark _))))) (pss_one (ps_ret (pe_tup (pa_cons (pe_ix (ix_listK K) (pe_ix (ix_listK K) (pv 1) pe_int (fun _ _ => rfl)) pe_int (fun _ _ => rfl)) (pa_cons (pe_ix (ix_listK K) (pe_ix (ix_listK K) (pv 2) pe_int (fun _ _ => rfl)) pe_int (fun _ _ => rfl)) pa_nil))))) pss_nil)
        (pss_one (ps_ret (pe_tup (pa_cons (pe_callTy call_tuple_of (by rfl) T.n_tuple (by decide +kernel) (pa_cons (pe_ix (ix_listK K) (pv 1) pe_int (fun _ _ => rfl)) pa_nil)) (pa_cons (pe_op op_add_str (pe_op op_add_str pe_str (pe_join pe_str (pe_ix (ix_listK K) (pv 2) pe_int (fun _ _ => rfl)))) pe_str) pa_nil))))))))))))), ?_⟩
    refine seq3_by (fun σ' H' => ∃ (a b : Addr) (ls : List Lv) (v4 : Option V), σ' = [some (.ref p), some (.ref a), some (.ref b), none, v4, none, none] ∧ NS H H' p a b ls 300) ?_ ?_
    · rintro σ' H1 ⟨a, b, ls, v4, rfl, n1⟩
      refine seq2_by (fun σ' H' => ∃ (mn : Int), σ' = [some (.ref p), some (.ref a), some (.ref b), some (.int mn), v4, none, none] ∧ 0 ≤ mn ∧ mn ≤ 63 ∧ NS H H' p a b ls 300) ?_ ?_
      · rintro σ' H2 ⟨mn, rfl, m0, m1, n2⟩
        clear n1
        refine seq1_by (fun σ' H' => ∃ (ls : List Lv) (v4 v5 v6 : Option V), σ' = [some (.ref p), some (.ref a), some (.ref b), some (.int mn), v4, v5, v6] ∧ NS H H' p a b ls 20000) ?_ ?_
        · clear n2 H2 ls v4
          rintro σ' H3 ⟨ls, v4, v5, v6, rfl, n3⟩
          refine seq1_by (fun σ' H' => ∃ (l : Lv) (v4 v5 v6 : Option V), σ' = [some (.ref p), some (.ref a), some (.ref b), some (.int mn), v4, v5, v6] ∧ NS H H' p a b [l] 20000) ?_ ?_
          · clear n3 H3 ls v4 v5 v6
            rintro σ' H4 ⟨l, v4, v5, v6, rfl, n4⟩
            obtain ⟨RA, RB, e1, e2, ha, hb, _, _⟩ := n4.stk.ends
            have P4 := n4.pool
            obtain ⟨⟨vs, hr2, hN⟩, ht⟩ := n4.stk.ok l List.mem_cons_self
            obtain rfl : RA = [] := e1
            obtain rfl : RB = [] := e2
            have ha : H4 a = some (.lst [.ref l.r]) := ha
            have hb : H4 b = some (.lst [.ref l.t]) := hb
            have nap := (n4.fr a (by simp)).2
            have nbp := (n4.fr b (by simp)).2
            have nrp := (n4.fr l.r (by simp [adrs])).2
            have ntp := (n4.fr l.t (by simp [adrs])).2
            have sH := n4.but
            obtain ⟨hoks, hdeps, hall, hsz, hsz2⟩ := n4.fin
            obtain ⟨g2, g3, g4⟩ := join_facts (ns := l.ns) (by omega)
            obtain ⟨x1, x2, x3, x4, xs, hpp, _, _⟩ := n4.pool
            have whole : ∀ (Hx : Hp) (T q : Addr), PoolAt Hx p → SameBut p H4 Hx → Hx T = none → upd Hx T (.tup vs) q = none → Q (.ref q) (upd (upd Hx T (.tup vs)) q (.tup [.ref T, .str (Str.ofString "(" ++ Txt.join (Str.ofString " ") (txs l.ns) ++ Str.ofString ")")])) := by
              intro Hx T q Px sx hT hq
              have sT := (same_new (o := .tup vs) hT).trans (same_new (o := .tup [.ref T, .str (Str.ofString "(" ++ Txt.join (Str.ofString " ") (txs l.ns) ++ Str.ofString ")")]) hq)
              exact k q (.ref T) (.tup l.ns) _ (by rw [upd_same, tup_txt]) ⟨T, vs, rfl, upd_fr upd_same hq, hN.mono ((tups_but sx hpp).trans (tups_same sT))⟩ hoks hdeps (by omega) (Px.mono sT) ((sH.trans sx).trans sT.but)
            rcases vs with _ | ⟨v0, _ | ⟨v1, vr⟩⟩
            · walk_at "gb go"
              rename_i T hT q hq
              exact whole _ T q P4 SameBut.refl hT hq
            · have hx0 : ∃ n0, l.ns = [n0] ∧ NoteAt H4 n0 v0 := by
                have := hN.len
                cases hns : l.ns with
                | nil => rw [hns] at this; simp at this
                | cons n0 r =>
                  rw [hns] at hN
                  obtain ⟨v, r', e, h1, h2⟩ := hN
                  injection e with e1 e2
                  subst e1 e2
                  cases r with
                  | nil => exact ⟨n0, rfl, h1⟩
                  | cons _ _ => obtain ⟨_, _, e, _⟩ := h2; cases e
              obtain ⟨n0, hns, hn0⟩ := hx0
              have ht0 : H4 l.t = some (.lst [V.str (S n0.txt)]) := by rw [ht, hns]; rfl
              obtain ⟨o1, o2, o3⟩ := hall n0 (by rw [hns]; exact List.mem_cons_self)
              have hz : atI [v0] 0 = some v0 := atI_nat (j := 0) rfl
              have hz2 : atI [V.str (S n0.txt)] 0 = some (V.str (S n0.txt)) := atI_nat (j := 0) rfl
              have hz3 : atI [V.ref l.r] 0 = some (V.ref l.r) := atI_nat (j := 0) rfl
              have hz4 : atI [V.ref l.t] 0 = some (V.ref l.t) := atI_nat (j := 0) rfl
              walk_at "gb go"
              · rename_i hq0 r1 H5 c0 c1 P5 s5 hq1 q hq
                exact k q v0 n0 _ upd_same (hn0.mono ((tups_but s5 hpp).trans (tups_same (same_new hq)))) o1 o2 (by omega) (P5.mono (same_new hq)) ((sH.trans s5).trans (same_new hq).but)
              · rename_i hq0 r1 H5 c0 c1 P5 s5 hq1 T hT q hq
                exact whole _ T q P5 s5 hT hq
            · have hlen2 : ¬ (((v0 :: v1 :: vr).length : Nat) : Int) = 1 := by simp; omega
              walk_at "gb go"
              rename_i hq0 T hT q hq
              exact whole _ T q P4 SameBut.refl hT hq
          · intro N hN
            have ha := n3.stk.ha
            have hlen : (ls.reverse.map fun l => V.ref l.r).length = ls.length := by simp
            have hl2 := n3.len
            have hl1 := n3.ne
            walk_at "gb go"
            refine for_range (lo := 0) (n := (((ls.reverse.map fun l => V.ref l.r).length : Int) - 1).toNat) (fun i σ H' => ∃ (ms : List Lv) (v4 v5 v6 : Option V), σ = [some (.ref p), some (.ref a), some (.ref b), some (.int mn), v4, v5, v6] ∧ NS H H' p a b ms 20000 ∧ ms.length + i = ls.length) ⟨ls, v4, v5, v6, rfl, n3, rfl⟩ ?_ ?_
            · clear n3 ha v4 v5 v6
              rintro i σ H4 hi ⟨ms, v4, v5, v6, rfl, n4, hml⟩
              obtain ⟨l, m, rest, rfl⟩ : ∃ l m rest, ms = l :: m :: rest := by
                rcases ms with _ | ⟨l, _ | ⟨m, rest⟩⟩
                · simp at hml; omega
                · simp at hml; omega
                · exact ⟨l, m, rest, rfl⟩
              have hS := n4.stk
              have hw : Wt (l :: m :: rest) ≤ 1000000 := by have := n4.wt; omega
              have hrl : rest.length ≤ 200 := by have := n4.len; simp at this; omega
              walk_at "gb go"
              rename_i H5 hS5 f5
              exact ⟨_, _, _, _, rfl, n4.close hS5 f5, by simp at hml ⊢; omega⟩
            · rintro σ H4 ⟨ms, v4, v5, v6, rfl, n4, hml⟩
              rcases ms with _ | ⟨l, _ | ⟨m, rest⟩⟩
              · have := n4.ne; simp at this
              · exact hN _ _ ⟨l, v4, v5, v6, rfl, n4⟩
              · simp at hml; omega
        · intro N hN
          walk_at "gb go"
          refine for_range (lo := 0) (n := mn.toNat) (fun i σ H' => ∃ (ls : List Lv) (v4 v5 v6 : Option V), σ = [some (.ref p), some (.ref a), some (.ref b), some (.int mn), v4, v5, v6] ∧ NS H H' p a b ls (300 + 202 * i)) ⟨ls, v4, none, none, rfl, n2⟩ ?_ ?_
          · clear n2 H2 ls v4
            rintro i σ H3 hi ⟨ls, v4, v5, v6, rfl, n3⟩
            obtain ⟨l, ls', rfl⟩ : ∃ l ls', ls = l :: ls' := by
              cases ls with
              | nil => exact absurd n3.ne (by decide)
              | cons l ls' => exact ⟨l, ls', rfl⟩
            have P3 := n3.pool
            refine seq1_by (fun σ' H' => ∃ (wy : Int) (v6 : Option V), σ' = [some (.ref p), some (.ref a), some (.ref b), some (.int mn), some (.int (0 + (i : Int))), some (.int wy), v6] ∧ NS H H' p a b (l :: ls') (300 + 202 * i)) ?_ ?_
            · clear P3 n3 H3 v4 v5 v6
              rintro σ H4 ⟨wy, v6, rfl, n4⟩
              have P4 := n4.pool
              obtain ⟨RA, RB, e1, e2, ha, hb, la, lb⟩ := n4.stk.ends
              have nab : a ≠ b := by have := n4.stk.nd; simp only [List.nodup_cons, List.mem_cons, not_or] at this; exact this.1.1
              have hl2 := n4.len
              have eA : (RA ++ [V.ref l.r]).length = ls'.length + 1 := by rw [List.length_append, la]; rfl
              have eB : (RB ++ [V.ref l.t]).length = ls'.length + 1 := by rw [List.length_append, lb]; rfl
              have q1 : (RA ++ [V.ref l.r]).length < sizeLine := by rw [eA, sizeLine_eq]; simp at hl2; omega
              have q2 : (RB ++ [V.ref l.t]).length < sizeLine := by rw [eB, sizeLine_eq]; simp at hl2; omega
              have nap := (n4.fr a (by simp)).2
              have nbp := (n4.fr b (by simp)).2
              cases ls' with
              | nil =>
                have eA : (RA ++ [V.ref l.r]).length = 1 := eA
                walk_at "gb go"
                · rename_i c2 R hR T hT
                  have hT4 : H4 T = none := by
                    by_cases e : T = a
                    · rw [e, upd_same] at hT; cases hT
                    · rw [upd_ne e] at hT
                      exact (same_new hR).free hT
                  have nRT : R ≠ T := fun e => by
                    have nRa : R ≠ a := fun e2 => by rw [e2, ha] at hR; cases hR
                    rw [← e, upd_ne nRa, upd_same] at hT; cases hT
                  refine ⟨_, _, _, _, rfl, (n4.push (B := 300 + 202 * i) (by rw [List.length_cons]; omega) hR hT4 nRT (pool_ne (pool_ne (pool_ne (pool_ne P4 (P4.ne hR).symm) nap) (P4.ne hT4).symm) nbp) ha hb (by walk_at "gb hp") (by walk_at "gb hp") (by walk_at "gb hp") (by walk_at "gb hp") ?_).up (by omega)⟩
                  intro c o d1 d2 e
                  rw [upd_ne d2, upd_ne (ne_of_none e hT4), upd_ne d1, upd_ne (ne_of_none e hR)]
                  exact e
                · refine ⟨p, rfl, P4, fun nn vv Hx hlf Px sx => ?_⟩
                  have n5 := n4.draw Px sx
                  obtain ⟨RA, RB, e1, e2, ha, hb, la, lb⟩ := n5.stk.ends
                  obtain ⟨⟨vs, hr2, hN2⟩, ht2⟩ := n5.stk.ok l List.mem_cons_self
                  have nd := n5.stk.nd
                  simp only [adrs, List.nodup_cons, List.mem_cons, not_or] at nd
                  obtain ⟨⟨nab, na1, na2, na3⟩, ⟨nb1, nb2, nb3⟩, ⟨nd1, nd2⟩, nd3, _⟩ := nd
                  have x1 : atI (RA ++ [V.ref l.r]) (-1) = some (V.ref l.r) := atI_last _ _
                  have x2 : atI (RB ++ [V.ref l.t]) (-1) = some (V.ref l.t) := atI_last _ _
                  have hml := more_len l.ns
                  have hvl := hN2.len
                  have hwt := n5.wt
                  simp only [Wt] at hwt
                  have q1 : vs.length < sizeLine := by rw [hvl, sizeLine_eq]; omega
                  have q2 : ((txs l.ns).map V.str).length < sizeLine := by rw [List.length_map, txs_len, sizeLine_eq]; omega
                  obtain ⟨f1, f2, f3, f4⟩ := hlf.facts (H := Hx)
                  have pool2 : ∀ (xa xb : List V), PoolAt (upd (upd Hx l.r (.lst xa)) l.t (.lst xb)) p := fun xa xb => pool_ne (pool_ne Px (n5.fr l.r (by simp [adrs])).2) (n5.fr l.t (by simp [adrs])).2
                  have fin : ∀ (z : Str), z = S nn.txt → ∃ (ls : List Lv) (w4 w5 w6 : Option V), [some (.ref p), some (.ref a), some (.ref b), some (.int mn), some (.int (0 + (i : Int))), some (.int wy), some vv] = [some (.ref p), some (.ref a), some (.ref b), some (.int mn), w4, w5, w6] ∧ NS H (upd (upd Hx l.r (.lst (vs ++ [vv]))) l.t (.lst ((txs l.ns).map V.str ++ [V.str z]))) p a b ls (300 + 202 * (i + 1)) := by
                    intro z hz
                    refine ⟨_, _, _, _, rfl, NS.leaf (B := 300 + 202 * i) n5 f1 f2 f3 f4 (pool2 _ _) hr2 (by walk_at "gb hp") (by rw [upd_same, hz]) ?_⟩
                    intro c o c1 c2 e
                    rw [upd_ne c2, upd_ne c1]; exact e
                  rcases id hlf with ⟨rfl, rfl⟩ | ⟨w, rfl, hw, rfl⟩ | ⟨z, rfl, hz, rfl⟩
                  · walk_at "gb go"
                    exact fin _ sm
                  · walk_at "gb go"
                    exact fin _ rfl
                  · walk_at "gb go"
                    exact fin _ (mk_tl _).symm
                · refine ⟨p, rfl, P4, fun nn vv Hx hlf Px sx => ?_⟩
                  have n5 := n4.draw Px sx
                  obtain ⟨RA, RB, e1, e2, ha, hb, la, lb⟩ := n5.stk.ends
                  obtain ⟨⟨vs, hr2, hN2⟩, ht2⟩ := n5.stk.ok l List.mem_cons_self
                  have nd := n5.stk.nd
                  simp only [adrs, List.nodup_cons, List.mem_cons, not_or] at nd
                  obtain ⟨⟨nab, na1, na2, na3⟩, ⟨nb1, nb2, nb3⟩, ⟨nd1, nd2⟩, nd3, _⟩ := nd
                  have x1 : atI (RA ++ [V.ref l.r]) (-1) = some (V.ref l.r) := atI_last _ _
                  have x2 : atI (RB ++ [V.ref l.t]) (-1) = some (V.ref l.t) := atI_last _ _
                  have hml := more_len l.ns
                  have hvl := hN2.len
                  have hwt := n5.wt
                  simp only [Wt] at hwt
                  have q1 : vs.length < sizeLine := by rw [hvl, sizeLine_eq]; omega
                  have q2 : ((txs l.ns).map V.str).length < sizeLine := by rw [List.length_map, txs_len, sizeLine_eq]; omega
                  obtain ⟨f1, f2, f3, f4⟩ := hlf.facts (H := Hx)
                  have pool2 : ∀ (xa xb : List V), PoolAt (upd (upd Hx l.r (.lst xa)) l.t (.lst xb)) p := fun xa xb => pool_ne (pool_ne Px (n5.fr l.r (by simp [adrs])).2) (n5.fr l.t (by simp [adrs])).2
                  have fin : ∀ (z : Str), z = S nn.txt → ∃ (ls : List Lv) (w4 w5 w6 : Option V), [some (.ref p), some (.ref a), some (.ref b), some (.int mn), some (.int (0 + (i : Int))), some (.int wy), some vv] = [some (.ref p), some (.ref a), some (.ref b), some (.int mn), w4, w5, w6] ∧ NS H (upd (upd Hx l.r (.lst (vs ++ [vv]))) l.t (.lst ((txs l.ns).map V.str ++ [V.str z]))) p a b ls (300 + 202 * (i + 1)) := by
                    intro z hz
                    refine ⟨_, _, _, _, rfl, NS.leaf (B := 300 + 202 * i) n5 f1 f2 f3 f4 (pool2 _ _) hr2 (by walk_at "gb hp") (by rw [upd_same, hz]) ?_⟩
                    intro c o c1 c2 e
                    rw [upd_ne c2, upd_ne c1]; exact e
                  rcases id hlf with ⟨rfl, rfl⟩ | ⟨w, rfl, hw, rfl⟩ | ⟨z, rfl, hz, rfl⟩
                  · walk_at "gb go"
                    exact fin _ sm
                  · walk_at "gb go"
                    exact fin _ rfl
                  · walk_at "gb go"
                    exact fin _ (mk_tl _).symm
              | cons m rest =>
                have eA : (RA ++ [V.ref l.r]).length = rest.length + 2 := eA
                have hS := n4.stk
                have hw : Wt (l :: m :: rest) ≤ 1000000 := by have := n4.wt; omega
                have hrl : rest.length ≤ 200 := by simp at hl2; omega
                walk_at "gb go"
                · rename_i c2 R hR T hT
                  have hT4 : H4 T = none := by
                    by_cases e : T = a
                    · rw [e, upd_same] at hT; cases hT
                    · rw [upd_ne e] at hT
                      exact (same_new hR).free hT
                  have nRT : R ≠ T := fun e => by
                    have nRa : R ≠ a := fun e2 => by rw [e2, ha] at hR; cases hR
                    rw [← e, upd_ne nRa, upd_same] at hT; cases hT
                  refine ⟨_, _, _, _, rfl, (n4.push (B := 300 + 202 * i) (by rw [List.length_cons]; omega) hR hT4 nRT (pool_ne (pool_ne (pool_ne (pool_ne P4 (P4.ne hR).symm) nap) (P4.ne hT4).symm) nbp) ha hb (by walk_at "gb hp") (by walk_at "gb hp") (by walk_at "gb hp") (by walk_at "gb hp") ?_).up (by omega)⟩
                  intro c o d1 d2 e
                  rw [upd_ne d2, upd_ne (ne_of_none e hT4), upd_ne d1, upd_ne (ne_of_none e hR)]
                  exact e
                · refine ⟨p, rfl, P4, fun nn vv Hx hlf Px sx => ?_⟩
                  have n5 := n4.draw Px sx
                  obtain ⟨RA, RB, e1, e2, ha, hb, la, lb⟩ := n5.stk.ends
                  obtain ⟨⟨vs, hr2, hN2⟩, ht2⟩ := n5.stk.ok l List.mem_cons_self
                  have nd := n5.stk.nd
                  simp only [adrs, List.nodup_cons, List.mem_cons, not_or] at nd
                  obtain ⟨⟨nab, na1, na2, na3⟩, ⟨nb1, nb2, nb3⟩, ⟨nd1, nd2⟩, nd3, _⟩ := nd
                  have x1 : atI (RA ++ [V.ref l.r]) (-1) = some (V.ref l.r) := atI_last _ _
                  have x2 : atI (RB ++ [V.ref l.t]) (-1) = some (V.ref l.t) := atI_last _ _
                  have hml := more_len l.ns
                  have hvl := hN2.len
                  have hwt := n5.wt
                  simp only [Wt] at hwt
                  have q1 : vs.length < sizeLine := by rw [hvl, sizeLine_eq]; omega
                  have q2 : ((txs l.ns).map V.str).length < sizeLine := by rw [List.length_map, txs_len, sizeLine_eq]; omega
                  obtain ⟨f1, f2, f3, f4⟩ := hlf.facts (H := Hx)
                  have pool2 : ∀ (xa xb : List V), PoolAt (upd (upd Hx l.r (.lst xa)) l.t (.lst xb)) p := fun xa xb => pool_ne (pool_ne Px (n5.fr l.r (by simp [adrs])).2) (n5.fr l.t (by simp [adrs])).2
                  have fin : ∀ (z : Str), z = S nn.txt → ∃ (ls : List Lv) (w4 w5 w6 : Option V), [some (.ref p), some (.ref a), some (.ref b), some (.int mn), some (.int (0 + (i : Int))), some (.int wy), some vv] = [some (.ref p), some (.ref a), some (.ref b), some (.int mn), w4, w5, w6] ∧ NS H (upd (upd Hx l.r (.lst (vs ++ [vv]))) l.t (.lst ((txs l.ns).map V.str ++ [V.str z]))) p a b ls (300 + 202 * (i + 1)) := by
                    intro z hz
                    refine ⟨_, _, _, _, rfl, NS.leaf (B := 300 + 202 * i) n5 f1 f2 f3 f4 (pool2 _ _) hr2 (by walk_at "gb hp") (by rw [upd_same, hz]) ?_⟩
                    intro c o c1 c2 e
                    rw [upd_ne c2, upd_ne c1]; exact e
                  rcases id hlf with ⟨rfl, rfl⟩ | ⟨w, rfl, hw, rfl⟩ | ⟨z, rfl, hz, rfl⟩
                  · walk_at "gb go"
                    exact fin _ sm
                  · walk_at "gb go"
                    exact fin _ rfl
                  · walk_at "gb go"
                    exact fin _ (mk_tl _).symm
                · rename_i H5 hS5 f5
                  exact ⟨_, _, _, _, rfl, (n4.close hS5 f5).up (by omega)⟩
                · refine ⟨p, rfl, P4, fun nn vv Hx hlf Px sx => ?_⟩
                  have n5 := n4.draw Px sx
                  obtain ⟨RA, RB, e1, e2, ha, hb, la, lb⟩ := n5.stk.ends
                  obtain ⟨⟨vs, hr2, hN2⟩, ht2⟩ := n5.stk.ok l List.mem_cons_self
                  have nd := n5.stk.nd
                  simp only [adrs, List.nodup_cons, List.mem_cons, not_or] at nd
                  obtain ⟨⟨nab, na1, na2, na3⟩, ⟨nb1, nb2, nb3⟩, ⟨nd1, nd2⟩, nd3, _⟩ := nd
                  have x1 : atI (RA ++ [V.ref l.r]) (-1) = some (V.ref l.r) := atI_last _ _
                  have x2 : atI (RB ++ [V.ref l.t]) (-1) = some (V.ref l.t) := atI_last _ _
                  have hml := more_len l.ns
                  have hvl := hN2.len
                  have hwt := n5.wt
                  simp only [Wt] at hwt
                  have q1 : vs.length < sizeLine := by rw [hvl, sizeLine_eq]; omega
                  have q2 : ((txs l.ns).map V.str).length < sizeLine := by rw [List.length_map, txs_len, sizeLine_eq]; omega
                  obtain ⟨f1, f2, f3, f4⟩ := hlf.facts (H := Hx)
                  have pool2 : ∀ (xa xb : List V), PoolAt (upd (upd Hx l.r (.lst xa)) l.t (.lst xb)) p := fun xa xb => pool_ne (pool_ne Px (n5.fr l.r (by simp [adrs])).2) (n5.fr l.t (by simp [adrs])).2
                  have fin : ∀ (z : Str), z = S nn.txt → ∃ (ls : List Lv) (w4 w5 w6 : Option V), [some (.ref p), some (.ref a), some (.ref b), some (.int mn), some (.int (0 + (i : Int))), some (.int wy), some vv] = [some (.ref p), some (.ref a), some (.ref b), some (.int mn), w4, w5, w6] ∧ NS H (upd (upd Hx l.r (.lst (vs ++ [vv]))) l.t (.lst ((txs l.ns).map V.str ++ [V.str z]))) p a b ls (300 + 202 * (i + 1)) := by
                    intro z hz
                    refine ⟨_, _, _, _, rfl, NS.leaf (B := 300 + 202 * i) n5 f1 f2 f3 f4 (pool2 _ _) hr2 (by walk_at "gb hp") (by rw [upd_same, hz]) ?_⟩
                    intro c o c1 c2 e
                    rw [upd_ne c2, upd_ne c1]; exact e
                  rcases id hlf with ⟨rfl, rfl⟩ | ⟨w, rfl, hw, rfl⟩ | ⟨z, rfl, hz, rfl⟩
                  · walk_at "gb go"
                    exact fin _ sm
                  · walk_at "gb go"
                    exact fin _ rfl
                  · walk_at "gb go"
                    exact fin _ (mk_tl _).symm
            · intro N2 hN2
              walk_at "gb go"
              rename_i r1 H4 a0 a1 P4 s4
              exact hN2 _ _ ⟨r1, _, rfl, n3.draw P4 s4⟩
          · rintro σ H3 ⟨ls, v4, v5, v6, rfl, n3⟩
            exact hN _ _ ⟨ls, v4, v5, v6, rfl, { n3 with wt := by have := n3.wt; omega }⟩
      · intro N hN
        have P1 := n1.pool
        walk_at "gb go"
        · rename_i r1 H2 a0 a1 P2 s2 r2 H3 b0 b1 P3 s3 hq
          exact hN _ _ ⟨r1 + 50, rfl, by omega, by omega, (n1.draw P2 s2).draw P3 s3⟩
        · rename_i r1 H2 a0 a1 P2 s2 r2 H3 b0 b1 P3 s3 hq
          exact hN _ _ ⟨r1, rfl, by omega, by omega, (n1.draw P2 s2).draw P3 s3⟩
    · intro N hN
      walk_at "gb go"
      · rename_i R hR a ha T hT b hb r1 H2 h0 h1 P2 s2 hq r2 H3 h2 h3 P3 s3
        have nRa : R ≠ a := ne_of_none upd_same ha
        have nRT : R ≠ T := ne_of_none (upd_df upd_same nRa) hT
        have naT : a ≠ T := ne_of_none upd_same hT
        have nRb : R ≠ b := ne_of_none (upd_df (upd_df upd_same nRa) nRT) hb
        have nab : a ≠ b := ne_of_none (upd_df upd_same naT) hb
        have nTb : T ≠ b := ne_of_none upd_same hb
        have s0' : Same H (upd H R (.lst [])) := same_new hR
        have s1' := s0'.trans (same_new (o := .lst [.ref R]) ha)
        have s2' := s1'.trans (same_new (o := .lst []) hT)
        have s3' := s2'.trans (same_new (o := .lst [.ref T]) hb)
        have n0 := (NS.base hP (hP.mono s3') s3'.but (by walk_at "gb hp") upd_same (by walk_at "gb hp") (by walk_at "gb hp") (s0'.free ha) (s2'.free hb) hR (s1'.free hT) (by simp [nab, nRa.symm, naT, nRb.symm, nTb.symm, nRT])).draw P2 s2
        clear s0' s1' s2' s3' s2 ha hb hT hR
        refine for_range (lo := 0) (n := (99 - r2).toNat) (fun i σ H' => ∃ (ls : List Lv) (v4 : Option V), σ = [some (.ref p), some (.ref a), some (.ref b), none, v4, none, none] ∧ NS H H' p a b ls (3 + 3 * i) ∧ ls.length = i + 1) ⟨_, none, rfl, n0.draw P3 s3, rfl⟩ ?_ ?_
        · rintro i σ H4 hi ⟨ls, v4, rfl, n4, hll⟩
          have hi2 : i < 99 := by omega
          have P4 := n4.pool
          have ha := n4.stk.ha
          have hb := n4.stk.hb
          have nap := (n4.fr a (by simp)).2
          have nbp := (n4.fr b (by simp)).2
          have q1 : (ls.reverse.map fun l => V.ref l.r).length < sizeLine := by rw [List.length_map, List.length_reverse, hll, sizeLine_eq]; omega
          have q2 : (ls.reverse.map fun l => V.ref l.t).length < sizeLine := by rw [List.length_map, List.length_reverse, hll, sizeLine_eq]; omega
          walk_at "gb go"
          rename_i R2 hR T2 hT
          have hT4 : H4 T2 = none := by
            by_cases e : T2 = a
            · rw [e, upd_same] at hT; cases hT
            · rw [upd_ne e] at hT
              exact (same_new hR).free hT
          have nRT2 : R2 ≠ T2 := fun e => by
            have nRa2 : R2 ≠ a := fun e2 => by rw [e2, ha] at hR; cases hR
            rw [← e, upd_ne nRa2, upd_same] at hT; cases hT
          refine ⟨_, _, rfl, (n4.push (B := 3 + 3 * i) (by omega) hR hT4 nRT2 (pool_ne (pool_ne (pool_ne (pool_ne P4 (P4.ne hR).symm) nap) (P4.ne hT4).symm) nbp) ha hb (by walk_at "gb hp") (by walk_at "gb hp") (by walk_at "gb hp") (by walk_at "gb hp") ?_).up (by omega), by simp; omega⟩
          intro c o d1 d2 e
          rw [upd_ne d2, upd_ne (ne_of_none e hT4), upd_ne d1, upd_ne (ne_of_none e hR)]
          exact e
        · rintro σ H4 ⟨ls, v4, rfl, n4, hll⟩
          exact hN _ _ ⟨a, b, ls, v4, rfl, n4.up (by omega)⟩
      · rename_i R hR a ha T hT b hb r1 H2 h0 h1 P2 s2 hq
        have nRa : R ≠ a := ne_of_none upd_same ha
        have nRT : R ≠ T := ne_of_none (upd_df upd_same nRa) hT
        have naT : a ≠ T := ne_of_none upd_same hT
        have nRb : R ≠ b := ne_of_none (upd_df (upd_df upd_same nRa) nRT) hb
        have nab : a ≠ b := ne_of_none (upd_df upd_same naT) hb
        have nTb : T ≠ b := ne_of_none upd_same hb
        have s0' : Same H (upd H R (.lst [])) := same_new hR
        have s1' := s0'.trans (same_new (o := .lst [.ref R]) ha)
        have s2' := s1'.trans (same_new (o := .lst []) hT)
        have s3' := s2'.trans (same_new (o := .lst [.ref T]) hb)
        have n0 := (NS.base hP (hP.mono s3') s3'.but (by walk_at "gb hp") upd_same (by walk_at "gb hp") (by walk_at "gb hp") (s0'.free ha) (s2'.free hb) hR (s1'.free hT) (by simp [nab, nRa.symm, naT, nRb.symm, nTb.symm, nRT])).draw P2 s2
        clear s0' s1' s2' s3' s2 ha hb hT hR
        exact hN _ _ ⟨a, b, _, none, rfl, n0.up (by decide)⟩
theorem ok_whole (T : Txt K mg A) : FnOk P w K mg base CX0 1 A.f_whole A.d_whole ["_law_value"] (spWhole) := by
  refine T.F_whole.ok sc_whole (fun vs H Q E h => ?_) (fun cdv Ar outer s H vs Q E hr h => ?_)
  · obtain ⟨i, rfl, _⟩ := h
    rfl
  · obtain ⟨i, rfl, k⟩ := h
    refine ⟨_, (pss_one (ps_ret (pe_and (pe_callB (call_isiK' K) (by rfl) T.n_isinstance (by decide +kernel) (pa_cons (pv 0) (pa_cons (pe_bltn (v := .ty "int") (by rfl) T.n_int (by decide +kernel) rfl) pa_nil))) (pe_one (pe_not (pe_callB (call_isiK' K) (by rfl) T.n_isinstance (by decide +kernel) (pa_cons (pv 0) (pa_cons (pe_bltn (v := .ty "bool") (by rfl) T.n_bool (by decide +kernel) rfl) pa_nil)))))))), ?_⟩
    walk_at "gb go"
    skip
    exact k
theorem okh_whole (T : Txt K mg A) : L2H.FnH P w K mg base CX0 1 A.f_whole A.d_whole ["_law_value"] (spWhole) := by
  refine T.F_whole.okH sc_whole (fun vs H Q E h => ?_) (fun cdv Ar outer s H vs Q E p0 hot hr h => ?_)
  · obtain ⟨i, rfl, _⟩ := h
    rfl
  · obtain ⟨i, rfl, k⟩ := h
    refine ⟨_, (pss_one (ps_ret (pe_and (pe_callB (call_isiK' K) (by rfl) T.n_isinstance (by decide +kernel) (pa_cons (pv 0) (pa_cons (pe_bltn (v := .ty "int") (by rfl) T.n_int (by decide +kernel) rfl) pa_nil))) (pe_one (pe_not (pe_callB (call_isiK' K) (by rfl) T.n_isinstance (by decide +kernel) (pa_cons (pv 0) (pa_cons (pe_bltn (v := .ty "bool") (by rfl) T.n_bool (by decide +kernel) rfl) pa_nil)))))))), ?_⟩
    walk_at "gb go"
    skip
    exact k
theorem ok_same (T : Txt K mg A) : FnOk P w K mg base CX0 2 A.f_same A.d_same ["_law_told", "_law_note_here", "_law_most"] (spSame) := by
  refine T.F_same.ok sc_same (fun vs H Q E h => ?_) (fun cdv Ar outer s H vs Q E hr h => ?_)
  · obtain ⟨x, y, n, m, rfl, _⟩ := h
    rfl
  · obtain ⟨x, y, n, m, rfl, hx, hy, hm, hm1, k⟩ := h
    refine ⟨_, (pss_cons (ps_set (i := 3) sc_same.nd rfl (Or.inl rfl) (pe_lst (pa_cons (pe_tup (pa_cons (pv 0) (pa_cons (pv 1) pa_nil))) pa_nil)))
        (pss_cons (ps_for PassesOwn.never rfl (pi_range1 rfl T.n_range (pa_cons (pv 2) pa_nil)) (pg_name (i := 4) sc_same.nd rfl (Or.inl rfl))
        (pss_cons (ps_if (pt_not (pt_truth (pv 3) (by intro _; rfl))) (pss_one (ps_ret pe_bl)) pss_nil)
        (pss_cons (ps_asg (pe_bm0 PySem.F.plainAttrs_list PySem.F.slot_list_pop PySem.F.type_list_pop mt_pop (pv 3)) (pg_tup rfl (pgs_cons (pg_name (i := 5) sc_same.nd rfl (Or.inl rfl)) (pgs_cons (pg_name (i := 6) sc_same.nd rfl (Or.inl rfl)) pgs_nil))))
        (pss_one (ps_if (pt_val (pe_callB (call_isiK' K) (by rfl) T.n_isinstance (by decide +kernel) (pa_cons (pv 6) (pa_cons (pe_bltn (v := .ty "tuple") (by rfl) T.n_tuple (by decide +kernel) rfl) pa_nil))) (by intro _; rfl)) (pss_cons (ps_if (PW.pt (pw_or (pt_not (pt_val (pe_callB (call_isiK' K) (by rfl) T.n_isinstance (by decide +kernel) (pa_cons (pv 5) (pa_cons (pe_bltn (v := .ty "tuple") (by rfl) T.n_tuple (by decide +kernel) rfl) pa_nil))) (by intro _; rfl))) (pw_or1 (pt_cmpR op_ne (pe_callB (call_len_seqK K) (by rfl) T.n_len (by decide +kernel) (pa_cons (pv 5) pa_nil)) (pe_callB (call_len_seqK K) (by rfl) T.n_len (by decide +kernel) (pa_cons (pv 6) pa_nil)) (nomark _))))) (pss_one (ps_ret pe_bl)) pss_nil)
        (pss_one (ps_expr (pe_bm PySem.F.plainAttrs_list PySem.F.slot_list_extend PySem.F.type_list_extend mt_extend (pv 3) (pa_cons (pe_listZip rfl (by rfl) T.n_list (by rfl) T.n_zip (pa_cons (pv 5) (pa_cons (pv 6) pa_nil))) pa_nil))))) (pss_one (ps_if (pt_cmpR op_isN (pv 6) pe_non (nomark _)) (pss_one (ps_if (pt_cmpR op_notN (pv 5) pe_non (nomark _)) (pss_one (ps_ret pe_bl)) pss_nil)) (pss_one (ps_if (pt_val (pe_callB (call_isiK' K) (by rfl) T.n_isinstance (by decide +kernel) (pa_cons (pv 6) (pa_cons (pe_bltn (v := .ty "str") (by rfl) T.n_str (by decide +kernel) rfl) pa_nil))) (by intro _; rfl)) (pss_one (ps_if (PW.pt (pw_or (pt_not (pt_val (pe_callB (call_isiK' K) (by rfl) T.n_isinstance (by decide +kernel) (pa_cons (pv 5) (pa_cons (pe_bltn (v := .ty "str") (by rfl) T.n_str (by decide +kernel) rfl) pa_nil))) (by intro _; rfl))) (pw_or1 (pt_cmpR op_ne (pv 5) (pv 6) (nomark _))))) (pss_one (ps_ret pe_bl)) pss_nil)) (pss_one (ps_if (PW.pt (pw_or (pt_not (pt_val (pe_call (ok_whole T) (hr.mono (by decide)) rfl T.g_whole T.F_whole.kp T.b_whole .nil pass0 (pa_cons (pv 5) pa_nil)) (by intro _; rfl))) (pw_or1 (pt_cmpR op_ne (pv 5) (pv 6) (nomark _))))) (pss_one (ps_ret pe_bl)) pss_nil)))))))))))
        (pss_one (ps_ret (pe_not (pv 3)))))), ?_⟩
    obtain ⟨hm1⟩ := hm1
    have hmm : n.sz ≤ 1000000 := by omega
    walk_at "gb go"
    rename_i T0 hT0 L hL
    have sT : Same H (upd H T0 (.tup [x, y])) := same_new hT0
    have sL := sT.trans (same_new (o := .lst [.ref T0]) hL)
    have fL : H L = none := sT.free hL
    refine for_range (lo := 0) (n := m.toNat) (fun i σ H' => ∃ (vs : List V) (ns : List N) (v4 v5 v6 : Option V), σ = [some x, some y, some (.int m), some (.ref L), v4, v5, v6] ∧ Same H H' ∧ H' L = some (.lst vs) ∧ PrsAt H' ns vs ∧ N.szs ns + i ≤ n.sz) ⟨[.ref T0], [n], none, none, none, rfl, sL, upd_same, ⟨_, _, rfl, ⟨T0, x, y, rfl, upd_fr upd_same hL, hx.mono (tups_same sL), hy.mono (tups_same sL)⟩, rfl⟩, by simp [N.szs]⟩ ?_ ?_
    · rintro i σ H' hi ⟨vs, ns, v4, v5, v6, rfl, s', hl', hp, hsz⟩
      rcases List.eq_nil_or_concat vs with rfl | ⟨r, v, rfl⟩
      · walk_at "gb go"
        exact k H' s'
      · rw [List.concat_eq_append] at hl' hp
        obtain ⟨ns', nn, rfl, hp1, T, xa, ya, rfl, hT, hxa, hya⟩ := hp.last
        have q1 : (r ++ [V.ref T])[(r ++ [V.ref T]).length - 1]? = some (V.ref T) := by
          rw [List.length_append]; show (r ++ [V.ref T])[r.length]? = _; rw [List.getElem?_append_right (Nat.le_refl _), Nat.sub_self]; rfl
        have q2 : (r ++ [V.ref T]).dropLast = r := List.dropLast_concat
        have nTL : T ≠ L := fun e => by rw [e, hl'] at hT; cases hT
        rw [szs_app] at hsz
        have tpL : Tups H' (upd H' L (.lst (r ++ [V.ref T]).dropLast)) := tups_put Tups.refl hl'
        have hpD : PrsAt (upd H' L (.lst (r ++ [V.ref T]).dropLast)) ns' (r ++ [V.ref T]).dropLast := by rw [q2]; exact hp1.mono (by rw [q2] at tpL; exact tpL)
        have hsD : N.szs ns' + (i + 1) ≤ n.sz := by have := sz_pos nn; simp only [N.szs] at hsz; omega
        cases nn with
        | non =>
          obtain rfl : xa = .non := hxa
          obtain rfl : ya = .non := hya
          walk_at "gb go"
          exact hsD
        | wrd w =>
          obtain rfl : xa = .str ⟨w.toArray⟩ := hxa
          obtain rfl : ya = .str ⟨w.toArray⟩ := hya
          walk_at "gb go"
          exact hsD
        | num z =>
          obtain rfl : xa = .int z := hxa
          obtain rfl : ya = .int z := hya
          walk_at "gb go"
          exact hsD
        | tup ks =>
          obtain ⟨a1, xs1, rfl, ha1, hn1⟩ := hxa
          obtain ⟨a2, ys1, rfl, ha2, hn2⟩ := hya
          have el : xs1.length = ys1.length := hn1.len.trans hn2.len.symm
          have na1 : a1 ≠ L := fun e => by rw [e, hl'] at ha1; cases ha1
          have na2 : a2 ≠ L := fun e => by rw [e, hl'] at ha2; cases ha2
          have hks := len_szs ks
          have hns := len_szs ns'
          have e1 := hn1.len
          have hrl := hp1.len
          have hsz2 : N.szs ns' + N.szs ks + (i + 1) ≤ n.sz := by simp only [N.szs, N.sz] at hsz; omega
          rw [q2] at hpD tpL
          have hdr : (r ++ [V.ref T]).dropLast.length = ns'.length := by rw [q2, hrl]
          walk_at "gb go"
          rename_i q ts H3 hq s3 h3 hl3 hP
          have hL3 := s3 _ _ upd_same
          have t1 : Tups H' H3 := tpL.trans (tups_same (by rw [q2] at s3; exact s3))
          have t2 : Tups H3 (upd H3 L (.lst ((r ++ [V.ref T]).dropLast ++ ts.map V.ref))) := tups_put Tups.refl hL3
          refine ⟨PrsAt.app (ms := ks) (ns := ns') ((prs_of (hn1.mono t1) (hn2.mono t1) hl3 hP).mono t2) ?_, by rw [szs_app]; omega⟩
          rw [q2] at t2 ⊢
          exact hp1.mono (t1.trans t2)
    · rintro σ H' ⟨vs, ns, v4, v5, v6, rfl, s', hl', hp, hsz⟩
      exfalso
      omega
theorem ok_next (T : Txt K mg A) : FnOk P w K mg base CX0 1 A.f_next A.d_next ["_law_mode", "_law_size", "_law_depth", "_law_char_here"] (spNext) := by
  refine T.F_next.ok sc_next (fun vs H Q E h => ?_) (fun cdv Ar outer s H vs Q E hr h => ?_)
  · obtain ⟨m, s0, d, c, rfl, _⟩ := h
    rfl
  · obtain ⟨m, s0, d, c, rfl, k⟩ := h
    refine ⟨_, (pss_cons (ps_set (i := 4) sc_next.nd rfl (Or.inl rfl) pe_str)
        (pss_cons (ps_if (pt_cmpR op_lt (pv 0) pe_int (nomark _)) (pss_cons (ps_if (PW.pt (pw_and (pt_cmpR op_eq (pv 3) pe_str (nomark _)) (pw_and1 (pt_cmpR op_lt (pv 2) pe_int (nomark _))))) (pss_one (ps_ret pe_int)) pss_nil)
        (pss_cons (ps_if (PW.pt (pw_and (pt_cmpR op_eq (pv 3) pe_str (nomark _)) (pw_and1 (pt_cmpR op_eq (pv 0) pe_int (nomark _))))) (pss_one (ps_ret pe_int)) pss_nil)
        (pss_cons (ps_if (pt_cmpR op_in_sign (pv 3) pe_str rfl) (pss_one (ps_ret (pe_op op_add pe_int (pe_callTy call_int1 (by rfl) T.n_int (by decide +kernel) (pa_cons (pe_cmpR op_eq (pv 3) pe_str (nomark _)) pa_nil))))) pss_nil)
        (pss_cons (ps_if (pt_cmpR op_in_sign (pv 3) pe_str rfl) (pss_one (ps_ret pe_int)) pss_nil)
        (pss_one (ps_ret (pe_op op_sub (pe_op op_mulX pe_int (pe_callTy call_int1 (by rfl) T.n_int (by decide +kernel) (pa_cons (pe_cmpR op_in_sign (pv 3) (pv 4) rfl) pa_nil))) pe_int))))))) pss_nil)
        (pss_cons (ps_if (PW.pt (pw_and (pt_cmpR op_gt (pv 2) pe_int (nomark _)) (pw_and1 (pt_cmpR op_in_sign (pv 3) pe_str rfl)))) (pss_one (ps_ret (pe_op op_mulX pe_int (pe_callTy call_int1 (by rfl) T.n_int (by decide +kernel) (pa_cons (pe_cmpR op_eq (pv 3) pe_str (nomark _)) pa_nil))))) pss_nil)
        (pss_cons (ps_if (PW.pt (pw_or (PW.pt (pw_and (pt_cmpR op_eq (pv 0) pe_int (nomark _)) (pw_and1 (pt_cmpR op_in_sign (pv 3) pe_str rfl)))) (pw_or1 (PW.pt (pw_and (pt_cmpR op_eq (pv 0) pe_int (nomark _)) (pw_and (pt_cmpR op_lt (pv 1) pe_int (nomark _)) (pw_and1 (pt_cmpR op_in_sign (pv 3) pe_str rfl)))))))) (pss_one (ps_ret pe_int)) pss_nil)
        (pss_cons (ps_if (PW.pt (pw_and (pt_cmpR op_eq (pv 0) pe_int (nomark _)) (pw_and (pt_cmpR op_lt (pv 1) pe_int (nomark _)) (pw_and1 (pt_cmpR op_in_sign (pv 3) (pe_op op_add_str (pv 4) pe_str) rfl))))) (pss_one (ps_ret pe_int)) pss_nil)
        (pss_one (ps_ret (pe_un un_neg pe_int)))))))), ?_⟩
    walk_at "gb go"
    all_goals (refine k _ ?_)
    all_goals (clear k; clear hr T)
    all_goals (try simp only [V.int.injEq, eL, eR, e0, d19, m0, sr2, wcs2, ltr, dg, decide_eq_true_eq] at *)
    all_goals (rw [code_nx]; repeat' split)
    all_goals (first | rfl | omega | contradiction | (simp_all; done) | (exfalso; simp_all; omega) | skip)
theorem ok_wrong (T : Txt K mg A) : FnOk P w K mg base CX0 2 A.f_wrong A.d_wrong ["_law_text"] (spWrong) := by
  refine T.F_wrong.ok sc_wrong (fun vs H Q E h => ?_) (fun cdv Ar outer s H vs Q E hr h => ?_)
  · obtain ⟨z, t, rfl, _⟩ := h
    rfl
  · obtain ⟨z, t, rfl, hz, hsm, k⟩ := h
    refine ⟨_, (pss_cons (ps_set (i := 1) sc_wrong.nd rfl (Or.inl rfl) pe_int)
        (pss_cons (ps_set (i := 2) sc_wrong.nd rfl (Or.inl rfl) pe_int)
        (pss_cons (ps_set (i := 3) sc_wrong.nd rfl (Or.inl rfl) pe_int)
        (pss_cons (ps_for PassesOwn.never rfl (pi_range1 rfl T.n_range (pa_cons (pe_callB call_len_str (by rfl) T.n_len (by decide +kernel) (pa_cons (pv 0) pa_nil)) pa_nil)) (pg_name (i := 4) sc_wrong.nd rfl (Or.inl rfl))
        (pss_cons (ps_set (i := 5) sc_wrong.nd rfl (Or.inl rfl) (pe_call (ok_next T) (hr.mono (by decide)) rfl T.g_next T.F_next.kp T.b_next .nil pass0 (pa_cons (pv 1) (pa_cons (pv 2) (pa_cons (pv 3) (pa_cons (pe_ix ix_str (pv 0) (pv 4) (fun _ _ => rfl)) pa_nil))))))
        (pss_cons (ps_if (pt_cmpR op_eq (pv 5) (pe_un un_neg pe_int) (nomark _)) (pss_one (ps_ret (pv 4))) pss_nil)
        (pss_cons (ps_set (i := 3) sc_wrong.nd rfl (Or.inl rfl) (pe_op op_sub (pe_op op_add (pv 3) (pe_callTy call_int1 (by rfl) T.n_int (by decide +kernel) (pa_cons (pe_cmpR op_eq (pe_ix ix_str (pv 0) (pv 4) (fun _ _ => rfl)) pe_str (nomark _)) pa_nil))) (pe_callTy call_int1 (by rfl) T.n_int (by decide +kernel) (pa_cons (pe_cmpR op_eq (pe_ix ix_str (pv 0) (pv 4) (fun _ _ => rfl)) pe_str (nomark _)) pa_nil))))
        (pss_cons (ps_set (i := 2) sc_wrong.nd rfl (Or.inl rfl) (pe_op op_add pe_int (pe_op op_mulX (pv 2) (pe_callTy call_int1 (by rfl) T.n_int (by decide +kernel) (pa_cons (pe_cmpR op_eq (pv 5) (pv 1) (nomark _)) pa_nil)))))
        (pss_one (ps_set (i := 1) sc_wrong.nd rfl (Or.inl rfl) (pv 5))))))))
        (pss_cons (ps_if (PW.pt (pw_and (pt_cmpR op_eq (pv 3) pe_int (nomark _)) (pw_and1 (pt_cmpR op_gt (pv 1) pe_int (nomark _))))) (pss_one (ps_ret (pe_un un_neg pe_int))) pss_nil)
        (pss_one (ps_ret (pe_callB call_len_str (by rfl) T.n_len (by decide +kernel) (pa_cons (pv 0) pa_nil))))))))), ?_⟩
    obtain ⟨rfl⟩ := hz
    have h62 : (((S t).length : Nat) : Int) < 2 ^ 62 := by rw [S_len]; unfold small at hsm; omega
    walk_at "gb go"
    exact (for_range (lo := 0) (n := (((S t).length : Nat) : Int).toNat) (fun i σ H' => ∃ (m s d : Nat) (v4 v5 : Option V), σ = [some (.str (S t)), some (.int (m : Nat)), some (.int (s : Nat)), some (.int (d : Nat)), v4, v5] ∧ H' = H ∧ walk t i m s d = walk t 0 0 0 0 ∧ (m = 1 → 1 ≤ d) ∧ s ≤ i ∧ d ≤ i) ⟨0, 0, 0, none, none, rfl, rfl, rfl, (fun z => by cases z), Nat.le_refl _, Nat.le_refl _⟩ (by
      rintro i σ H' hi ⟨m, s, d, v4, v5, rfl, rfl, hw, hd, hs1, hd1⟩
      have hi' : i < t.length := by rw [S_len, Int.toNat_natCast] at hi; exact hi
      have hi2 : i < 1000000 := by unfold small at hsm; omega
      obtain ⟨c, hc⟩ : ∃ c, t[i]? = some c := ⟨_, List.getElem?_eq_getElem hi'⟩
      have hg := walk_at (m := m) (s := s) (d := d) hc
      have hc0 : atI (S t).cps.toList (0 + (i : Int)) = some c := by rw [Int.zero_add]; exact atI_nat hc
      have hsz := small_len hsm
      clear hi h62 hsm
      repeat' ((fail_if_success (show ∀ z : Int, z = code _ → _)); walk_at "gb step")
      intro z hz
      cases hn : nx m s d c with
      | none =>
        rw [hn] at hz hg
        have hz : z = -1 := hz
        have hg : walk t i m s d = some i := hg
        subst hz
        have kk := k (i : Int) ⟨by rw [← hw, hg]; rfl⟩
        rw [← Int.zero_add (i : Int)] at kk
        walk_at "gb go"
        exact kk
      | some m' =>
        rw [hn] at hz hg
        have hz : z = (m' : Int) := hz
        have hg : walk t i m s d = walk t (i + 1) m' (snx m m' s) (dnx d c) := hg
        subst hz
        clear k
        obtain ⟨g1, g2⟩ := dep_int hn hd
        walk_at "gb go"
        have e1 : ((d : Int) + (if decide (V.str ⟨#[c]⟩ = V.str (Str.ofString "(")) = true then 1 else 0)) - (if decide (V.str ⟨#[c]⟩ = V.str (Str.ofString ")")) = true then 1 else 0) = ((dnx d c : Nat) : Int) := by
          simp only [decide_eq_true_eq, eL, eR]; exact g1
        have e2 : (1 : Int) + (s : Int) * (if decide (V.int (m' : Int) = V.int (m : Int)) = true then 1 else 0) = ((snx m m' s : Nat) : Int) := by
          have := siz_int (m := m) (m' := m') (s := s)
          simp only [decide_eq_true_eq, V.int.injEq, Int.natCast_inj]; exact this
        refine ⟨m', snx m m' s, dnx d c, some (.int (0 + (i : Int))), some (.int (m' : Nat)), ?_, rfl, by rw [← hg]; exact hw, g2, snx_le hs1, dnx_le hd1⟩
        rw [← e1, ← e2]; rfl) (by
      rintro σ H' ⟨m, s, d, v4, v5, rfl, rfl, hw, hd, hs1, hd1⟩
      have hl : (((S t).length : Nat) : Int).toNat = t.length := by rw [S_len, Int.toNat_natCast]
      rw [hl] at hw
      rw [walk_end (List.getElem?_eq_none (Nat.le_refl _))] at hw
      have kk : ∀ w, w = code (if d = 0 ∧ 1 < m then none else some t.length) → Q (.int w) H' := fun w hw2 => k w ⟨by rw [← hw]; exact hw2⟩
      have hsz := small_len hsm
      clear k hw h62 hsm hl hs1 hd1
      walk_at "gb go"
      · refine kk _ ?_
        rw [if_pos ⟨by omega, by omega⟩]; rfl
      · refine kk _ ?_
        rw [if_neg (by omega), S_len]; rfl
      · refine kk _ ?_
        rw [if_neg (by omega), S_len]; rfl))
theorem ok_parsed (T : Txt K mg A) : FnOk P w K mg base CX0 1 A.f_parsed A.d_parsed ["_law_text"] (spParsed) := by
  refine T.F_parsed.okT sc_parsed (fun vs H Q E h => ?_) (by decide +kernel) (by decide) (fun cdv Ar outer s H vs Q E hr h => ?_)
  · obtain ⟨z, n, rfl, _⟩ := h
    rfl
  · obtain ⟨z, n, rfl, hz, hok, hsm, k⟩ := h
    refine ⟨_, (psst_cons (PST.of (ps_set (i := 1) sc_parsed.nd rfl (Or.inl rfl) (pe_lst (pa_cons (pe_lst pa_nil) pa_nil))))
        (psst_cons (pst_for PassesOwn.never rfl (pit_list (pet_m0 PySem.F.slot_str_split PySem.F.type_str_split mt_words (CwR.pet_replT (CwR.pet_replC (pv 0) (by decide +kernel)) (by decide +kernel)))) (pg_name (i := 2) sc_parsed.nd rfl (Or.inl rfl))
        (pss_one (ps_if (pt_cmpR op_eq (pv 2) pe_str (nomark _)) (pss_one (ps_expr (pe_bm PySem.F.plainAttrs_list PySem.F.slot_list_append PySem.F.type_list_append mt_append (pv 1) (pa_cons (pe_lst pa_nil) pa_nil)))) (pss_one (ps_if (pt_cmpR op_eq (pv 2) pe_str (nomark _)) (pss_cons (ps_set (i := 3) sc_parsed.nd rfl (Or.inl rfl) (pe_callTy call_tuple_of (by rfl) T.n_tuple (by decide +kernel) (pa_cons (pe_bm0 PySem.F.plainAttrs_list PySem.F.slot_list_pop PySem.F.type_list_pop mt_pop (pv 1)) pa_nil)))
        (pss_one (ps_expr (pe_bm PySem.F.plainAttrs_list PySem.F.slot_list_append PySem.F.type_list_append mt_append (pe_ix (ix_listK K) (pv 1) (pe_un un_neg pe_int) (fun _ _ => rfl)) (pa_cons (pv 3) pa_nil))))) (pss_one (ps_if (pt_cmpR op_eq (pv 2) pe_str (nomark _)) (pss_one (ps_expr (pe_bm PySem.F.plainAttrs_list PySem.F.slot_list_append PySem.F.type_list_append mt_append (pe_ix (ix_listK K) (pv 1) (pe_un un_neg pe_int) (fun _ _ => rfl)) (pa_cons pe_non pa_nil)))) (pss_one (ps_if (pt_cmpR op_in_sign (pe_ix ix_str (pv 2) pe_int (fun _ _ => rfl)) pe_str rfl) (pss_one (ps_expr (pe_bm PySem.F.plainAttrs_list PySem.F.slot_list_append PySem.F.type_list_append mt_append (pe_ix (ix_listK K) (pv 1) (pe_un un_neg pe_int) (fun _ _ => rfl)) (pa_cons (pv 2) pa_nil)))) (pss_one (ps_expr (pe_bm PySem.F.plainAttrs_list PySem.F.slot_list_append PySem.F.type_list_append mt_append (pe_ix (ix_listK K) (pv 1) (pe_un un_neg pe_int) (fun _ _ => rfl)) (pa_cons (pe_callTy call_int_str (by rfl) T.n_int (by decide +kernel) (pa_cons (pv 2) pa_nil)) pa_nil)))))))))))))
        (CwR.psst_one (PST.of (ps_ret (pe_ix (ix_listK K) (pe_ix (ix_listK K) (pv 1) pe_int (fun _ _ => rfl)) pe_int (fun _ _ => rfl))))))), ?_⟩
    obtain ⟨rfl⟩ := hz
    have hl := hsm.le
    have hle : (S n.txt).length ≤ 200000 := by rw [S_len]; exact hl
    have hr1 : (S n.txt).length + ((S n.txt).length + 1) * (Str.ofString " ( ").length ≤ 16777216 := by
      have : (Str.ofString " ( ").length = 3 := by decide +kernel
      rw [this]; omega
    have hr2 : (Txt.replace (S n.txt) (Str.ofString "(") (Str.ofString " ( ")).length + ((Txt.replace (S n.txt) (Str.ofString "(") (Str.ofString " ( ")).length + 1) * (Str.ofString " ) ").length ≤ 16777216 := by
      have h3 : (Str.ofString " ) ").length = 3 := by decide +kernel
      have h4 : (Str.ofString " ( ").length = 3 := by decide +kernel
      have := TK.replace_len (S n.txt) (Str.ofString "(") (Str.ofString " ( ")
      rw [h4] at this
      rw [h3]; omega
    have hr3 : (Txt.replace (Txt.replace (S n.txt) (Str.ofString "(") (Str.ofString " ( ")) (Str.ofString ")") (Str.ofString " ) ")).length + 2 ≤ sizeLine := by
      rw [repl_txt, S_len, sizeLine_eq]
      have := spc_len n.txt; omega
    have htl := tk_len hok hl
    walk_at "gb go"
    rename_i R hR a ha p hp
    rw [repl_txt, words_note hok]
    clear hr1 hr2 hr3
    have b0 := RS.base (ws := ((n.tk.map Tk.wd).map S).map V.str) hR ha hp
    clear hR ha hp
    refine for_list (K := K) (a := p) (xs := ((n.tk.map Tk.wd).map S).map V.str) (fun i σ H' => ∃ (ls : List (Addr × List N)) (v2 v3 : Option V), σ = [some (.str (S n.txt)), some (.ref a), v2, v3] ∧ RS H H' a p (((n.tk.map Tk.wd).map S).map V.str) ls i ∧ prun (ls.map (·.2)) (n.tk.drop i) = some [[n]]) ⟨[(R, [])], none, none, rfl, b0, prun_note n⟩ (fun i σ H' _ ⟨_, _, _, _, h, _⟩ => SqL.of h.hp) ?_ ?_
    · clear b0 k
      rintro i y σ H' hy ⟨ls, v2, v3, rfl, hS, hP⟩
      have hi := (List.getElem?_eq_some_iff.mp hy).1
      rw [List.length_map, List.length_map, List.length_map] at hi
      obtain ⟨tk, rfl, e, hm⟩ := tk_drop hy
      clear hy
      rw [e] at hP
      have hto := tk_ok n hok tk hm
      have hb1 := hS.b1
      have hsL := sizeLine_eq
      clear e hm
      cases tk with
      | opn =>
        rw [prun_opn] at hP
        have h1 : V.str (S (Tk.opn).wd) = V.str (Str.ofString "(") := sgn_is t_op
        have ha' := hS.ha
        have q1 : (ls.reverse.map fun l => V.ref l.1).length < sizeLine := by rw [List.length_map, List.length_reverse]; omega
        walk_at "gb go"
        rename_i R2 hR2
        exact ⟨(R2, []) :: ls, _, v3, rfl, hS.push hR2 rfl, hP⟩
      | cls =>
        obtain ⟨l, m, rest, rfl⟩ : ∃ l m rest, ls = l :: m :: rest := by
          rcases ls with _ | ⟨l, _ | ⟨m, rest⟩⟩
          · cases hP
          · cases hP
          · exact ⟨l, m, rest, rfl⟩
        have hP : prun (((m.1, m.2 ++ [.tup l.2]) :: rest).map (·.2)) (n.tk.drop (i + 1)) = some [[n]] := hP
        have h1 : ¬ V.str (S (Tk.cls).wd) = V.str (Str.ofString "(") := sgn_ne t_op (by decide)
        have h2 : V.str (S (Tk.cls).wd) = V.str (Str.ofString ")") := sgn_is t_cl
        obtain ⟨RA, eRA, ha'⟩ := hS.last2
        obtain ⟨vl, el, hl1⟩ := hS.ok l List.mem_cons_self
        obtain ⟨vm, em, hm1⟩ := hS.ok m (List.mem_cons_of_mem _ List.mem_cons_self)
        obtain ⟨x11, x12, x13⟩ := last_two RA (V.ref m.1) (V.ref l.1)
        have g1 := hl1.len
        have g2 := hm1.len
        have g3 := hS.b2 l List.mem_cons_self
        have g4 := hS.b2 m (List.mem_cons_of_mem _ List.mem_cons_self)
        have q1 : vm.length < sizeLine := by omega
        have q2 : vl.length ≤ sizeLine := by omega
        have nd := hS.nd
        simp only [List.map_cons, List.nodup_cons, List.mem_cons, not_or] at nd
        obtain ⟨⟨nap, nal, nam, nals⟩, ⟨npl, npm, npls⟩, ⟨nlm, nll⟩, nml, ndl⟩ := nd
        walk_at "gb go"
        rename_i T hT
        exact ⟨(m.1, m.2 ++ [.tup l.2]) :: rest, _, _, rfl, hS.close el em (by rw [x13, eRA]; simp) hT, hP⟩
      | leaf nn =>
        obtain ⟨ok1, hlf⟩ := hto
        obtain ⟨l, rest, rfl⟩ : ∃ l rest, ls = l :: rest := by
          cases ls with
          | nil => cases hP
          | cons l rest => exact ⟨l, rest, rfl⟩
        have hP : prun (((l.1, l.2 ++ [nn]) :: rest).map (·.2)) (n.tk.drop (i + 1)) = some [[n]] := by rw [List.map_cons, prun_leaf] at hP; exact hP
        obtain ⟨RA, eRA, ha', x12, lRA⟩ := hS.last
        obtain ⟨vl, el, hl1⟩ := hS.ok l List.mem_cons_self
        have g1 := hl1.len
        have g3 := hS.b2 l List.mem_cons_self
        have q1 : vl.length < sizeLine := by omega
        obtain ⟨s1, s2⟩ := leaf_sgn ok1 hlf
        have h1 : ¬ V.str (S (Tk.leaf nn).wd) = V.str (Str.ofString "(") := sgn_ne t_op (fun z => by have z : nn.txt = [40] := z; have := wcs_out (s2 40 (by rw [z]; exact List.mem_singleton.mpr rfl)); omega)
        have h2 : ¬ V.str (S (Tk.leaf nn).wd) = V.str (Str.ofString ")") := sgn_ne t_cl (fun z => by have z : nn.txt = [41] := z; have := wcs_out (s2 41 (by rw [z]; exact List.mem_singleton.mpr rfl)); omega)
        have fin : ∀ (v : V) (v2 v3 : Option V), NoteAt H' nn v → ∃ (ls : List (Addr × List N)) (w2 w3 : Option V), [some (.str (S n.txt)), some (.ref a), v2, v3] = [some (.str (S n.txt)), some (.ref a), w2, w3] ∧ RS H (upd H' l.1 (.lst (vl ++ [v]))) a p (((n.tk.map Tk.wd).map S).map V.str) ls (i + 1) ∧ prun (ls.map (·.2)) (n.tk.drop (i + 1)) = some [[n]] := fun v v2 v3 hv => ⟨(l.1, l.2 ++ [nn]) :: rest, _, _, rfl, hS.leaf el hv, hP⟩
        clear hP hS eRA hl1 s1 s2
        rcases hlf with rfl | ⟨w, rfl⟩ | ⟨z, rfl⟩
        · have h3 : V.str (S (Tk.leaf N.non).wd) = V.str (Str.ofString "-") := sgn_is t_mi
          walk_at "gb go"
          exact fin _ _ _ rfl
        · obtain ⟨hw24, c, r, ew, hcl, hr2⟩ := (show WOk w from ok1)
          have h3 : ¬ V.str (S (Tk.leaf (N.wrd w)).wd) = V.str (Str.ofString "-") := sgn_ne t_mi (fun z => by have z : w = [45] := z; rw [ew] at z; injection z with z _; have := lets_range hcl; omega)
          have hc0 : atI (S (Tk.leaf (N.wrd w)).wd).cps.toList 0 = some c := atI_nat (j := 0) (by show w[0]? = some c; rw [ew]; rfl)
          have hwl : (S (Tk.leaf (N.wrd w)).wd).length ≤ 640 := by rw [S_len]; show w.length ≤ 640; omega
          have hcl' : c ∈ (Str.ofString "abcdefghijklmnopqrstuvwxyz").cps.toList := hcl
          walk_at "gb go"
          exact fin _ _ _ rfl
        · obtain ⟨n1, c, r, ew, hcl⟩ := numT_ne z
          have h3 : ¬ V.str (S (Tk.leaf (N.num z)).wd) = V.str (Str.ofString "-") := sgn_ne t_mi n1
          have hc0 : atI (S (Tk.leaf (N.num z)).wd).cps.toList 0 = some c := atI_nat (j := 0) (by show (numT z)[0]? = some c; rw [ew]; rfl)
          have hcl' : ¬ c ∈ (Str.ofString "abcdefghijklmnopqrstuvwxyz").cps.toList := hcl
          obtain ⟨i1, i2⟩ := int_numT (show z.natAbs < 10 ^ 200 from ok1)
          have i1 : intText? (S (Tk.leaf (N.num z)).wd) = some z := i1
          have i2 : (S (Tk.leaf (N.num z)).wd).length ≤ 640 := i2
          walk_at "gb go"
          exact fin _ _ _ rfl
    · rintro σ H' ⟨ls, v2, v3, rfl, hS, hP⟩
      rw [List.length_map, List.length_map, List.length_map, List.drop_length] at hP
      have hP : some (ls.map (·.2)) = some [[n]] := hP
      injection hP with hP
      obtain ⟨l, rfl, e2⟩ : ∃ l, ls = [l] ∧ l.2 = [n] := by
        rcases ls with _ | ⟨l, _ | ⟨m, rest⟩⟩
        · cases hP
        · exact ⟨l, rfl, by injection hP⟩
        · exact absurd (congrArg List.length hP) (by simp)
      have ha' : H' a = some (.lst [.ref l.1]) := hS.ha
      obtain ⟨vl, el, hl1⟩ := hS.ok l List.mem_cons_self
      rw [e2] at hl1
      obtain ⟨v, rfl, hv⟩ := one_note hl1
      have z1 : atI [V.ref l.1] 0 = some (V.ref l.1) := atI_nat (j := 0) rfl
      have z2 : atI [v] 0 = some v := atI_nat (j := 0) rfl
      have sF := hS.s
      clear hS b0 hP
      walk_at "gb go"
      exact k v H' sF hv
theorem ok_asked (T : Txt K mg A) : FnOk P w K mg base CX0 206 A.f_asked A.d_asked ["_law_text"] (spAsked) := by
  refine T.F_asked.ok sc_asked (fun vs H Q E h => ?_) (fun cdv Ar outer s H vs Q E hr h => ?_)
  · obtain ⟨z, t, rfl, _⟩ := h
    rfl
  · obtain ⟨z, t, rfl, hz, hs, k⟩ := h
    refine ⟨_, (pss_cons (ps_set (i := 1) sc_asked.nd rfl (Or.inl rfl) (pe_call (ok_wrong T) (hr.mono (by decide)) rfl T.g_wrong T.F_wrong.kp T.b_wrong .nil pass0 (pa_cons (pv 0) pa_nil)))
        (pss_cons (L2N.ps_try_as (i := 3) rfl rfl sc_asked.nd rfl rfl ⟨rfl, by decide, Or.inl T.g_GangError⟩ takes0N (fun W pn xe tk _ => (pss_one (ps_set (i := 2) sc_asked.nd rfl (Or.inl rfl) (pe_callS (ok_read_note T) (hr.mono (by decide)) rfl T.g_read_note T.F_read_note.kp T.b_read_note (fun σ => L2N.passAt tk σ) (pa_cons (pv 0) pa_nil))))) (fun a oe cls d pn hz hf => (pss_cons (ps_if (PW.pt (pw_or (pt_not (pt_val (pe_callB (call_isX hz.zc hf) (by rfl) T.n_isinstance (by decide +kernel) (pa_cons (pv 3) (pa_cons (pe_glob (v := .ref A.c_BadNote) rfl T.g_BadNote rfl) pa_nil))) (by intro _; rfl))) (pw_or (pt_not (pt_val (pe_callB (call_isX hz.zc hf) (by rfl) T.n_isinstance (by decide +kernel) (pa_cons (pv 3) (pa_cons (pe_bltn (v := .ty "ValueError") (by rfl) T.n_ValueError (by decide +kernel) rfl) pa_nil))) (by intro _; rfl))) (pw_or1 (pt_val (pe_callB (call_isXT hz.zc hf) (by rfl) T.n_isinstance (by decide +kernel) (pa_cons (pv 3) (pa_cons (pe_tup (pa_cons (pe_glob (v := .ref A.c_BadLine) rfl T.g_BadLine rfl) (pa_cons (pe_glob (v := .ref A.c_BadCertificate) rfl T.g_BadCertificate rfl) pa_nil))) pa_nil))) (by intro _; rfl)))))) (pss_one (ps_ret pe_bl)) pss_nil)
        (pss_one (ps_ret (pe_and (pe_cmpR op_ne (pv 1) (pe_un un_neg pe_int) (nomark _)) (pe_and (L2H.pe_callH (okh_whole T) (roomH_suite hr (show 1 ≤ 205 by decide)) (hotC_suite hz hf) rfl T.g_whole T.F_whole.kp T.b_whole passH0 (pa_cons (pe_xf T.xf_BadNote T.x_BadNote.noS hz.zc hf (pv 3)) pa_nil)) (pe_one (pe_cmpR op_eq (pe_xf T.xf_BadNote T.x_BadNote.noS hz.zc hf (pv 3)) (pv 1) (nomark _))))))))))
        (pss_one (ps_ret (pe_and (pe_cmpR op_eq (pv 1) (pe_un un_neg pe_int) (nomark _)) (pe_and (pe_call (ok_same T) (hr.mono (by decide)) rfl T.g_same T.F_same.kp T.b_same .nil pass0 (pa_cons (pv 2) (pa_cons (pe_call (ok_parsed T) (hr.mono (by decide)) rfl T.g_parsed T.F_parsed.kp T.b_parsed .nil pass0 (pa_cons (pv 0) pa_nil)) (pa_cons (pe_op op_add (pe_callB call_len_str (by rfl) T.n_len (by decide +kernel) (pa_cons (pv 0) pa_nil)) pe_int) pa_nil)))) (pe_one (pe_cmpR op_eq (pe_call (ok_write_note T 101) (hr.mono (by omega)) rfl T.g_write_note T.F_write_note.kp T.b_write_note .nil pass0 (pa_cons (pv 2) pa_nil)) (pv 0) (nomark _))))))))), ?_⟩
    obtain ⟨rfl⟩ := hz
    have hsm : small t := by have := hs.le; unfold small; omega
    have hz : IsS (S t) t := ⟨rfl⟩
    repeat' ((fail_if_success (show ∀ z : Int, WR _ z → _)); walk_at "gb step")
    intro w ⟨hw⟩
    rw [walk_note] at hw
    cases hR : rpart t 100 0 with
    | bad b =>
      rw [hR] at hw
      have hw : w = (b : Int) := hw
      subst hw
      have hrn : RN t (.bad b) := ⟨by unfold rnote; rw [hR]⟩
      walk_at "gb go"
      refine ⟨fun _ ex hex => ?_, fun q => nomatch q⟩
      clear hR hw hrn
      walk_at "gb go"
      rename_i d Hd sd ed _ p hp
      have kk := k _ (sd.trans (same_new (o := .tup [V.ref A.c_BadLine, V.ref A.c_BadCertificate]) hp))
      rw [← decide_eq_true (rfl : V.int (b : Int) = V.int (b : Int))] at kk
      exact kk
    | got n j =>
      rw [hR] at hw
      by_cases hj : j < t.length
      · have hw : w = (j : Int) := by rw [hw]; show code (if j < t.length then some j else none) = _; rw [if_pos hj]; rfl
        subst hw
        have hrn : RN t (.bad j) := ⟨by unfold rnote; rw [hR]; show (if j < t.length then R.bad j else _) = _; rw [if_pos hj]⟩
        walk_at "gb go"
        refine ⟨fun _ ex hex => ?_, fun q => nomatch q⟩
        clear hR hw hrn
        walk_at "gb go"
        rename_i d Hd sd ed _ p hp
        have kk := k _ (sd.trans (same_new (o := .tup [V.ref A.c_BadLine, V.ref A.c_BadCertificate]) hp))
        rw [← decide_eq_true (rfl : V.int (j : Int) = V.int (j : Int))] at kk
        exact kk
      · have hw : w = -1 := by rw [hw]; show code (if j < t.length then some j else none) = _; rw [if_neg hj]; rfl
        subst hw
        have hrn : RN t (.got n j) := ⟨by unfold rnote; rw [hR]; show (if j < t.length then R.bad j else _) = _; rw [if_neg hj]⟩
        obtain ⟨p1, p2⟩ := rpart_pos _ _ _ _ hR
        have hj : j = t.length := by omega
        obtain ⟨q1, q2, q3⟩ := back_part _ _ _ _ hR
        rw [hj, cut_all'] at q1
        have hIT : IsTxt n t := ⟨q1⟩
        have hIS : IsS (S t) n.txt := ⟨by rw [← q1]⟩
        have hLm : Lim n.txt 200000 := by rw [← q1]; exact hs
        have hd1 : n.dep < 100 + 1 := by omega
        have hsz := sz_le n q2
        rw [← q1] at hsz
        have hlt : (n.sz : Int) < ((S t).length : Nat) + 1 := by rw [S_len]; omega
        have hlt2 : MB ((((S t).length : Nat) : Int) + 1) := ⟨by rw [S_len]; have := hs.le; omega⟩
        clear hj p1 p2 hR hw q1 q3 hsz
        walk_at "gb go"
        rename_i H1 s1 _ _ H2 s2 _ H3 s3 H4 s4
        rw [decide_eq_true rfl]
        exact k _ (s1.trans (s2.trans (s3.trans s4)))
theorem ok_char (T : Txt K mg A) : FnOk P w K mg base CX0 2 A.f_char A.d_char ["_law_pool_here"] (spChar) := by
  refine T.F_char.ok sc_char (fun vs H Q E h => ?_) (fun cdv Ar outer s H vs Q E hr h => ?_)
  · obtain ⟨p, rfl, _⟩ := h
    rfl
  · obtain ⟨p, rfl, hP, k⟩ := h
    refine ⟨_, (pss_cons (ps_if (pt_cmpR op_eq (pe_call (ok_draw T) (hr.mono (by decide)) rfl T.g_draw T.F_draw.kp T.b_draw .nil pass0 (pa_cons (pv 0) (pa_cons pe_int pa_nil))) pe_int (nomark _)) (pss_one (ps_ret (pe_ix ix_str pe_str (pe_call (ok_draw T) (hr.mono (by decide)) rfl T.g_draw T.F_draw.kp T.b_draw .nil pass0 (pa_cons (pv 0) (pa_cons pe_int pa_nil))) (fun _ _ => rfl)))) pss_nil)
        (pss_cons (ps_set (i := 1) sc_char.nd rfl (Or.inl rfl) pe_str)
        (pss_cons (ps_set (i := 1) sc_char.nd rfl (Or.inl rfl) (pe_op op_add_str (pv 1) pe_str))
        (pss_one (ps_ret (pe_ix ix_str (pv 1) (pe_call (ok_draw T) (hr.mono (by decide)) rfl T.g_draw T.F_draw.kp T.b_draw .nil pass0 (pa_cons (pv 0) (pa_cons pe_int pa_nil))) (fun _ _ => rfl))))))), ?_⟩
    walk_at "gb go"
    · exact k _ _ (by assumption) (by walk_at "gb but")
    · exact k _ _ (by assumption) (by walk_at "gb but")
theorem ok_changed (T : Txt K mg A) : FnOk P w K mg base CX0 3 A.f_changed A.d_changed ["_law_pool_here", "_law_text"] (spChg) := by
  refine T.F_changed.ok sc_changed (fun vs H Q E h => ?_) (fun cdv Ar outer s H vs Q E hr h => ?_)
  · obtain ⟨p, z, n, rfl, _⟩ := h
    rfl
  · obtain ⟨p, z, n, rfl, hP, hz, hn, k⟩ := h
    refine ⟨_, (pss_cons (ps_set (i := 2) sc_changed.nd rfl (Or.inl rfl) (pe_call (ok_draw T) (hr.mono (by decide)) rfl T.g_draw T.F_draw.kp T.b_draw .nil pass0 (pa_cons (pv 0) (pa_cons pe_int pa_nil))))
        (pss_cons (ps_set (i := 3) sc_changed.nd rfl (Or.inl rfl) (pe_call (ok_draw T) (hr.mono (by decide)) rfl T.g_draw T.F_draw.kp T.b_draw .nil pass0 (pa_cons (pv 0) (pa_cons (pe_op op_add (pe_callB call_len_str (by rfl) T.n_len (by decide +kernel) (pa_cons (pv 1) pa_nil)) pe_int) pa_nil))))
        (pss_cons (ps_if (pt_cmpR op_eq (pv 2) pe_int (nomark _)) (pss_one (ps_ret (pe_op op_add_str (pe_op op_add_str (pe_slice sl_str (pv 1) po_none (po_some (pv 3))) (pe_call (ok_char T) (hr.mono (by decide)) rfl T.g_char T.F_char.kp T.b_char .nil pass0 (pa_cons (pv 0) pa_nil))) (pe_slice sl_str (pv 1) (po_some (pe_op op_add (pv 3) pe_int)) po_none)))) pss_nil)
        (pss_cons (ps_if (pt_cmpR op_eq (pv 2) pe_int (nomark _)) (pss_one (ps_ret (pe_op op_add_str (pe_op op_add_str (pe_slice sl_str (pv 1) po_none (po_some (pv 3))) (pe_call (ok_char T) (hr.mono (by decide)) rfl T.g_char T.F_char.kp T.b_char .nil pass0 (pa_cons (pv 0) pa_nil))) (pe_slice sl_str (pv 1) (po_some (pv 3)) po_none)))) pss_nil)
        (pss_cons (ps_if (pt_cmpR op_eq (pv 2) pe_int (nomark _)) (pss_cons (ps_set (i := 4) sc_changed.nd rfl (Or.inl rfl) (pe_call (ok_char T) (hr.mono (by decide)) rfl T.g_char T.F_char.kp T.b_char .nil pass0 (pa_cons (pv 0) pa_nil)))
        (pss_one (ps_ret (pe_op op_add_str (pe_op op_add_str (pe_slice sl_str (pv 1) po_none (po_some (pv 3))) (pe_op op_mul_str (pv 4) (pe_op op_add pe_int (pe_call (ok_draw T) (hr.mono (by decide)) rfl T.g_draw T.F_draw.kp T.b_draw .nil pass0 (pa_cons (pv 0) (pa_cons pe_int pa_nil)))))) (pe_slice sl_str (pv 1) (po_some (pv 3)) po_none))))) pss_nil)
        (pss_cons (ps_if (pt_cmpR op_eq (pv 2) pe_int (nomark _)) (pss_one (ps_ret (pe_op op_add_str (pe_slice sl_str (pv 1) po_none (po_some (pv 3))) (pe_slice sl_str (pv 1) (po_some (pe_op op_add (pv 3) pe_int)) po_none)))) pss_nil)
        (pss_one (ps_ret (pe_slice sl_str (pv 1) po_none (po_some (pv 3))))))))))), ?_⟩
    walk_at "gb go"
    all_goals (refine k _ _ ?_ (by walk_at "gb pool") (by walk_at "gb but"))
    all_goals (first | with_reducible exact ch0 (by assumption) hz | with_reducible exact ch1 (by assumption) hz | with_reducible exact ch2 (by assumption) hz (by assumption) (by assumption) | with_reducible exact ch3 (by assumption) hz | with_reducible exact ch4 hz)
theorem ok_odd (T : Txt K mg A) : FnOk P w K mg base CX0 1 A.f_odd A.d_odd ["_law_at"] (spLOdd) := by
  refine T.F_odd.ok sc_odd (fun vs H Q E h => ?_) (fun cdv Ar outer s H vs Q E hr h => ?_)
  · obtain ⟨i, rfl, _⟩ := h
    rfl
  · obtain ⟨i, rfl, h0, h1, k⟩ := h
    refine ⟨_, (pss_cons (ps_set (i := 1) sc_odd.nd rfl (Or.inl rfl) (pe_lst (pa_cons pe_str (pa_cons pe_str (pa_cons pe_str (pa_cons pe_str (pa_cons pe_str (pa_cons pe_str (pa_cons pe_str (pa_cons pe_str (pa_cons pe_str (pa_cons pe_str (pa_cons pe_str (pa_cons pe_str (pa_cons pe_str (pa_cons pe_str (pa_cons pe_str (pa_cons pe_str (pa_cons pe_str pa_nil)))))))))))))))))))
        (pss_cons (ps_set (i := 1) sc_odd.nd rfl (Or.inl rfl) (pe_op op_cat (pv 1) (pe_lst (pa_cons pe_str (pa_cons pe_str (pa_cons pe_str (pa_cons pe_str (pa_cons pe_str (pa_cons pe_str (pa_cons pe_str (pa_cons pe_str (pa_cons pe_str (pa_cons pe_str (pa_cons pe_str (pa_cons pe_str (pa_cons pe_str pa_nil))))))))))))))))
        (pss_one (ps_ret (pe_ix (ix_listK K) (pv 1) (pv 0) (fun _ _ => rfl)))))), ?_⟩
    walk_at "gb go"
    refine k _ _ ?_ (by walk_at "gb same")
    exact (odd_at (n := 30) (by decide +kernel) rfl (by omega) (by omega)).choose_spec.2
theorem ok_law (T : Txt K mg A) : FnOk P w K mg base CX0 208 A.f_law A.d_law ["_law_script"] (spLaw K) := by
  refine T.F_law.ok sc_law (fun vs H Q E h => ?_) (fun cdv Ar outer s H vs Q E hr h => ?_)
  · obtain ⟨sc, ns, rfl, _⟩ := h
    rfl
  · obtain ⟨sc, ns, rfl, hS, hl, hb, k⟩ := h
    refine ⟨_, (pss_cons (ps_set (i := 1) sc_law.nd rfl (Or.inl rfl) (pe_call (ok_pool T) (hr.mono (by decide)) rfl T.g_pool T.F_pool.kp T.b_pool .nil pass0 (pa_cons (pv 0) pa_nil)))
        (pss_cons (ps_set (i := 2) sc_law.nd rfl (Or.inl rfl) (pe_ix (ix_tupK K) (pe_call (ok_note T) (hr.mono (by decide)) rfl T.g_note T.F_note.kp T.b_note .nil pass0 (pa_cons (pv 1) pa_nil)) pe_int (fun _ _ => rfl)))
        (pss_cons (ps_if (PW.pt (pw_or (pt_not (pt_val (pe_call (ok_asked T) (hr.mono (by decide)) rfl T.g_asked T.F_asked.kp T.b_asked .nil pass0 (pa_cons (pv 2) pa_nil)) (by intro _; rfl))) (pw_or1 (pt_not (pt_val (pe_call (ok_asked T) (hr.mono (by decide)) rfl T.g_asked T.F_asked.kp T.b_asked .nil pass0 (pa_cons (pe_call (ok_odd T) (hr.mono (by decide)) rfl T.g_odd T.F_odd.kp T.b_odd .nil pass0 (pa_cons (pe_call (ok_draw T) (hr.mono (by decide)) rfl T.g_draw T.F_draw.kp T.b_draw .nil pass0 (pa_cons (pv 1) (pa_cons pe_int pa_nil))) pa_nil)) pa_nil)) (by intro _; rfl)))))) (pss_one (ps_ret pe_bl)) pss_nil)
        (pss_cons (ps_for PassesOwn.never rfl (pi_range1 rfl T.n_range (pa_cons pe_int pa_nil)) (pg_name (i := 3) sc_law.nd rfl (Or.inl rfl))
        (pss_cons (ps_set (i := 4) sc_law.nd rfl (Or.inl rfl) (pv 2))
        (pss_cons (ps_for PassesOwn.never rfl (pi_range1 rfl T.n_range (pa_cons (pe_call (ok_draw T) (hr.mono (by decide)) rfl T.g_draw T.F_draw.kp T.b_draw .nil pass0 (pa_cons (pv 1) (pa_cons pe_int pa_nil))) pa_nil)) (pg_name (i := 5) sc_law.nd rfl (Or.inl rfl))
        (pss_one (ps_set (i := 4) sc_law.nd rfl (Or.inl rfl) (pe_call (ok_changed T) (hr.mono (by decide)) rfl T.g_changed T.F_changed.kp T.b_changed .nil pass0 (pa_cons (pv 1) (pa_cons (pv 4) pa_nil))))))
        (pss_one (ps_if (pt_not (pt_val (pe_call (ok_asked T) (hr.mono (by decide)) rfl T.g_asked T.F_asked.kp T.b_asked .nil pass0 (pa_cons (pv 4) pa_nil)) (by intro _; rfl))) (pss_one (ps_ret pe_bl)) pss_nil)))))
        (pss_one (ps_ret (pe_call (ok_asked T) (hr.mono (by decide)) rfl T.g_asked T.F_asked.kp T.b_asked .nil pass0 (pa_cons (pv 2) pa_nil)))))))), ?_⟩
    walk_at "gb go"
    rename_i p H1 hp1 P1 s1 q v n H2 eq nt ok1 dp lt P2 s2 H3 s3 r H4 r0 r1 P4 s4 t2 H5 l2 s5 H6 s6
    have P6 : PoolAt H6 p := P4.mono (s5.trans s6)
    have hT : ∀ z, z = S n.txt → z.length ≤ 100000 := fun z hz => by rw [hz, S_len]; exact lt
    clear eq nt ok1 dp P2 s2 s3 P4 s4 s5 s6 s1 P1 hp1 l2 r0 r1 hS hl hb
    generalize S n.txt = z at hT ⊢
    have hz := hT z rfl
    clear hT lt
    exact (for_range (lo := 0) (n := 3) (fun i σ H' => ∃ v3 v4 v5 : Option V, σ = [some (.ref sc), some (.ref p), some (.str z), v3, v4, v5] ∧ PoolAt H' p ∧ 0 ≤ i) ⟨none, none, none, rfl, P6, Nat.zero_le _⟩ (by
      clear P6 k
      rintro i σ H' hi ⟨v3, v4, v5, rfl, P7, _⟩
      walk_at "gb go"
      rename_i r H8 r0 r1 P8 s8
      refine for_range (lo := 0) (n := r.toNat) (fun j σ H' => ∃ (y : Str) (v5 : Option V), σ = [some (.ref sc), some (.ref p), some (.str z), some (.int (0 + (i : Int))), some (.str y), v5] ∧ PoolAt H' p ∧ y.length ≤ 100000 + 210 * j) ⟨z, v5, rfl, P8, hz⟩ ?_ ?_
      · clear P8 s8 P7
        rintro j σ H9 hj ⟨y, v5, rfl, P9, hy⟩
        have hj2 : j < 3 := by omega
        walk_at "gb go"
        omega
      · clear P8 s8 P7
        rintro σ H9 ⟨y, v5, rfl, P9, hy⟩
        have hy2 : y.length ≤ 200000 := by omega
        walk_at "gb go"
        exact Nat.zero_le _) (by
      clear P6
      rintro σ H' ⟨v3, v4, v5, rfl, P7, _⟩
      walk_at "gb go"
      exact k _))
end
theorem all_mk {P : Program} {w : World} {K : PySem.W.Frag} {h : Heap} {mg : Str → Option Value} {fa : Addr} (X : K.In h) (G : h.Ns mainGlobals mg) (hfa : mg "law" = some (.ref fa))
    {c_GangError c_BadNote c_BadLine c_BadCertificate f_GangError_init f_write_note f_end_of f_begins_number f_read_number f_read_part f_read_tuple f_read_note f_pool f_draw f_word f_integer f_leaf f_close f_note f_whole f_same f_next f_wrong f_parsed f_asked f_char f_changed f_odd f_law : Addr}
    {od_GangError_init an_GangError_init : Option Addr} {sl_GangError_init : Array (Option Value)} {oc_GangError_init kV_GangError_init dc_GangError_init pm_GangError_init cd_GangError_init ct_GangError_init : Value}
    {od_write_note an_write_note : Option Addr} {sl_write_note : Array (Option Value)} {oc_write_note kV_write_note dc_write_note pm_write_note cd_write_note ct_write_note : Value}
    {od_end_of an_end_of : Option Addr} {sl_end_of : Array (Option Value)} {oc_end_of kV_end_of dc_end_of pm_end_of cd_end_of ct_end_of : Value}
    {od_begins_number an_begins_number : Option Addr} {sl_begins_number : Array (Option Value)} {oc_begins_number kV_begins_number dc_begins_number pm_begins_number cd_begins_number ct_begins_number : Value}
    {od_read_number an_read_number : Option Addr} {sl_read_number : Array (Option Value)} {oc_read_number kV_read_number dc_read_number pm_read_number cd_read_number ct_read_number : Value}
    {od_read_part an_read_part : Option Addr} {sl_read_part : Array (Option Value)} {oc_read_part kV_read_part dc_read_part pm_read_part cd_read_part ct_read_part : Value}
    {od_read_tuple an_read_tuple : Option Addr} {sl_read_tuple : Array (Option Value)} {oc_read_tuple kV_read_tuple dc_read_tuple pm_read_tuple cd_read_tuple ct_read_tuple : Value}
    {od_read_note an_read_note : Option Addr} {sl_read_note : Array (Option Value)} {oc_read_note kV_read_note dc_read_note pm_read_note cd_read_note ct_read_note : Value}
    {od_pool an_pool : Option Addr} {sl_pool : Array (Option Value)} {oc_pool kV_pool dc_pool pm_pool cd_pool ct_pool : Value}
    {od_draw an_draw : Option Addr} {sl_draw : Array (Option Value)} {oc_draw kV_draw dc_draw pm_draw cd_draw ct_draw : Value}
    {od_word an_word : Option Addr} {sl_word : Array (Option Value)} {oc_word kV_word dc_word pm_word cd_word ct_word : Value}
    {od_integer an_integer : Option Addr} {sl_integer : Array (Option Value)} {oc_integer kV_integer dc_integer pm_integer cd_integer ct_integer : Value}
    {od_leaf an_leaf : Option Addr} {sl_leaf : Array (Option Value)} {oc_leaf kV_leaf dc_leaf pm_leaf cd_leaf ct_leaf : Value}
    {od_close an_close : Option Addr} {sl_close : Array (Option Value)} {oc_close kV_close dc_close pm_close cd_close ct_close : Value}
    {od_note an_note : Option Addr} {sl_note : Array (Option Value)} {oc_note kV_note dc_note pm_note cd_note ct_note : Value}
    {od_whole an_whole : Option Addr} {sl_whole : Array (Option Value)} {oc_whole kV_whole dc_whole pm_whole cd_whole ct_whole : Value}
    {od_same an_same : Option Addr} {sl_same : Array (Option Value)} {oc_same kV_same dc_same pm_same cd_same ct_same : Value}
    {od_next an_next : Option Addr} {sl_next : Array (Option Value)} {oc_next kV_next dc_next pm_next cd_next ct_next : Value}
    {od_wrong an_wrong : Option Addr} {sl_wrong : Array (Option Value)} {oc_wrong kV_wrong dc_wrong pm_wrong cd_wrong ct_wrong : Value}
    {od_parsed an_parsed : Option Addr} {sl_parsed : Array (Option Value)} {oc_parsed kV_parsed dc_parsed pm_parsed cd_parsed ct_parsed : Value}
    {od_asked an_asked : Option Addr} {sl_asked : Array (Option Value)} {oc_asked kV_asked dc_asked pm_asked cd_asked ct_asked : Value}
    {od_char an_char : Option Addr} {sl_char : Array (Option Value)} {oc_char kV_char dc_char pm_char cd_char ct_char : Value}
    {od_changed an_changed : Option Addr} {sl_changed : Array (Option Value)} {oc_changed kV_changed dc_changed pm_changed cd_changed ct_changed : Value}
    {od_odd an_odd : Option Addr} {sl_odd : Array (Option Value)} {oc_odd kV_odd dc_odd pm_odd cd_odd ct_odd : Value}
    {od_law an_law : Option Addr} {sl_law : Array (Option Value)} {oc_law kV_law dc_law pm_law cd_law ct_law : Value}
    {nm_GangError q_GangError : Str} {N_GangError : Addr} {bs_GangError bm_GangError : List Value} {sn_GangError : List Str} {sub_GangError : List Value} {ab_GangError : Bool} {col_GangError : Option Bool} {dd_GangError : Option Addr} {m0_GangError m1_GangError m2_GangError m3_GangError m5_GangError : Option Value}
    {nm_BadNote q_BadNote : Str} {N_BadNote : Addr} {bs_BadNote bm_BadNote : List Value} {sn_BadNote : List Str} {sub_BadNote : List Value} {ab_BadNote : Bool} {col_BadNote : Option Bool} {dd_BadNote : Option Addr} {m0_BadNote m1_BadNote m2_BadNote m3_BadNote m5_BadNote : Option Value}
    {nm_BadLine q_BadLine : Str} {N_BadLine : Addr} {bs_BadLine bm_BadLine : List Value} {sn_BadLine : List Str} {sub_BadLine : List Value} {ab_BadLine : Bool} {col_BadLine : Option Bool} {dd_BadLine : Option Addr} {m0_BadLine m1_BadLine m2_BadLine m3_BadLine m5_BadLine : Option Value}
    {nm_BadCertificate q_BadCertificate : Str} {N_BadCertificate : Addr} {bs_BadCertificate bm_BadCertificate : List Value} {sn_BadCertificate : List Str} {sub_BadCertificate : List Value} {ab_BadCertificate : Bool} {col_BadCertificate : Option Bool} {dd_BadCertificate : Option Addr} {m0_BadCertificate m1_BadCertificate m2_BadCertificate m3_BadCertificate m5_BadCertificate : Option Value}
    {tk_LETTERS : Tok}
    {tk_DIGITS : Tok}
    {tk_WORD_CHARS : Tok}
    {tk_MOST_LETTERS : Tok}
    {tk_MOST_DIGITS : Tok}
    {tk_DEEPEST : Tok}
    (nb_ValueError : PySem.W.nsIn K mainGlobals "ValueError" = some none)
    (nb_bool : PySem.W.nsIn K mainGlobals "bool" = some none)
    (nb_int : PySem.W.nsIn K mainGlobals "int" = some none)
    (nb_isinstance : PySem.W.nsIn K mainGlobals "isinstance" = some none)
    (nb_len : PySem.W.nsIn K mainGlobals "len" = some none)
    (nb_list : PySem.W.nsIn K mainGlobals "list" = some none)
    (nb_range : PySem.W.nsIn K mainGlobals "range" = some none)
    (nb_str : PySem.W.nsIn K mainGlobals "str" = some none)
    (nb_tuple : PySem.W.nsIn K mainGlobals "tuple" = some none)
    (nb_zip : PySem.W.nsIn K mainGlobals "zip" = some none)
    (ag_GangError : PySem.W.nsIn K mainGlobals "GangError" = some (some (.ref c_GangError)))
    (ag_BadNote : PySem.W.nsIn K mainGlobals "BadNote" = some (some (.ref c_BadNote)))
    (ag_BadLine : PySem.W.nsIn K mainGlobals "BadLine" = some (some (.ref c_BadLine)))
    (ag_BadCertificate : PySem.W.nsIn K mainGlobals "BadCertificate" = some (some (.ref c_BadCertificate)))
    (at_GangError_init : PySem.W.findIn K (.ref c_GangError) "__init__" = some (some (.ref f_GangError_init)))
    (lk_GangError_init : K.lookup f_GangError_init = some ⟨oc_GangError_init, od_GangError_init, .func (PySem.W.fnOf "__init__" "GangError.__init__" (defArgs s_GangError_init) (defBody s_GangError_init) (defScope s_GangError_init) .none kV_GangError_init dc_GangError_init pm_GangError_init an_GangError_init cd_GangError_init ct_GangError_init), sl_GangError_init⟩)
    (co_GangError_init : PySem.W.codeIn K cd_GangError_init "GangError.__init__" = true)
    (ke_GangError_init : PySem.W.keepIn K (.ref f_GangError_init) = true)
    (fn_GangError_init : PySem.W.isFn K (.ref f_GangError_init) = true)
    (at_write_note : PySem.W.nsIn K mainGlobals "write_note" = some (some (.ref f_write_note)))
    (lk_write_note : K.lookup f_write_note = some ⟨oc_write_note, od_write_note, .func (PySem.W.fnOf "write_note" "write_note" (defArgs s_write_note) (defBody s_write_note) (defScope s_write_note) .none kV_write_note dc_write_note pm_write_note an_write_note cd_write_note ct_write_note), sl_write_note⟩)
    (co_write_note : PySem.W.codeIn K cd_write_note "write_note" = true)
    (ke_write_note : PySem.W.keepIn K (.ref f_write_note) = true)
    (at_end_of : PySem.W.nsIn K mainGlobals "end_of" = some (some (.ref f_end_of)))
    (lk_end_of : K.lookup f_end_of = some ⟨oc_end_of, od_end_of, .func (PySem.W.fnOf "end_of" "end_of" (defArgs s_end_of) (defBody s_end_of) (defScope s_end_of) .none kV_end_of dc_end_of pm_end_of an_end_of cd_end_of ct_end_of), sl_end_of⟩)
    (co_end_of : PySem.W.codeIn K cd_end_of "end_of" = true)
    (ke_end_of : PySem.W.keepIn K (.ref f_end_of) = true)
    (at_begins_number : PySem.W.nsIn K mainGlobals "begins_number" = some (some (.ref f_begins_number)))
    (lk_begins_number : K.lookup f_begins_number = some ⟨oc_begins_number, od_begins_number, .func (PySem.W.fnOf "begins_number" "begins_number" (defArgs s_begins_number) (defBody s_begins_number) (defScope s_begins_number) .none kV_begins_number dc_begins_number pm_begins_number an_begins_number cd_begins_number ct_begins_number), sl_begins_number⟩)
    (co_begins_number : PySem.W.codeIn K cd_begins_number "begins_number" = true)
    (ke_begins_number : PySem.W.keepIn K (.ref f_begins_number) = true)
    (at_read_number : PySem.W.nsIn K mainGlobals "read_number" = some (some (.ref f_read_number)))
    (lk_read_number : K.lookup f_read_number = some ⟨oc_read_number, od_read_number, .func (PySem.W.fnOf "read_number" "read_number" (defArgs s_read_number) (defBody s_read_number) (defScope s_read_number) .none kV_read_number dc_read_number pm_read_number an_read_number cd_read_number ct_read_number), sl_read_number⟩)
    (co_read_number : PySem.W.codeIn K cd_read_number "read_number" = true)
    (ke_read_number : PySem.W.keepIn K (.ref f_read_number) = true)
    (at_read_part : PySem.W.nsIn K mainGlobals "read_part" = some (some (.ref f_read_part)))
    (lk_read_part : K.lookup f_read_part = some ⟨oc_read_part, od_read_part, .func (PySem.W.fnOf "read_part" "read_part" (defArgs s_read_part) (defBody s_read_part) (defScope s_read_part) .none kV_read_part dc_read_part pm_read_part an_read_part cd_read_part ct_read_part), sl_read_part⟩)
    (co_read_part : PySem.W.codeIn K cd_read_part "read_part" = true)
    (ke_read_part : PySem.W.keepIn K (.ref f_read_part) = true)
    (at_read_tuple : PySem.W.nsIn K mainGlobals "read_tuple" = some (some (.ref f_read_tuple)))
    (lk_read_tuple : K.lookup f_read_tuple = some ⟨oc_read_tuple, od_read_tuple, .func (PySem.W.fnOf "read_tuple" "read_tuple" (defArgs s_read_tuple) (defBody s_read_tuple) (defScope s_read_tuple) .none kV_read_tuple dc_read_tuple pm_read_tuple an_read_tuple cd_read_tuple ct_read_tuple), sl_read_tuple⟩)
    (co_read_tuple : PySem.W.codeIn K cd_read_tuple "read_tuple" = true)
    (ke_read_tuple : PySem.W.keepIn K (.ref f_read_tuple) = true)
    (at_read_note : PySem.W.nsIn K mainGlobals "read_note" = some (some (.ref f_read_note)))
    (lk_read_note : K.lookup f_read_note = some ⟨oc_read_note, od_read_note, .func (PySem.W.fnOf "read_note" "read_note" (defArgs s_read_note) (defBody s_read_note) (defScope s_read_note) .none kV_read_note dc_read_note pm_read_note an_read_note cd_read_note ct_read_note), sl_read_note⟩)
    (co_read_note : PySem.W.codeIn K cd_read_note "read_note" = true)
    (ke_read_note : PySem.W.keepIn K (.ref f_read_note) = true)
    (at_pool : PySem.W.nsIn K mainGlobals "_law_pool" = some (some (.ref f_pool)))
    (lk_pool : K.lookup f_pool = some ⟨oc_pool, od_pool, .func (PySem.W.fnOf "_law_pool" "_law_pool" (defArgs s_pool) (defBody s_pool) (defScope s_pool) .none kV_pool dc_pool pm_pool an_pool cd_pool ct_pool), sl_pool⟩)
    (co_pool : PySem.W.codeIn K cd_pool "_law_pool" = true)
    (ke_pool : PySem.W.keepIn K (.ref f_pool) = true)
    (at_draw : PySem.W.nsIn K mainGlobals "_law_draw" = some (some (.ref f_draw)))
    (lk_draw : K.lookup f_draw = some ⟨oc_draw, od_draw, .func (PySem.W.fnOf "_law_draw" "_law_draw" (defArgs s_draw) (defBody s_draw) (defScope s_draw) .none kV_draw dc_draw pm_draw an_draw cd_draw ct_draw), sl_draw⟩)
    (co_draw : PySem.W.codeIn K cd_draw "_law_draw" = true)
    (ke_draw : PySem.W.keepIn K (.ref f_draw) = true)
    (at_word : PySem.W.nsIn K mainGlobals "_law_word" = some (some (.ref f_word)))
    (lk_word : K.lookup f_word = some ⟨oc_word, od_word, .func (PySem.W.fnOf "_law_word" "_law_word" (defArgs s_word) (defBody s_word) (defScope s_word) .none kV_word dc_word pm_word an_word cd_word ct_word), sl_word⟩)
    (co_word : PySem.W.codeIn K cd_word "_law_word" = true)
    (ke_word : PySem.W.keepIn K (.ref f_word) = true)
    (at_integer : PySem.W.nsIn K mainGlobals "_law_integer" = some (some (.ref f_integer)))
    (lk_integer : K.lookup f_integer = some ⟨oc_integer, od_integer, .func (PySem.W.fnOf "_law_integer" "_law_integer" (defArgs s_integer) (defBody s_integer) (defScope s_integer) .none kV_integer dc_integer pm_integer an_integer cd_integer ct_integer), sl_integer⟩)
    (co_integer : PySem.W.codeIn K cd_integer "_law_integer" = true)
    (ke_integer : PySem.W.keepIn K (.ref f_integer) = true)
    (at_leaf : PySem.W.nsIn K mainGlobals "_law_leaf" = some (some (.ref f_leaf)))
    (lk_leaf : K.lookup f_leaf = some ⟨oc_leaf, od_leaf, .func (PySem.W.fnOf "_law_leaf" "_law_leaf" (defArgs s_leaf) (defBody s_leaf) (defScope s_leaf) .none kV_leaf dc_leaf pm_leaf an_leaf cd_leaf ct_leaf), sl_leaf⟩)
    (co_leaf : PySem.W.codeIn K cd_leaf "_law_leaf" = true)
    (ke_leaf : PySem.W.keepIn K (.ref f_leaf) = true)
    (at_close : PySem.W.nsIn K mainGlobals "_law_close" = some (some (.ref f_close)))
    (lk_close : K.lookup f_close = some ⟨oc_close, od_close, .func (PySem.W.fnOf "_law_close" "_law_close" (defArgs s_close) (defBody s_close) (defScope s_close) .none kV_close dc_close pm_close an_close cd_close ct_close), sl_close⟩)
    (co_close : PySem.W.codeIn K cd_close "_law_close" = true)
    (ke_close : PySem.W.keepIn K (.ref f_close) = true)
    (at_note : PySem.W.nsIn K mainGlobals "_law_note" = some (some (.ref f_note)))
    (lk_note : K.lookup f_note = some ⟨oc_note, od_note, .func (PySem.W.fnOf "_law_note" "_law_note" (defArgs s_note) (defBody s_note) (defScope s_note) .none kV_note dc_note pm_note an_note cd_note ct_note), sl_note⟩)
    (co_note : PySem.W.codeIn K cd_note "_law_note" = true)
    (ke_note : PySem.W.keepIn K (.ref f_note) = true)
    (at_whole : PySem.W.nsIn K mainGlobals "_law_whole" = some (some (.ref f_whole)))
    (lk_whole : K.lookup f_whole = some ⟨oc_whole, od_whole, .func (PySem.W.fnOf "_law_whole" "_law_whole" (defArgs s_whole) (defBody s_whole) (defScope s_whole) .none kV_whole dc_whole pm_whole an_whole cd_whole ct_whole), sl_whole⟩)
    (co_whole : PySem.W.codeIn K cd_whole "_law_whole" = true)
    (ke_whole : PySem.W.keepIn K (.ref f_whole) = true)
    (at_same : PySem.W.nsIn K mainGlobals "_law_same" = some (some (.ref f_same)))
    (lk_same : K.lookup f_same = some ⟨oc_same, od_same, .func (PySem.W.fnOf "_law_same" "_law_same" (defArgs s_same) (defBody s_same) (defScope s_same) .none kV_same dc_same pm_same an_same cd_same ct_same), sl_same⟩)
    (co_same : PySem.W.codeIn K cd_same "_law_same" = true)
    (ke_same : PySem.W.keepIn K (.ref f_same) = true)
    (at_next : PySem.W.nsIn K mainGlobals "_law_next" = some (some (.ref f_next)))
    (lk_next : K.lookup f_next = some ⟨oc_next, od_next, .func (PySem.W.fnOf "_law_next" "_law_next" (defArgs s_next) (defBody s_next) (defScope s_next) .none kV_next dc_next pm_next an_next cd_next ct_next), sl_next⟩)
    (co_next : PySem.W.codeIn K cd_next "_law_next" = true)
    (ke_next : PySem.W.keepIn K (.ref f_next) = true)
    (at_wrong : PySem.W.nsIn K mainGlobals "_law_wrong" = some (some (.ref f_wrong)))
    (lk_wrong : K.lookup f_wrong = some ⟨oc_wrong, od_wrong, .func (PySem.W.fnOf "_law_wrong" "_law_wrong" (defArgs s_wrong) (defBody s_wrong) (defScope s_wrong) .none kV_wrong dc_wrong pm_wrong an_wrong cd_wrong ct_wrong), sl_wrong⟩)
    (co_wrong : PySem.W.codeIn K cd_wrong "_law_wrong" = true)
    (ke_wrong : PySem.W.keepIn K (.ref f_wrong) = true)
    (at_parsed : PySem.W.nsIn K mainGlobals "_law_parsed" = some (some (.ref f_parsed)))
    (lk_parsed : K.lookup f_parsed = some ⟨oc_parsed, od_parsed, .func (PySem.W.fnOf "_law_parsed" "_law_parsed" (defArgs s_parsed) (defBody s_parsed) (defScope s_parsed) .none kV_parsed dc_parsed pm_parsed an_parsed cd_parsed ct_parsed), sl_parsed⟩)
    (co_parsed : PySem.W.codeIn K cd_parsed "_law_parsed" = true)
    (ke_parsed : PySem.W.keepIn K (.ref f_parsed) = true)
    (at_asked : PySem.W.nsIn K mainGlobals "_law_asked" = some (some (.ref f_asked)))
    (lk_asked : K.lookup f_asked = some ⟨oc_asked, od_asked, .func (PySem.W.fnOf "_law_asked" "_law_asked" (defArgs s_asked) (defBody s_asked) (defScope s_asked) .none kV_asked dc_asked pm_asked an_asked cd_asked ct_asked), sl_asked⟩)
    (co_asked : PySem.W.codeIn K cd_asked "_law_asked" = true)
    (ke_asked : PySem.W.keepIn K (.ref f_asked) = true)
    (at_char : PySem.W.nsIn K mainGlobals "_law_char" = some (some (.ref f_char)))
    (lk_char : K.lookup f_char = some ⟨oc_char, od_char, .func (PySem.W.fnOf "_law_char" "_law_char" (defArgs s_char) (defBody s_char) (defScope s_char) .none kV_char dc_char pm_char an_char cd_char ct_char), sl_char⟩)
    (co_char : PySem.W.codeIn K cd_char "_law_char" = true)
    (ke_char : PySem.W.keepIn K (.ref f_char) = true)
    (at_changed : PySem.W.nsIn K mainGlobals "_law_changed" = some (some (.ref f_changed)))
    (lk_changed : K.lookup f_changed = some ⟨oc_changed, od_changed, .func (PySem.W.fnOf "_law_changed" "_law_changed" (defArgs s_changed) (defBody s_changed) (defScope s_changed) .none kV_changed dc_changed pm_changed an_changed cd_changed ct_changed), sl_changed⟩)
    (co_changed : PySem.W.codeIn K cd_changed "_law_changed" = true)
    (ke_changed : PySem.W.keepIn K (.ref f_changed) = true)
    (at_odd : PySem.W.nsIn K mainGlobals "_law_odd" = some (some (.ref f_odd)))
    (lk_odd : K.lookup f_odd = some ⟨oc_odd, od_odd, .func (PySem.W.fnOf "_law_odd" "_law_odd" (defArgs s_odd) (defBody s_odd) (defScope s_odd) .none kV_odd dc_odd pm_odd an_odd cd_odd ct_odd), sl_odd⟩)
    (co_odd : PySem.W.codeIn K cd_odd "_law_odd" = true)
    (ke_odd : PySem.W.keepIn K (.ref f_odd) = true)
    (at_law : PySem.W.nsIn K mainGlobals "law" = some (some (.ref f_law)))
    (lk_law : K.lookup f_law = some ⟨oc_law, od_law, .func (PySem.W.fnOf "law" "law" (defArgs s_law) (defBody s_law) (defScope s_law) .none kV_law dc_law pm_law an_law cd_law ct_law), sl_law⟩)
    (co_law : PySem.W.codeIn K cd_law "law" = true)
    (ke_law : PySem.W.keepIn K (.ref f_law) = true)
    (kg : PySem.W.specialIn K (.builtin "object.__class__") "__get__" = some (some (.builtin "getset_descriptor.__get__")))
    (kt : PySem.W.takesIn K (.builtin "object.__class__") = some true)
    (xl_GangError : K.lookup c_GangError = some (excClassObj nm_GangError q_GangError c_GangError N_GangError bs_GangError bm_GangError true sn_GangError sub_GangError ab_GangError col_GangError dd_GangError m0_GangError m1_GangError m2_GangError m3_GangError m5_GangError "ValueError.__new__"))
    (xr_GangError : PySem.HandSPX.refsVE bm_GangError = true)
    (xsa_GangError : PySem.W.findIn K (.ref c_GangError) "__setattr__" = some (some (.builtin "object.__setattr__")))
    (xex_GangError : PySem.W.subIn K (.ref c_GangError) (.type "BaseException") = some true)
    (xty_GangError : PySem.W.typeIn K (.ref c_GangError) = some (.type "type"))
    (xkp_GangError : PySem.W.keepIn K (.ref c_GangError) = true)
    (xin_GangError : PySem.W.findIn K (.ref c_GangError) "__init__" = some (some (.ref f_GangError_init)))
    (xno_GangError : PySem.W.findIn K (.ref c_GangError) "subject" = some none)
    (xga_GangError : PySem.W.findIn K (.ref c_GangError) "__getattribute__" = some (some (.builtin "BaseException.__getattribute__")))
    (xgg_GangError : PySem.W.findIn K (.ref c_GangError) "__getattr__" = some none)
    (xhd_GangError : PySem.W.hasDictIn K c_GangError = true)
    (xk1_GangError : PySem.W.findIn K (.ref c_GangError) "__class__" = some (some (.builtin "object.__class__")))
    (xk4_GangError : PySem.W.mroIn K c_GangError (.type "object") = some true)
    (xem_GangError : PySem.W.subIn K (.ref c_GangError) (.ref c_GangError) = some true)
    (xl_BadNote : K.lookup c_BadNote = some (excClassObj nm_BadNote q_BadNote c_BadNote N_BadNote bs_BadNote bm_BadNote true sn_BadNote sub_BadNote ab_BadNote col_BadNote dd_BadNote m0_BadNote m1_BadNote m2_BadNote m3_BadNote m5_BadNote "ValueError.__new__"))
    (xr_BadNote : PySem.HandSPX.refsVE bm_BadNote = true)
    (xsa_BadNote : PySem.W.findIn K (.ref c_BadNote) "__setattr__" = some (some (.builtin "object.__setattr__")))
    (xex_BadNote : PySem.W.subIn K (.ref c_BadNote) (.type "BaseException") = some true)
    (xty_BadNote : PySem.W.typeIn K (.ref c_BadNote) = some (.type "type"))
    (xkp_BadNote : PySem.W.keepIn K (.ref c_BadNote) = true)
    (xin_BadNote : PySem.W.findIn K (.ref c_BadNote) "__init__" = some (some (.ref f_GangError_init)))
    (xno_BadNote : PySem.W.findIn K (.ref c_BadNote) "subject" = some none)
    (xga_BadNote : PySem.W.findIn K (.ref c_BadNote) "__getattribute__" = some (some (.builtin "BaseException.__getattribute__")))
    (xgg_BadNote : PySem.W.findIn K (.ref c_BadNote) "__getattr__" = some none)
    (xhd_BadNote : PySem.W.hasDictIn K c_BadNote = true)
    (xk1_BadNote : PySem.W.findIn K (.ref c_BadNote) "__class__" = some (some (.builtin "object.__class__")))
    (xk4_BadNote : PySem.W.mroIn K c_BadNote (.type "object") = some true)
    (xem_BadNote : PySem.W.subIn K (.ref c_BadNote) (.ref c_GangError) = some true)
    (xl_BadLine : K.lookup c_BadLine = some (excClassObj nm_BadLine q_BadLine c_BadLine N_BadLine bs_BadLine bm_BadLine true sn_BadLine sub_BadLine ab_BadLine col_BadLine dd_BadLine m0_BadLine m1_BadLine m2_BadLine m3_BadLine m5_BadLine "ValueError.__new__"))
    (xr_BadLine : PySem.HandSPX.refsVE bm_BadLine = true)
    (xsa_BadLine : PySem.W.findIn K (.ref c_BadLine) "__setattr__" = some (some (.builtin "object.__setattr__")))
    (xex_BadLine : PySem.W.subIn K (.ref c_BadLine) (.type "BaseException") = some true)
    (xty_BadLine : PySem.W.typeIn K (.ref c_BadLine) = some (.type "type"))
    (xkp_BadLine : PySem.W.keepIn K (.ref c_BadLine) = true)
    (xin_BadLine : PySem.W.findIn K (.ref c_BadLine) "__init__" = some (some (.ref f_GangError_init)))
    (xno_BadLine : PySem.W.findIn K (.ref c_BadLine) "subject" = some none)
    (xga_BadLine : PySem.W.findIn K (.ref c_BadLine) "__getattribute__" = some (some (.builtin "BaseException.__getattribute__")))
    (xgg_BadLine : PySem.W.findIn K (.ref c_BadLine) "__getattr__" = some none)
    (xhd_BadLine : PySem.W.hasDictIn K c_BadLine = true)
    (xk1_BadLine : PySem.W.findIn K (.ref c_BadLine) "__class__" = some (some (.builtin "object.__class__")))
    (xk4_BadLine : PySem.W.mroIn K c_BadLine (.type "object") = some true)
    (xem_BadLine : PySem.W.subIn K (.ref c_BadLine) (.ref c_GangError) = some true)
    (xl_BadCertificate : K.lookup c_BadCertificate = some (excClassObj nm_BadCertificate q_BadCertificate c_BadCertificate N_BadCertificate bs_BadCertificate bm_BadCertificate true sn_BadCertificate sub_BadCertificate ab_BadCertificate col_BadCertificate dd_BadCertificate m0_BadCertificate m1_BadCertificate m2_BadCertificate m3_BadCertificate m5_BadCertificate "ValueError.__new__"))
    (xr_BadCertificate : PySem.HandSPX.refsVE bm_BadCertificate = true)
    (xsa_BadCertificate : PySem.W.findIn K (.ref c_BadCertificate) "__setattr__" = some (some (.builtin "object.__setattr__")))
    (xex_BadCertificate : PySem.W.subIn K (.ref c_BadCertificate) (.type "BaseException") = some true)
    (xty_BadCertificate : PySem.W.typeIn K (.ref c_BadCertificate) = some (.type "type"))
    (xkp_BadCertificate : PySem.W.keepIn K (.ref c_BadCertificate) = true)
    (xin_BadCertificate : PySem.W.findIn K (.ref c_BadCertificate) "__init__" = some (some (.ref f_GangError_init)))
    (xno_BadCertificate : PySem.W.findIn K (.ref c_BadCertificate) "subject" = some none)
    (xga_BadCertificate : PySem.W.findIn K (.ref c_BadCertificate) "__getattribute__" = some (some (.builtin "BaseException.__getattribute__")))
    (xgg_BadCertificate : PySem.W.findIn K (.ref c_BadCertificate) "__getattr__" = some none)
    (xhd_BadCertificate : PySem.W.hasDictIn K c_BadCertificate = true)
    (xk1_BadCertificate : PySem.W.findIn K (.ref c_BadCertificate) "__class__" = some (some (.builtin "object.__class__")))
    (xk4_BadCertificate : PySem.W.mroIn K c_BadCertificate (.type "object") = some true)
    (xem_BadCertificate : PySem.W.subIn K (.ref c_BadCertificate) (.ref c_GangError) = some true)
    (tI_GangError : PySem.W.typeIn K (.ref f_GangError_init) = some (.type "function"))
    (kc_LETTERS : PySem.W.nsIn K mainGlobals "LETTERS" = some (some (.str (Str.ofString "abcdefghijklmnopqrstuvwxyz") tk_LETTERS)))
    (kc_DIGITS : PySem.W.nsIn K mainGlobals "DIGITS" = some (some (.str (Str.ofString "0123456789") tk_DIGITS)))
    (kc_WORD_CHARS : PySem.W.nsIn K mainGlobals "WORD_CHARS" = some (some (.str (Str.ofString "abcdefghijklmnopqrstuvwxyz0123456789-:") tk_WORD_CHARS)))
    (kc_MOST_LETTERS : PySem.W.nsIn K mainGlobals "MOST_LETTERS" = some (some (.int 24 tk_MOST_LETTERS)))
    (kc_MOST_DIGITS : PySem.W.nsIn K mainGlobals "MOST_DIGITS" = some (some (.int 200 tk_MOST_DIGITS)))
    (kc_DEEPEST : PySem.W.nsIn K mainGlobals "DEEPEST" = some (some (.int 100 tk_DEEPEST)))
    (ss_BadNote : PySem.W.subIn K (.ref c_BadNote) (.ref c_BadNote) = some true)
    (su_BadNote_BadNote : PySem.W.subIn K (.ref c_BadNote) (.ref c_BadNote) = some true)
    (su_BadNote_ValueError : PySem.W.subIn K (.ref c_BadNote) (.type "ValueError") = some true)
    (ss_BadLine : PySem.W.subIn K (.ref c_BadLine) (.ref c_BadLine) = some true)
    (su_BadNote_BadLine : PySem.W.subIn K (.ref c_BadNote) (.ref c_BadLine) = some false)
    (ss_BadCertificate : PySem.W.subIn K (.ref c_BadCertificate) (.ref c_BadCertificate) = some true)
    (su_BadNote_BadCertificate : PySem.W.subIn K (.ref c_BadNote) (.ref c_BadCertificate) = some false)
    : ∃ fd : FuncData, (∀ (s : Shared) (v : Value), BindsTo s fd ⟨[v], []⟩ [("_law_script", v)]) ∧ ∀ base : Heap, K.In base → base.Ns mainGlobals mg → FnOk P w K mg base CX0 208 fa fd ["_law_script"] (spLaw K) := by
  have e := hfa.symm.trans (PySem.W.mg_of X G at_law)
  cases e
  let A : Adr := { c_GangError := c_GangError, c_BadNote := c_BadNote, c_BadLine := c_BadLine, c_BadCertificate := c_BadCertificate, f_GangError_init := f_GangError_init, d_GangError_init := PySem.W.fnOf "__init__" "GangError.__init__" (defArgs s_GangError_init) (defBody s_GangError_init) (defScope s_GangError_init) .none kV_GangError_init dc_GangError_init pm_GangError_init an_GangError_init cd_GangError_init ct_GangError_init, f_write_note := f_write_note, d_write_note := PySem.W.fnOf "write_note" "write_note" (defArgs s_write_note) (defBody s_write_note) (defScope s_write_note) .none kV_write_note dc_write_note pm_write_note an_write_note cd_write_note ct_write_note, f_end_of := f_end_of, d_end_of := PySem.W.fnOf "end_of" "end_of" (defArgs s_end_of) (defBody s_end_of) (defScope s_end_of) .none kV_end_of dc_end_of pm_end_of an_end_of cd_end_of ct_end_of, f_begins_number := f_begins_number, d_begins_number := PySem.W.fnOf "begins_number" "begins_number" (defArgs s_begins_number) (defBody s_begins_number) (defScope s_begins_number) .none kV_begins_number dc_begins_number pm_begins_number an_begins_number cd_begins_number ct_begins_number, f_read_number := f_read_number, d_read_number := PySem.W.fnOf "read_number" "read_number" (defArgs s_read_number) (defBody s_read_number) (defScope s_read_number) .none kV_read_number dc_read_number pm_read_number an_read_number cd_read_number ct_read_number, f_read_part := f_read_part, d_read_part := PySem.W.fnOf "read_part" "read_part" (defArgs s_read_part) (defBody s_read_part) (defScope s_read_part) .none kV_read_part dc_read_part pm_read_part an_read_part cd_read_part ct_read_part, f_read_tuple := f_read_tuple, d_read_tuple := PySem.W.fnOf "read_tuple" "read_tuple" (defArgs s_read_tuple) (defBody s_read_tuple) (defScope s_read_tuple) .none kV_read_tuple dc_read_tuple pm_read_tuple an_read_tuple cd_read_tuple ct_read_tuple, f_read_note := f_read_note, d_read_note := PySem.W.fnOf "read_note" "read_note" (defArgs s_read_note) (defBody s_read_note) (defScope s_read_note) .none kV_read_note dc_read_note pm_read_note an_read_note cd_read_note ct_read_note, f_pool := f_pool, d_pool := PySem.W.fnOf "_law_pool" "_law_pool" (defArgs s_pool) (defBody s_pool) (defScope s_pool) .none kV_pool dc_pool pm_pool an_pool cd_pool ct_pool, f_draw := f_draw, d_draw := PySem.W.fnOf "_law_draw" "_law_draw" (defArgs s_draw) (defBody s_draw) (defScope s_draw) .none kV_draw dc_draw pm_draw an_draw cd_draw ct_draw, f_word := f_word, d_word := PySem.W.fnOf "_law_word" "_law_word" (defArgs s_word) (defBody s_word) (defScope s_word) .none kV_word dc_word pm_word an_word cd_word ct_word, f_integer := f_integer, d_integer := PySem.W.fnOf "_law_integer" "_law_integer" (defArgs s_integer) (defBody s_integer) (defScope s_integer) .none kV_integer dc_integer pm_integer an_integer cd_integer ct_integer, f_leaf := f_leaf, d_leaf := PySem.W.fnOf "_law_leaf" "_law_leaf" (defArgs s_leaf) (defBody s_leaf) (defScope s_leaf) .none kV_leaf dc_leaf pm_leaf an_leaf cd_leaf ct_leaf, f_close := f_close, d_close := PySem.W.fnOf "_law_close" "_law_close" (defArgs s_close) (defBody s_close) (defScope s_close) .none kV_close dc_close pm_close an_close cd_close ct_close, f_note := f_note, d_note := PySem.W.fnOf "_law_note" "_law_note" (defArgs s_note) (defBody s_note) (defScope s_note) .none kV_note dc_note pm_note an_note cd_note ct_note, f_whole := f_whole, d_whole := PySem.W.fnOf "_law_whole" "_law_whole" (defArgs s_whole) (defBody s_whole) (defScope s_whole) .none kV_whole dc_whole pm_whole an_whole cd_whole ct_whole, f_same := f_same, d_same := PySem.W.fnOf "_law_same" "_law_same" (defArgs s_same) (defBody s_same) (defScope s_same) .none kV_same dc_same pm_same an_same cd_same ct_same, f_next := f_next, d_next := PySem.W.fnOf "_law_next" "_law_next" (defArgs s_next) (defBody s_next) (defScope s_next) .none kV_next dc_next pm_next an_next cd_next ct_next, f_wrong := f_wrong, d_wrong := PySem.W.fnOf "_law_wrong" "_law_wrong" (defArgs s_wrong) (defBody s_wrong) (defScope s_wrong) .none kV_wrong dc_wrong pm_wrong an_wrong cd_wrong ct_wrong, f_parsed := f_parsed, d_parsed := PySem.W.fnOf "_law_parsed" "_law_parsed" (defArgs s_parsed) (defBody s_parsed) (defScope s_parsed) .none kV_parsed dc_parsed pm_parsed an_parsed cd_parsed ct_parsed, f_asked := f_asked, d_asked := PySem.W.fnOf "_law_asked" "_law_asked" (defArgs s_asked) (defBody s_asked) (defScope s_asked) .none kV_asked dc_asked pm_asked an_asked cd_asked ct_asked, f_char := f_char, d_char := PySem.W.fnOf "_law_char" "_law_char" (defArgs s_char) (defBody s_char) (defScope s_char) .none kV_char dc_char pm_char an_char cd_char ct_char, f_changed := f_changed, d_changed := PySem.W.fnOf "_law_changed" "_law_changed" (defArgs s_changed) (defBody s_changed) (defScope s_changed) .none kV_changed dc_changed pm_changed an_changed cd_changed ct_changed, f_odd := f_odd, d_odd := PySem.W.fnOf "_law_odd" "_law_odd" (defArgs s_odd) (defBody s_odd) (defScope s_odd) .none kV_odd dc_odd pm_odd an_odd cd_odd ct_odd, f_law := fa, d_law := PySem.W.fnOf "law" "law" (defArgs s_law) (defBody s_law) (defScope s_law) .none kV_law dc_law pm_law an_law cd_law ct_law }
  have T : Txt K mg A := {
    n_ValueError := PySem.W.mg_none_of X G nb_ValueError
    n_bool := PySem.W.mg_none_of X G nb_bool
    n_int := PySem.W.mg_none_of X G nb_int
    n_isinstance := PySem.W.mg_none_of X G nb_isinstance
    n_len := PySem.W.mg_none_of X G nb_len
    n_list := PySem.W.mg_none_of X G nb_list
    n_range := PySem.W.mg_none_of X G nb_range
    n_str := PySem.W.mg_none_of X G nb_str
    n_tuple := PySem.W.mg_none_of X G nb_tuple
    n_zip := PySem.W.mg_none_of X G nb_zip
    g_GangError := PySem.W.mg_of X G ag_GangError
    g_BadNote := PySem.W.mg_of X G ag_BadNote
    g_BadLine := PySem.W.mg_of X G ag_BadLine
    g_BadCertificate := PySem.W.mg_of X G ag_BadCertificate
    F_GangError_init := fun_mk (st := s_GangError_init) lk_GangError_init co_GangError_init ke_GangError_init
    b_GangError_init := (fun_mk (st := s_GangError_init) lk_GangError_init co_GangError_init ke_GangError_init).binds (ps := ["self", "subject"]) fun _ _ _ _ _ _ us hl => match us, hl with | [_, _], _ => rfl
    me_GangError_init := ⟨at_GangError_init, fn_GangError_init, ke_GangError_init⟩
    F_write_note := fun_mk (st := s_write_note) lk_write_note co_write_note ke_write_note
    b_write_note := (fun_mk (st := s_write_note) lk_write_note co_write_note ke_write_note).binds (ps := ["note"]) fun _ _ _ _ _ _ us hl => match us, hl with | [_], _ => rfl
    g_write_note := PySem.W.mg_of X G at_write_note
    F_end_of := fun_mk (st := s_end_of) lk_end_of co_end_of ke_end_of
    b_end_of := (fun_mk (st := s_end_of) lk_end_of co_end_of ke_end_of).binds (ps := ["text", "at", "chars", "most"]) fun _ _ _ _ _ _ us hl => match us, hl with | [_, _, _, _], _ => rfl
    g_end_of := PySem.W.mg_of X G at_end_of
    F_begins_number := fun_mk (st := s_begins_number) lk_begins_number co_begins_number ke_begins_number
    b_begins_number := (fun_mk (st := s_begins_number) lk_begins_number co_begins_number ke_begins_number).binds (ps := ["text", "at"]) fun _ _ _ _ _ _ us hl => match us, hl with | [_, _], _ => rfl
    g_begins_number := PySem.W.mg_of X G at_begins_number
    F_read_number := fun_mk (st := s_read_number) lk_read_number co_read_number ke_read_number
    b_read_number := (fun_mk (st := s_read_number) lk_read_number co_read_number ke_read_number).binds (ps := ["text", "at"]) fun _ _ _ _ _ _ us hl => match us, hl with | [_, _], _ => rfl
    g_read_number := PySem.W.mg_of X G at_read_number
    F_read_part := fun_mk (st := s_read_part) lk_read_part co_read_part ke_read_part
    b_read_part := (fun_mk (st := s_read_part) lk_read_part co_read_part ke_read_part).binds (ps := ["text", "at", "depth"]) fun _ _ _ _ _ _ us hl => match us, hl with | [_, _, _], _ => rfl
    g_read_part := PySem.W.mg_of X G at_read_part
    F_read_tuple := fun_mk (st := s_read_tuple) lk_read_tuple co_read_tuple ke_read_tuple
    b_read_tuple := (fun_mk (st := s_read_tuple) lk_read_tuple co_read_tuple ke_read_tuple).binds (ps := ["text", "at", "depth"]) fun _ _ _ _ _ _ us hl => match us, hl with | [_, _, _], _ => rfl
    g_read_tuple := PySem.W.mg_of X G at_read_tuple
    F_read_note := fun_mk (st := s_read_note) lk_read_note co_read_note ke_read_note
    b_read_note := (fun_mk (st := s_read_note) lk_read_note co_read_note ke_read_note).binds (ps := ["text"]) fun _ _ _ _ _ _ us hl => match us, hl with | [_], _ => rfl
    g_read_note := PySem.W.mg_of X G at_read_note
    F_pool := fun_mk (st := s_pool) lk_pool co_pool ke_pool
    b_pool := (fun_mk (st := s_pool) lk_pool co_pool ke_pool).binds (ps := ["_law_script"]) fun _ _ _ _ _ _ us hl => match us, hl with | [_], _ => rfl
    g_pool := PySem.W.mg_of X G at_pool
    F_draw := fun_mk (st := s_draw) lk_draw co_draw ke_draw
    b_draw := (fun_mk (st := s_draw) lk_draw co_draw ke_draw).binds (ps := ["_law_pool_here", "_law_many"]) fun _ _ _ _ _ _ us hl => match us, hl with | [_, _], _ => rfl
    g_draw := PySem.W.mg_of X G at_draw
    F_word := fun_mk (st := s_word) lk_word co_word ke_word
    b_word := (fun_mk (st := s_word) lk_word co_word ke_word).binds (ps := ["_law_pool_here"]) fun _ _ _ _ _ _ us hl => match us, hl with | [_], _ => rfl
    g_word := PySem.W.mg_of X G at_word
    F_integer := fun_mk (st := s_integer) lk_integer co_integer ke_integer
    b_integer := (fun_mk (st := s_integer) lk_integer co_integer ke_integer).binds (ps := ["_law_pool_here"]) fun _ _ _ _ _ _ us hl => match us, hl with | [_], _ => rfl
    g_integer := PySem.W.mg_of X G at_integer
    F_leaf := fun_mk (st := s_leaf) lk_leaf co_leaf ke_leaf
    b_leaf := (fun_mk (st := s_leaf) lk_leaf co_leaf ke_leaf).binds (ps := ["_law_pool_here"]) fun _ _ _ _ _ _ us hl => match us, hl with | [_], _ => rfl
    g_leaf := PySem.W.mg_of X G at_leaf
    F_close := fun_mk (st := s_close) lk_close co_close ke_close
    b_close := (fun_mk (st := s_close) lk_close co_close ke_close).binds (ps := ["_law_rows", "_law_texts"]) fun _ _ _ _ _ _ us hl => match us, hl with | [_, _], _ => rfl
    g_close := PySem.W.mg_of X G at_close
    F_note := fun_mk (st := s_note) lk_note co_note ke_note
    b_note := (fun_mk (st := s_note) lk_note co_note ke_note).binds (ps := ["_law_pool_here"]) fun _ _ _ _ _ _ us hl => match us, hl with | [_], _ => rfl
    g_note := PySem.W.mg_of X G at_note
    F_whole := fun_mk (st := s_whole) lk_whole co_whole ke_whole
    b_whole := (fun_mk (st := s_whole) lk_whole co_whole ke_whole).binds (ps := ["_law_value"]) fun _ _ _ _ _ _ us hl => match us, hl with | [_], _ => rfl
    g_whole := PySem.W.mg_of X G at_whole
    F_same := fun_mk (st := s_same) lk_same co_same ke_same
    b_same := (fun_mk (st := s_same) lk_same co_same ke_same).binds (ps := ["_law_told", "_law_note_here", "_law_most"]) fun _ _ _ _ _ _ us hl => match us, hl with | [_, _, _], _ => rfl
    g_same := PySem.W.mg_of X G at_same
    F_next := fun_mk (st := s_next) lk_next co_next ke_next
    b_next := (fun_mk (st := s_next) lk_next co_next ke_next).binds (ps := ["_law_mode", "_law_size", "_law_depth", "_law_char_here"]) fun _ _ _ _ _ _ us hl => match us, hl with | [_, _, _, _], _ => rfl
    g_next := PySem.W.mg_of X G at_next
    F_wrong := fun_mk (st := s_wrong) lk_wrong co_wrong ke_wrong
    b_wrong := (fun_mk (st := s_wrong) lk_wrong co_wrong ke_wrong).binds (ps := ["_law_text"]) fun _ _ _ _ _ _ us hl => match us, hl with | [_], _ => rfl
    g_wrong := PySem.W.mg_of X G at_wrong
    F_parsed := fun_mk (st := s_parsed) lk_parsed co_parsed ke_parsed
    b_parsed := (fun_mk (st := s_parsed) lk_parsed co_parsed ke_parsed).binds (ps := ["_law_text"]) fun _ _ _ _ _ _ us hl => match us, hl with | [_], _ => rfl
    g_parsed := PySem.W.mg_of X G at_parsed
    F_asked := fun_mk (st := s_asked) lk_asked co_asked ke_asked
    b_asked := (fun_mk (st := s_asked) lk_asked co_asked ke_asked).binds (ps := ["_law_text"]) fun _ _ _ _ _ _ us hl => match us, hl with | [_], _ => rfl
    g_asked := PySem.W.mg_of X G at_asked
    F_char := fun_mk (st := s_char) lk_char co_char ke_char
    b_char := (fun_mk (st := s_char) lk_char co_char ke_char).binds (ps := ["_law_pool_here"]) fun _ _ _ _ _ _ us hl => match us, hl with | [_], _ => rfl
    g_char := PySem.W.mg_of X G at_char
    F_changed := fun_mk (st := s_changed) lk_changed co_changed ke_changed
    b_changed := (fun_mk (st := s_changed) lk_changed co_changed ke_changed).binds (ps := ["_law_pool_here", "_law_text"]) fun _ _ _ _ _ _ us hl => match us, hl with | [_, _], _ => rfl
    g_changed := PySem.W.mg_of X G at_changed
    F_odd := fun_mk (st := s_odd) lk_odd co_odd ke_odd
    b_odd := (fun_mk (st := s_odd) lk_odd co_odd ke_odd).binds (ps := ["_law_at"]) fun _ _ _ _ _ _ us hl => match us, hl with | [_], _ => rfl
    g_odd := PySem.W.mg_of X G at_odd
    F_law := fun_mk (st := s_law) lk_law co_law ke_law
    b_law := (fun_mk (st := s_law) lk_law co_law ke_law).binds (ps := ["_law_script"]) fun _ _ _ _ _ _ us hl => match us, hl with | [_], _ => rfl
    g_law := PySem.W.mg_of X G at_law
    kg := kg
    kt := kt
    x_GangError := ⟨⟨⟨_, _, _, _, _, _, _, _, _, _, _, _, _, _, _, xl_GangError, xr_GangError⟩, xsa_GangError, xex_GangError, xty_GangError, xkp_GangError⟩, xin_GangError, tI_GangError, xno_GangError⟩
    xf_GangError := ⟨xga_GangError, xgg_GangError, xex_GangError, xhd_GangError⟩
    xc_GangError := ⟨xga_GangError, xgg_GangError, xex_GangError, xhd_GangError, xk1_GangError, kg, kt, xk4_GangError⟩
    xm_GangError := PySem.W.exm_ref xex_GangError xhd_GangError xty_GangError xem_GangError
    x_BadNote := ⟨⟨⟨_, _, _, _, _, _, _, _, _, _, _, _, _, _, _, xl_BadNote, xr_BadNote⟩, xsa_BadNote, xex_BadNote, xty_BadNote, xkp_BadNote⟩, xin_BadNote, tI_GangError, xno_BadNote⟩
    xf_BadNote := ⟨xga_BadNote, xgg_BadNote, xex_BadNote, xhd_BadNote⟩
    xc_BadNote := ⟨xga_BadNote, xgg_BadNote, xex_BadNote, xhd_BadNote, xk1_BadNote, kg, kt, xk4_BadNote⟩
    xm_BadNote := PySem.W.exm_ref xex_GangError xhd_GangError xty_GangError xem_BadNote
    x_BadLine := ⟨⟨⟨_, _, _, _, _, _, _, _, _, _, _, _, _, _, _, xl_BadLine, xr_BadLine⟩, xsa_BadLine, xex_BadLine, xty_BadLine, xkp_BadLine⟩, xin_BadLine, tI_GangError, xno_BadLine⟩
    xf_BadLine := ⟨xga_BadLine, xgg_BadLine, xex_BadLine, xhd_BadLine⟩
    xc_BadLine := ⟨xga_BadLine, xgg_BadLine, xex_BadLine, xhd_BadLine, xk1_BadLine, kg, kt, xk4_BadLine⟩
    xm_BadLine := PySem.W.exm_ref xex_GangError xhd_GangError xty_GangError xem_BadLine
    x_BadCertificate := ⟨⟨⟨_, _, _, _, _, _, _, _, _, _, _, _, _, _, _, xl_BadCertificate, xr_BadCertificate⟩, xsa_BadCertificate, xex_BadCertificate, xty_BadCertificate, xkp_BadCertificate⟩, xin_BadCertificate, tI_GangError, xno_BadCertificate⟩
    xf_BadCertificate := ⟨xga_BadCertificate, xgg_BadCertificate, xex_BadCertificate, xhd_BadCertificate⟩
    xc_BadCertificate := ⟨xga_BadCertificate, xgg_BadCertificate, xex_BadCertificate, xhd_BadCertificate, xk1_BadCertificate, kg, kt, xk4_BadCertificate⟩
    xm_BadCertificate := PySem.W.exm_ref xex_GangError xhd_GangError xty_GangError xem_BadCertificate
    k_LETTERS := ⟨_, PySem.W.mg_of X G kc_LETTERS⟩
    k_DIGITS := ⟨_, PySem.W.mg_of X G kc_DIGITS⟩
    k_WORD_CHARS := ⟨_, PySem.W.mg_of X G kc_WORD_CHARS⟩
    k_MOST_LETTERS := ⟨_, PySem.W.mg_of X G kc_MOST_LETTERS⟩
    k_MOST_DIGITS := ⟨_, PySem.W.mg_of X G kc_MOST_DIGITS⟩
    k_DEEPEST := ⟨_, PySem.W.mg_of X G kc_DEEPEST⟩
    kt_BadNote_BadNote := kit_sub xhd_BadNote xty_BadNote ss_BadNote su_BadNote_BadNote
    kt_BadNote_ValueError := kit_base (by decide +kernel) su_BadNote_ValueError
    kt_BadNote_BadLine := kit_sub xhd_BadLine xty_BadLine ss_BadLine su_BadNote_BadLine
    kt_BadNote_BadCertificate := kit_sub xhd_BadCertificate xty_BadCertificate ss_BadCertificate su_BadNote_BadCertificate
  }
  exact ⟨A.d_law, fun s v => .of_eq rfl, fun base _ _ => ok_law (base := base) T⟩
theorem walk {l : PySem.W.OpenLaw} {q : Program} {loose : List Str} {XP : (Str → Option Value) → Heap → Prop} {YP : World → Heap → Prop} {d : DefRec} {K : Params → PySem.W.Frag} (hn : l.most = some 63) (hdf : d.params.defaults = [])
    (hY : ∀ (w : World) (h : Heap), YP w h → (K w.params).In h)
    (F : ∀ (w : World) (mg : Str → Option Value) (fa : Addr) (h : Heap), (K w.params).In h → h.Ns mainGlobals mg → mg d.name = some (.ref fa) →
      ∃ fd : FuncData, (∀ (s : Shared) (u : Value), BindsTo s fd ⟨[u], []⟩ [("_law_script", u)]) ∧ ∀ base : Heap, (K w.params).In base → base.Ns mainGlobals mg → FnOk l.prog w (K w.params) mg base CX0 lawLvl fa fd ["_law_script"] (spLaw (K w.params))) :
    PySem.W.WalkO q loose XP YP l.row.toRowW d [] (fun f vs => PySem.call f vs) :=
  L2.walk_ofB (n := 63) (k := lawLvl) (x := "_law_script") (CX := fun _ => CX0) (sp := fun w => spLaw (K w.params)) hn (by decide) hdf ⟨rfl, by decide, by decide⟩ hY F (fun _ _ a ns hl hb _ hS => ⟨a, ns, rfl, hS, hl, hb, fun _ => rfl⟩) fun _ _ _ _ _ z => z
end LW
open PySem PySem.W PyProof.Rows
set_option maxRecDepth 100000 in
set_option maxHeartbeats 0 in
theorem PySem.Challenge.cw_gangbooks_k08_note_first_wrong_holds : PySem.Challenge.rw_gangbooks_k08_note_first_wrong.Holds := by
  w_on; o_law; k_head; (case hw => w_witness2)
  k_fill
  refine LW.walk (l := PySem.Challenge.rw_gangbooks_k08_note_first_wrong) rfl rfl (fun w h Y => PySem.W.kIn_of Y) ?F
  case F =>
    intro w mg fa h KX G hmg
    refine' LW.all_mk KX G hmg ?nb_ValueError ?nb_bool ?nb_int ?nb_isinstance ?nb_len ?nb_list ?nb_range ?nb_str ?nb_tuple ?nb_zip ?ag_GangError ?ag_BadNote ?ag_BadLine ?ag_BadCertificate ?at_GangError_init ?lk_GangError_init ?co_GangError_init ?ke_GangError_init ?fn_GangError_init ?at_write_note ?lk_write_note ?co_write_note ?ke_write_note ?at_end_of ?lk_end_of ?co_end_of ?ke_end_of ?at_begins_number ?lk_begins_number ?co_begins_number ?ke_begins_number ?at_read_number ?lk_read_number ?co_read_number ?ke_read_number ?at_read_part ?lk_read_part ?co_read_part ?ke_read_part ?at_read_tuple ?lk_read_tuple ?co_read_tuple ?ke_read_tuple ?at_read_note ?lk_read_note ?co_read_note ?ke_read_note ?at_pool ?lk_pool ?co_pool ?ke_pool ?at_draw ?lk_draw ?co_draw ?ke_draw ?at_word ?lk_word ?co_word ?ke_word ?at_integer ?lk_integer ?co_integer ?ke_integer ?at_leaf ?lk_leaf ?co_leaf ?ke_leaf ?at_close ?lk_close ?co_close ?ke_close ?at_note ?lk_note ?co_note ?ke_note ?at_whole ?lk_whole ?co_whole ?ke_whole ?at_same ?lk_same ?co_same ?ke_same ?at_next ?lk_next ?co_next ?ke_next ?at_wrong ?lk_wrong ?co_wrong ?ke_wrong ?at_parsed ?lk_parsed ?co_parsed ?ke_parsed ?at_asked ?lk_asked ?co_asked ?ke_asked ?at_char ?lk_char ?co_char ?ke_char ?at_changed ?lk_changed ?co_changed ?ke_changed ?at_odd ?lk_odd ?co_odd ?ke_odd ?at_law ?lk_law ?co_law ?ke_law ?kg ?kt ?xl_GangError ?xr_GangError ?xsa_GangError ?xex_GangError ?xty_GangError ?xkp_GangError ?xin_GangError ?xno_GangError ?xga_GangError ?xgg_GangError ?xhd_GangError ?xk1_GangError ?xk4_GangError ?xem_GangError ?xl_BadNote ?xr_BadNote ?xsa_BadNote ?xex_BadNote ?xty_BadNote ?xkp_BadNote ?xin_BadNote ?xno_BadNote ?xga_BadNote ?xgg_BadNote ?xhd_BadNote ?xk1_BadNote ?xk4_BadNote ?xem_BadNote ?xl_BadLine ?xr_BadLine ?xsa_BadLine ?xex_BadLine ?xty_BadLine ?xkp_BadLine ?xin_BadLine ?xno_BadLine ?xga_BadLine ?xgg_BadLine ?xhd_BadLine ?xk1_BadLine ?xk4_BadLine ?xem_BadLine ?xl_BadCertificate ?xr_BadCertificate ?xsa_BadCertificate ?xex_BadCertificate ?xty_BadCertificate ?xkp_BadCertificate ?xin_BadCertificate ?xno_BadCertificate ?xga_BadCertificate ?xgg_BadCertificate ?xhd_BadCertificate ?xk1_BadCertificate ?xk4_BadCertificate ?xem_BadCertificate ?tI_GangError ?kc_LETTERS ?kc_DIGITS ?kc_WORD_CHARS ?kc_MOST_LETTERS ?kc_MOST_DIGITS ?kc_DEEPEST ?ss_BadNote ?su_BadNote_BadNote ?su_BadNote_ValueError ?ss_BadLine ?su_BadNote_BadLine ?ss_BadCertificate ?su_BadNote_BadCertificate
    (case nb_ValueError => k_is)
    (case nb_bool => k_is)
    (case nb_int => k_is)
    (case nb_isinstance => k_is)
    (case nb_len => k_is)
    (case nb_list => k_is)
    (case nb_range => k_is)
    (case nb_str => k_is)
    (case nb_tuple => k_is)
    (case nb_zip => k_is)
    (case ag_GangError => k_is)
    (case ag_BadNote => k_is)
    (case ag_BadLine => k_is)
    (case ag_BadCertificate => k_is)
    (case at_GangError_init => k_is)
    (case lk_GangError_init => k_is)
    (case co_GangError_init => k_is)
    (case ke_GangError_init => k_is)
    (case fn_GangError_init => k_is)
    (case at_write_note => k_is)
    (case lk_write_note => k_is)
    (case co_write_note => k_is)
    (case ke_write_note => k_is)
    (case at_end_of => k_is)
    (case lk_end_of => k_is)
    (case co_end_of => k_is)
    (case ke_end_of => k_is)
    (case at_begins_number => k_is)
    (case lk_begins_number => k_is)
    (case co_begins_number => k_is)
    (case ke_begins_number => k_is)
    (case at_read_number => k_is)
    (case lk_read_number => k_is)
    (case co_read_number => k_is)
    (case ke_read_number => k_is)
    (case at_read_part => k_is)
    (case lk_read_part => k_is)
    (case co_read_part => k_is)
    (case ke_read_part => k_is)
    (case at_read_tuple => k_is)
    (case lk_read_tuple => k_is)
    (case co_read_tuple => k_is)
    (case ke_read_tuple => k_is)
    (case at_read_note => k_is)
    (case lk_read_note => k_is)
    (case co_read_note => k_is)
    (case ke_read_note => k_is)
    (case at_pool => k_is)
    (case lk_pool => k_is)
    (case co_pool => k_is)
    (case ke_pool => k_is)
    (case at_draw => k_is)
    (case lk_draw => k_is)
    (case co_draw => k_is)
    (case ke_draw => k_is)
    (case at_word => k_is)
    (case lk_word => k_is)
    (case co_word => k_is)
    (case ke_word => k_is)
    (case at_integer => k_is)
    (case lk_integer => k_is)
    (case co_integer => k_is)
    (case ke_integer => k_is)
    (case at_leaf => k_is)
    (case lk_leaf => k_is)
    (case co_leaf => k_is)
    (case ke_leaf => k_is)
    (case at_close => k_is)
    (case lk_close => k_is)
    (case co_close => k_is)
    (case ke_close => k_is)
    (case at_note => k_is)
    (case lk_note => k_is)
    (case co_note => k_is)
    (case ke_note => k_is)
    (case at_whole => k_is)
    (case lk_whole => k_is)
    (case co_whole => k_is)
    (case ke_whole => k_is)
    (case at_same => k_is)
    (case lk_same => k_is)
    (case co_same => k_is)
    (case ke_same => k_is)
    (case at_next => k_is)
    (case lk_next => k_is)
    (case co_next => k_is)
    (case ke_next => k_is)
    (case at_wrong => k_is)
    (case lk_wrong => k_is)
    (case co_wrong => k_is)
    (case ke_wrong => k_is)
    (case at_parsed => k_is)
    (case lk_parsed => k_is)
    (case co_parsed => k_is)
    (case ke_parsed => k_is)
    (case at_asked => k_is)
    (case lk_asked => k_is)
    (case co_asked => k_is)
    (case ke_asked => k_is)
    (case at_char => k_is)
    (case lk_char => k_is)
    (case co_char => k_is)
    (case ke_char => k_is)
    (case at_changed => k_is)
    (case lk_changed => k_is)
    (case co_changed => k_is)
    (case ke_changed => k_is)
    (case at_odd => k_is)
    (case lk_odd => k_is)
    (case co_odd => k_is)
    (case ke_odd => k_is)
    (case at_law => k_is)
    (case lk_law => k_is)
    (case co_law => k_is)
    (case ke_law => k_is)
    (case kg => k_is)
    (case kt => k_is)
    (case xl_GangError => k_is)
    (case xr_GangError => first | rfl | decide +kernel)
    (case xsa_GangError => k_is)
    (case xex_GangError => k_is)
    (case xty_GangError => k_is)
    (case xkp_GangError => k_is)
    (case xin_GangError => k_is)
    (case xno_GangError => k_is)
    (case xga_GangError => k_is)
    (case xgg_GangError => k_is)
    (case xhd_GangError => k_is)
    (case xk1_GangError => k_is)
    (case xk4_GangError => k_is)
    (case xem_GangError => first | rfl | k_is)
    (case xl_BadNote => k_is)
    (case xr_BadNote => first | rfl | decide +kernel)
    (case xsa_BadNote => k_is)
    (case xex_BadNote => k_is)
    (case xty_BadNote => k_is)
    (case xkp_BadNote => k_is)
    (case xin_BadNote => k_is)
    (case xno_BadNote => k_is)
    (case xga_BadNote => k_is)
    (case xgg_BadNote => k_is)
    (case xhd_BadNote => k_is)
    (case xk1_BadNote => k_is)
    (case xk4_BadNote => k_is)
    (case xem_BadNote => first | rfl | k_is)
    (case xl_BadLine => k_is)
    (case xr_BadLine => first | rfl | decide +kernel)
    (case xsa_BadLine => k_is)
    (case xex_BadLine => k_is)
    (case xty_BadLine => k_is)
    (case xkp_BadLine => k_is)
    (case xin_BadLine => k_is)
    (case xno_BadLine => k_is)
    (case xga_BadLine => k_is)
    (case xgg_BadLine => k_is)
    (case xhd_BadLine => k_is)
    (case xk1_BadLine => k_is)
    (case xk4_BadLine => k_is)
    (case xem_BadLine => first | rfl | k_is)
    (case xl_BadCertificate => k_is)
    (case xr_BadCertificate => first | rfl | decide +kernel)
    (case xsa_BadCertificate => k_is)
    (case xex_BadCertificate => k_is)
    (case xty_BadCertificate => k_is)
    (case xkp_BadCertificate => k_is)
    (case xin_BadCertificate => k_is)
    (case xno_BadCertificate => k_is)
    (case xga_BadCertificate => k_is)
    (case xgg_BadCertificate => k_is)
    (case xhd_BadCertificate => k_is)
    (case xk1_BadCertificate => k_is)
    (case xk4_BadCertificate => k_is)
    (case xem_BadCertificate => first | rfl | k_is)
    (case tI_GangError => k_is)
    (case kc_LETTERS => k_is)
    (case kc_DIGITS => k_is)
    (case kc_WORD_CHARS => k_is)
    (case kc_MOST_LETTERS => k_is)
    (case kc_MOST_DIGITS => k_is)
    (case kc_DEEPEST => k_is)
    (case ss_BadNote => first | rfl | k_is)
    (case su_BadNote_BadNote => first | rfl | k_is)
    (case su_BadNote_ValueError => first | rfl | k_is)
    (case ss_BadLine => first | rfl | k_is)
    (case su_BadNote_BadLine => first | rfl | k_is)
    (case ss_BadCertificate => first | rfl | k_is)
    (case su_BadNote_BadCertificate => first | rfl | k_is)
