import PyProof.Rows.All
import Wide.All
import OpenK.AllK
import Wide.FinOn
import PyProof.EqAt
import PyProof.EqKinds
import PyProof.TupleCall
import HandS.Base
import HandS.Call
import HandS.List
import HandS.Exc
import HandS.IsInst
import HandS.ExcOwn
import HandS.ExcInit
import HandS.ExcField
import HandS.ExcIs
import HandS.TryOnly
import HandS.CallSlots
import HandS.Words
import HandS.WordsExc
import KE.KExcIs
import HandS.Sort
import PyProof.Rows.RuleN_abs
import HandS.HotCalls
import HandS.ExcInitHot
import HandS.OwnEq
import HandS.IterNext
import PyProof.FactsSeq
import PyProof.TupleIter
import PyProof.WalksMore
import HandS.Star
import HandS.Zip
import HandS.Walk
import HandS.Text
import HandS.Codes
import KE.IntTextLaws
import KE.KIntText
import KE.KDictZip
import HandS.RaiseMore
import HandS.ClsMeth
import HandS.StrMore
import HandS.FStr
import HandS.Iter
import HandS.Spec
import HandS.ReplaceList
import HandS.Replace
import HandS.ReplaceLit
import HandS.ReplaceDef
import HandS.GenBody
import HandS.GenYield
import HandS.GenCall
import HandS.GenList
import PyProof.ForAny
import PyProof.GenComp
import PyProof.EnumIter
import PyProof.EnumMake
import KE.KItemsList
import HandS.RaiseFrom
import HandS.SuiteRaise
import KE.KAsSuite
import PyProof.NsDelKeeps
import PyProof.StrLawsChain
import KE.KUnpackStar
import KE.GoesEnum
import HandS.More
import HandS.TupAny
import KE.GoesEnumKw
import PyProof.Rows.CallKwBuiltin
import HandS.TupLe
import HandS.Comp
import HandS.Conv
import HandS.EndBits
import PySem.Challenge.RW_gangbooks_k65_book_text_and_edits
set_option Elab.async false
set_option linter.all false
set_option maxRecDepth 100000
set_option maxHeartbeats 4000000
/-! own operators over the layer -/
namespace L2
open PySem PySem.Spec PyProof.Rows
theorem cmpBack_of {Q : Value → Shared → Prop} {v : V} {u : Value} {s : Shared} (r : RelV v u) (q : Q u s) : PySem.W.CmpBack Q u s := by
  cases v with
  | non => cases (show u = Value.none from r); exact q
  | bl b => cases (show u = Value.bool b from r); exact q
  | int i => obtain ⟨t, e⟩ := (show ∃ t, u = Value.int i t from r); cases e; exact q
  | str x => obtain ⟨t, e⟩ := (show ∃ t, u = Value.str x t from r); cases e; exact q
  | byt x => obtain ⟨t, e⟩ := (show ∃ t, u = Value.bytes x t from r); cases e; exact q
  | flt x => obtain ⟨t, e⟩ := (show ∃ t, u = Value.float x t from r); cases e; exact q
  | ref a => cases (show u = Value.ref a from r); exact q
  | ty n => cases (show u = Value.type n from r); exact q
section
variable {X : Cx} {pins : List (Addr × Obj)} {σ : St} {H : Hp} {s : Shared} {a C dx : Addr} {fs : List (Str × V)}
theorem Inv.instAt (I : Inv X pins σ H s) (e : H a = some (.ins C dx fs)) : ∃ od, PySem.W.InstAt s.heap a (PySem.W.instObj C dx) C (some od) := by
  obtain ⟨mA, J, _⟩ := ins_get I.hok e
  obtain ⟨od, h, _⟩ := J.look
  exact ⟨od, h⟩
end
section
variable {X : Cx} {CX : CXT} {k : Nat} {f C : Addr} {fd : FuncData} {ps : List Str} {sp : Sp} {dvs : List V} {ds : List Value} {E : XK}
/-- the callee runs, within some units of the C stack -/
theorem run_fnA {A : Around} {pins : List (Addr × Obj)} {σ : St} {H : Hp} {s : Shared} {Q : VK} {us : List Value} {vs : List V} (hfA : A.frames = X.A.frames) (F : FnOk X.prog X.w X.K X.mg X.base CX k f fd ps sp) (hr : Room k A) (hb : Binds X.K fd ps ds) (hd : Vals dvs ds) (hx : Passes CX X E)
    (I : Inv X pins σ H s) (r : Vals vs us) (h : sp (vs ++ dvs) H Q E) : wpAny (model X.prog X.w) A (call (.ref f) us) (EP X pins σ Q) X.xe s := by
  have r2 : Vals (vs ++ dvs) (us ++ ds) := r.append hd
  have hl : (us ++ ds).length = ps.length := by rw [← r2.length]; exact F.len _ _ _ _ h
  have e0 := I.env0
  have e1 : Env0 X.prog X.w X.K X.mg X.base A X.stack s H := ⟨hfA.trans e0.frames, e0.mod, e0.bs, e0.bsz, e0.funs, e0.frf, e0.hok, e0.bare⟩
  refine wpAny_call (codeAny_mono (F.run A X.stack s H ⟨us, []⟩ (us ++ ds) (vs ++ dvs) Q E hr e1 (hb s us I.kIn hl) r2 h) fun r s' hq => ?_)
  cases r with
  | error e => exact hx pins σ H s e s' I hq
  | ok fl =>
    cases fl with
    | ret u => exact I.after hq
    | next => exact False.elim hq
    | brk => exact False.elim hq
    | cont => exact False.elim hq
/-- x op y, both of the class at C -/
def rOwn (C : Addr) (sp : Sp) (E : XK) : R2 := fun x y H Q => ∃ a dx fs b dy gs, x = .ref a ∧ H a = some (.ins C dx fs) ∧ y = .ref b ∧ H b = some (.ins C dy gs) ∧ sp [x, y] H Q E
theorem op_own {op : Operator} (hm : Meth X.K C (PySem.dunder op.info.2) f) (hc : PySem.W.selfFirst X.K C = true) (F : FnOk X.prog X.w X.K X.mg X.base CX k f fd ps sp) (hr : Room k X.A) (hb : Binds X.K fd ps []) (hx : Passes CX X E) :
    OpR X (binaryOp op) (rOwn C sp E) := by
  intro pins s σ H x y v u Q I rx ry h
  obtain ⟨a, dx, fs, b, dy, gs, rfl, ea, rfl, eb, h⟩ := h
  obtain rfl : v = Value.ref a := rx
  obtain rfl : u = Value.ref b := ry
  obtain ⟨od, J⟩ := I.instAt ea
  obtain ⟨od', J'⟩ := I.instAt eb
  obtain ⟨m, fr⟩ := I.fr
  refine PySem.W.binop_K fr I.ok.mod.kin J J'.type hc hm.at_ hm.fn (thn (run_fnA (us := [.ref a, .ref b]) (vs := [.ref a, .ref b]) (dvs := []) rfl F hr hb .nil hx I (.cons rfl (.cons rfl .nil)) h) fun w s' q => ?_)
  obtain ⟨v', H', I', rv, q⟩ := q
  exact cmpBack_of rv ⟨v', H', I', rv, q⟩
/-- x op i, an int on the right -/
def rOwnI (C : Addr) (sp : Sp) (E : XK) : R2 := fun x y H Q => ∃ a dx fs i, x = .ref a ∧ H a = some (.ins C dx fs) ∧ y = .int i ∧ sp [x, y] H Q E
structure OwnI (K : PySem.W.Frag) (C : Addr) (op : Operator) : Prop where
  r : ∃ rc, PySem.W.findIn K (.ref C) (dunderR op.info.2) = some rc ∧ (rc = none ∨ ∃ g : Addr, rc = some (.ref g))
  i1 : ∃ fo, PySem.W.findIn K (.type "int") (PySem.dunder op.info.2) = some fo
  i2 : ∃ ro, PySem.W.findIn K (.type "int") (dunderR op.info.2) = some ro
  sub : PySem.W.subIn K (.type "int") (.ref C) = some false
theorem op_ownI {op : Operator} (hm : Meth X.K C (PySem.dunder op.info.2) f) (hc : PySem.W.selfFirst X.K C = true) (hi : OwnI X.K C op) (F : FnOk X.prog X.w X.K X.mg X.base CX k f fd ps sp) (hr : Room k X.A) (hb : Binds X.K fd ps []) (hx : Passes CX X E) :
    OpR X (binaryOp op) (rOwnI C sp E) := by
  intro pins s σ H x y v u Q I rx ry h
  obtain ⟨a, dx, fs, i, rfl, ea, rfl, h⟩ := h
  obtain rfl : v = Value.ref a := rx
  obtain ⟨t, rfl⟩ := (show ∃ t, u = Value.int i t from ry)
  obtain ⟨od, J⟩ := I.instAt ea
  obtain ⟨m, fr⟩ := I.fr
  obtain ⟨⟨rc, h1, h2⟩, ⟨fo, h3⟩, ⟨ro, h4⟩, h5⟩ := hi
  refine PySem.W.ksp_binT (T := "int") fr I.ok.mod.kin J rfl hc hm.at_ hm.fn h1 h2 h3 h4 h5 (thn (run_fnA (us := [.ref a, .int i t]) (vs := [.ref a, .int i]) (dvs := []) rfl F hr hb .nil hx I (.cons rfl (.cons ⟨t, rfl⟩ .nil)) h) fun w s' q => ?_)
  obtain ⟨v', H', I', rv, q⟩ := q
  exact cmpBack_of rv ⟨v', H', I', rv, q⟩
/-- -x -/
def rOwn1 (C : Addr) (sp : Sp) (E : XK) : V → Hp → VK → Prop := fun x H Q => ∃ a dx fs, x = .ref a ∧ H a = some (.ins C dx fs) ∧ sp [x] H Q E
theorem un_own (hm : Meth X.K C "__neg__" f) (F : FnOk X.prog X.w X.K X.mg X.base CX k f fd ps sp) (hr : Room k X.A) (hb : Binds X.K fd ps []) (hx : Passes CX X E) :
    UnR X (unaryOp .USub) (rOwn1 C sp E) := by
  intro pins s σ H x v Q I rx h
  obtain ⟨a, dx, fs, rfl, ea, h⟩ := h
  obtain rfl : v = Value.ref a := rx
  obtain ⟨od, J⟩ := I.instAt ea
  obtain ⟨m, fr⟩ := I.fr
  exact PySem.W.ksp_neg fr I.ok.mod.kin J hm.at_ hm.fn (run_fnA (us := [.ref a]) (vs := [.ref a]) (dvs := []) rfl F hr hb .nil hx I (.cons rfl .nil) h)
/-- truth by an own __bool__ -/
def rOwnT (C : Addr) (sp : Sp) (E : XK) : V → Hp → (Bool → Hp → Prop) → Prop := fun x H Q => ∃ a dx fs, x = .ref a ∧ H a = some (.ins C dx fs) ∧ sp [x] H (fun v H' => ∃ b, v = .bl b ∧ Q b H') E
theorem tru_ownA {A : Around} (hfA : A.frames = X.A.frames) (hm : Meth X.K C "__bool__" f) (F : FnOk X.prog X.w X.K X.mg X.base CX k f fd ps sp) (hr : Room k A) (hb : Binds X.K fd ps []) (hx : Passes CX X E) {pins : List (Addr × Obj)} {s : Shared} {σ : St} {H : Hp} {x : V} {v : Value} {Q : Bool → Hp → Prop}
    (I : Inv X pins σ H s) (rx : RelV x v) (h : rOwnT C sp E x H Q) : wpAny (model X.prog X.w) A (truthy v) (TP X pins σ Q) X.xe s := by
  obtain ⟨a, dx, fs, rfl, ea, h⟩ := h
  obtain rfl : v = Value.ref a := rx
  obtain ⟨od, J⟩ := I.instAt ea
  obtain ⟨m, fr⟩ := I.fr
  refine PySem.W.truthy_K fr I.ok.mod.kin J hm.at_ hm.fn (thn (run_fnA (us := [.ref a]) (vs := [.ref a]) (dvs := []) hfA F hr hb .nil hx I (.cons rfl .nil) h) fun w s' q => ?_)
  obtain ⟨v', H', I', rv, b, rfl, q⟩ := q
  obtain rfl : w = Value.bool b := rv
  exact ⟨H', I', q⟩
theorem tru_own (hm : Meth X.K C "__bool__" f) (F : FnOk X.prog X.w X.K X.mg X.base CX k f fd ps sp) (hr : Room k X.A) (hb : Binds X.K fd ps []) (hx : Passes CX X E) : TruR X (rOwnT C sp E) :=
  fun _ _ _ _ _ _ _ I rx h => tru_ownA rfl hm F hr hb hx I rx h
/-- v in x, by an own __contains__ that hands back a bool -/
def rOwnIn (C : Addr) (sp : Sp) (E : XK) : R2 := fun y x H Q => ∃ a dx fs, x = .ref a ∧ H a = some (.ins C dx fs) ∧ sp [x, y] H (fun v H' => ∃ b, v = .bl b ∧ Q (.bl b) H') E
theorem op_inOwn (hm : Meth X.K C "__contains__" f) (F : FnOk X.prog X.w X.K X.mg X.base CX k f fd ps sp) (hr : Room k X.A) (hb : Binds X.K fd ps []) (hx : Passes CX X E) : OpR X (compareOp .In) (rOwnIn C sp E) := by
  intro pins s σ H y x v u Q I ry rx h
  obtain ⟨a, dx, fs, rfl, ea, h⟩ := h
  obtain rfl : u = Value.ref a := rx
  obtain ⟨od, J⟩ := I.instAt ea
  obtain ⟨m, fr⟩ := I.fr
  refine PySem.W.in_K fr I.ok.mod.kin J hm.at_ hm.fn (thn (run_fnA (us := [.ref a, v]) (vs := [.ref a, y]) (dvs := []) rfl F hr hb .nil hx I (.cons rfl (.cons ry .nil)) h) fun w s' q => ?_)
  obtain ⟨v', H', I', rv, b, rfl, q⟩ := q
  obtain rfl : w = Value.bool b := rv
  exact wpAny_truthy_bool ⟨.bl b, H', I', rfl, q⟩
/-- len(x) by an own __len__ -/
def rOwnLen (C : Addr) (sp : Sp) (E : XK) : List V → Hp → VK → Prop := fun xs H Q => ∃ a dx fs, xs = [.ref a] ∧ H a = some (.ins C dx fs) ∧ sp [.ref a] H (fun v H' => ∃ n : Int, v = .int n ∧ 0 ≤ n ∧ n < 2 ^ 63 ∧ Q (.int n) H') E
theorem call_lenOwn (hm : Meth X.K C "__len__" f) (F : FnOk X.prog X.w X.K X.mg X.base CX k f fd ps sp) (hr : Room (k + 1) X.A) (hb : Binds X.K fd ps []) (hx : Passes CX X E) : CallR X (.builtin "len") (rOwnLen C sp E) := by
  intro pins s σ H xs us Q I r h
  obtain ⟨a, dx, fs, rfl, ea, h⟩ := h
  obtain ⟨u, rfl, ru⟩ := vals1 r
  obtain rfl : u = Value.ref a := ru
  obtain ⟨od, J⟩ := I.instAt ea
  obtain ⟨m, fr⟩ := I.fr
  refine PySem.W.len_K fr I.ok.mod.kin J hm.at_ hm.fn (thn (run_fnA (A := X.A.in1) (us := [.ref a]) (vs := [.ref a]) (dvs := []) rfl F hr.in1 hb .nil hx I (.cons rfl .nil) h) fun w s' q => ?_)
  obtain ⟨v', H', I', rv, n, rfl, h0, h1, q⟩ := q
  obtain ⟨t, rfl⟩ := (show ∃ t, w = Value.int n t from rv)
  exact ⟨⟨h0, h1⟩, .int n, H', I'.tok _, ⟨_, rfl⟩, q⟩
end
end L2

namespace L2
open PySem PySem.Spec PyProof.Rows
section
variable {X : Cx} {CX : CXT} {k : Nat} {f C : Addr} {fd : FuncData} {ps : List Str} {sp : Sp} {E : XK}
theorem meets_bool_any {prog : Program} {w : World} (x : Value) : MeetsIn prog w (Builtin.«bool.__new__» ⟨[.type "bool", x], []⟩) (fun A R s => wpAny (model prog w) A.in1 (truthy x) (fun b s' => R (.ok (.ret (.bool b))) s') (fun e s' => R (.error e) s') s) :=
  MeetsIn.of_wp fun A R s hs => by
    have f1 := F.conv_sub_bool
    obtain ⟨hp, g, d, tk, os⟩ := s
    repeat (any_goals (first | assumption | (with_reducible refine wpAny_bind (wpAny_mono hs (fun b s' q => ?_) fun _ _ z => z)) | (with_reducible refine wpAny_mono hs (fun b s' q => ?_) fun _ _ z => z) | wp_step))
    all_goals first | exact ⟨_, rfl, q⟩ | exact q | skip
/-- bool(x), by an own __bool__ -/
def rBoolOwn (C : Addr) (sp : Sp) (E : XK) : List V → Hp → VK → Prop := fun xs H Q => ∃ x, xs = [x] ∧ rOwnT C sp E x H fun b H' => Q (.bl b) H'
theorem call_boolOwn (hm : Meth X.K C "__bool__" f) (Fk : FnOk X.prog X.w X.K X.mg X.base CX k f fd ps sp) (hr : Room (k + 2) X.A) (hb : Binds X.K fd ps []) (hx : Passes CX X E) : CallR X (.type "bool") (rBoolOwn C sp E) := by
  intro pins s σ H xs us Q I r h
  obtain ⟨x, rfl, h⟩ := h
  obtain ⟨u, rfl, ru⟩ := vals1 r
  refine callType_newIn PySem.F.called_bool PySem.F.newNe_bool (PySem.F.typeCall_bool_1 u) (PySem.F.newCall_bool_1 u) (fun obj => PySem.F.args_object_init_2 obj u) PySem.F.entry_bool_new (meets_bool_any u) ?_
  refine thn (tru_ownA (A := X.A.in1.in1) rfl hm Fk hr.in1.in1 hb hx I ru h) fun b s' ⟨H', I', q⟩ => ?_
  exact ⟨rfl, .bl b, H', I', rfl, q⟩
end
end L2
namespace L2
open PySem PySem.Spec PyProof.Rows
section
variable {X : Cx} {CX : CXT} {k : Nat} {f C : Addr} {fd : FuncData} {ps : List Str} {sp : Sp} {E : XK}
/-- x == y by an own __eq__, y of the class or of a kind that is no subclass of it -/
def rEqOwn (K : PySem.W.Frag) (C : Addr) (sp : Sp) (E : XK) : R2 := fun x y H Q => ∃ a dx fs t, x = .ref a ∧ H a = some (.ins C dx fs) ∧ TyX K H y t ∧ PySem.W.notFirst K C t = true ∧ sp [x, y] H Q E
theorem op_eqOwn (hm : Meth X.K C "__eq__" f) (F : FnOk X.prog X.w X.K X.mg X.base CX k f fd ps sp) (hr : Room k X.A) (hb : Binds X.K fd ps []) (hx : Passes CX X E) : OpR X (compareOp .Eq) (rEqOwn X.K C sp E) := by
  intro pins s σ H x y v u Q I rx ry h
  obtain ⟨a, dx, fs, t, rfl, ea, ty, hn, h⟩ := h
  obtain rfl : v = Value.ref a := rx
  obtain ⟨od, J⟩ := I.instAt ea
  obtain ⟨m, fr⟩ := I.fr
  obtain ⟨P, Z, p, _⟩ := kit_of I ry ty
  have hb' := Z.ty (model X.prog X.w) _ I.kIn p
  show wpAny _ _ (richCompare .Eq (.ref a) u) _ _ _
  refine PySem.W.cmp_K (op := .Eq) hr.units0 fr I.ok.mod.kin J hb' hn hm.at_ hm.fn (thn (run_fnA (us := [.ref a, u]) (vs := [.ref a, y]) (dvs := []) rfl F hr hb .nil hx I (.cons rfl (.cons ry .nil)) h) fun w s' q => ?_)
  obtain ⟨v', H', I', rv, q⟩ := q
  exact cmpBack_of rv ⟨v', H', I', rv, q⟩
end
end L2
namespace PySem.W
open PySem PySem.Spec PySem.Calls PyProof.Rows
section
variable {prog : Program} {w : World} {A : Around} {E : Value → Shared → Prop} {s : Shared} {K : Frag} {x D : Addr} {ox : Obj}
theorem gb_kitx_exc {od : Option Obj} (hga : findIn K (.ref D) "__getattribute__" = some (some (.builtin "BaseException.__getattribute__"))) (hgt : findIn K (.ref D) "__getattr__" = some none) (hsub : subIn K (.ref D) (.type "BaseException") = some true) (hdct : hasDictIn K D = true) (ha : findIn K (.ref D) "__class__" = some (some (.builtin "object.__class__")))
    (hn : specialIn K (.builtin "object.__class__") "__get__" = some (some (.builtin "getset_descriptor.__get__"))) (htk : takesIn K (.builtin "object.__class__") = some true) (hm : mroIn K D (.type "object") = some true) :
    KitX K (.ref x) (.ref D) (fun h => InstAt h x ox D od) where
  ty := fun _ _ _ I => I.type
  it := fun _ _ X _ => by
    obtain ⟨cdD, hcD, _⟩ := any_some hdct
    unfold clsIn at hcD
    split at hcD
    · rename_i c' d' cd' sl' ho
      intro A' Q' E' s' k q
      unfold isType loadHead
      exact wpAny_bind (wpAny_loadPart (k _ _ (X _ _ ho)) (wpAny_pure q))
    · cases hcD
  ne := fun h tp dd its n sl X htp => by
    obtain ⟨cdD, hcD, _⟩ := any_some hdct
    refine Bool.eq_false_iff.mpr fun q => ?_
    have e : D = tp := Value.ref.inj (beq_iff_eq.mp q)
    subst e
    unfold clsIn at hcD
    split at hcD
    · rename_i c' d' cd' sl' ho
      have z := (X _ _ ho).symm.trans htp
      cases z
    · cases hcD
  ca := fun X I k => kx_classE X I hga hgt hsub (findObj_dataE (by obtain ⟨cd, hc, _⟩ := any_some hdct; rw [hc]; rfl) ha hn htk) hm k
end
end PySem.W
namespace L2
open PySem PySem.Spec PyProof.Rows
/-- isinstance(e, c), e the exception that the suite holds, with its own dict -/
def rIsX (K : PySem.W.Frag) (a : Addr) (cls : Value) (d : Option Addr) : List V → Hp → VK → Prop := fun xs H Q => ∃ (c : V) (cv : Value) (b : Bool) (D dd : Addr) (fs : List (Str × V)), xs = [.ref a, c] ∧ (∀ u, RelV c u → u = cv) ∧ cls = .ref D ∧ ExcC K D ∧ d = some dd ∧ H dd = some (.xd fs) ∧ PySem.W.kitOne K (.ref D) cv = some b ∧ Q (.bl b) H
theorem instX {X : Cx} {pins : List (Addr × Obj)} {σ : St} {H : Hp} {s : Shared} {a D dd : Addr} {oe : Obj} {pn : List (Addr × Obj)} {fs : List (Str × V)} (I : Inv (X.suite a ((a, oe) :: pn)) pins σ H s) (hz : Zc (.ref D) (some dd) oe) (hf : ∃ vs, oe.data = .fields vs) (he : H dd = some (.xd fs)) : ∃ od, PySem.W.InstAt s.heap a oe D (some od) := by
  obtain ⟨hget, _⟩ := I.pin (a, oe) (List.mem_append.mpr (.inl List.mem_cons_self))
  obtain ⟨vs, hv⟩ := hf
  obtain ⟨mA, ⟨od, es, ep, e1, e2, e3⟩, r⟩ := (show ObjOk X.prog X.w H s.heap dd (.xd fs) from I.hok dd _ he)
  exact ⟨od, hget, hz.1, by unfold PySem.W.notCls; rw [hv] <;> rfl, by rw [hz.2]; exact e1⟩
theorem call_isX {X : Cx} {a : Addr} {cls : Value} {d : Option Addr} {oe : Obj} {pn : List (Addr × Obj)} (hz : Zc cls d oe) (hf : ∃ vs, oe.data = .fields vs) : CallR (X.suite a ((a, oe) :: pn)) (.builtin "isinstance") (rIsX X.K a cls d) := by
  intro pins s σ H xs us Q I r h
  obtain ⟨c, cv, b, D, dd, fs, rfl, hcv, rfl, C, rfl, hd, e, q⟩ := h
  obtain ⟨u1, u2, rfl, rx, rt⟩ := vals2 r
  cases rx
  have ec := hcv _ rt
  subst ec
  obtain ⟨od, J⟩ := instX I hz hf hd
  exact PySem.W.kia_one (PySem.W.gb_kitx_exc C.hg C.hk C.hs C.hd C.ha C.hn C.ht C.hm) I.kIn J e (fun z => nomatch z) fun tk => ⟨.bl b, H, I.kept (t' := tk) fun _ _ z => z, rfl, q⟩
/-- isinstance(e, (c1, c2, ..)) -/
def rIsXT (K : PySem.W.Frag) (a : Addr) (cls : Value) (d : Option Addr) : List V → Hp → VK → Prop := fun xs H Q => ∃ (tp : Addr) (cs : List V) (us : List Value) (b : Bool) (D dd : Addr) (fs : List (Str × V)), xs = [.ref a, .ref tp] ∧ H tp = some (.tup cs) ∧ Paired ClsV cs us ∧ cls = .ref D ∧ ExcC K D ∧ d = some dd ∧ H dd = some (.xd fs) ∧ PySem.W.kitAny K (.ref D) us = some b ∧ Q (.bl b) H
theorem call_isXT {X : Cx} {a : Addr} {cls : Value} {d : Option Addr} {oe : Obj} {pn : List (Addr × Obj)} (hz : Zc cls d oe) (hf : ∃ vs, oe.data = .fields vs) : CallR (X.suite a ((a, oe) :: pn)) (.builtin "isinstance") (rIsXT X.K a cls d) := by
  intro pins s σ H xs us Q I r h
  obtain ⟨tp, cs, ws, b, D, dd, fs, rfl, hT, k, rfl, C, rfl, hd, e, q⟩ := h
  obtain ⟨u1, u2, rfl, rx, rt⟩ := vals2 r
  cases rx
  cases (show u2 = Value.ref tp from rt)
  obtain ⟨od, J⟩ := instX I hz hf hd
  obtain ⟨_, its, rv, o, h1, h2, n, h3⟩ := (show ObjOk X.prog X.w H s.heap tp (.tup cs) from I.hok tp _ hT)
  have e3 := ClsV.all k rv
  subst e3
  obtain ⟨oc, od, dt, sl⟩ := o
  simp only at h2 h3
  subst h2 h3
  exact PySem.W.kia_tup (PySem.W.gb_kitx_exc C.hg C.hk C.hs C.hd C.ha C.hn C.ht C.hm) I.kIn J h1 e (fun z => nomatch z) fun tk => ⟨.bl b, H, I.kept (t' := tk) fun _ _ z => z, rfl, q⟩
theorem exc_heap {H : Hp} {a d : Addr} {o1 o2 o3 u : HO} (h : H a = none) : upd (del (upd (upd (upd H a o1) d o2) a o3) a) d u = upd H d u := by
  funext b
  by_cases hd : b = d
  · subst hd; rw [upd_same, upd_same]
  · rw [upd_ne hd, upd_ne hd]
    by_cases ha : b = a
    · subst ha; rw [del_same, h]
    · rw [del_ne ha, upd_ne ha, upd_ne hd, upd_ne ha]
/-- what the classes of errors are, over one base with __init__(self, subject) -/
structure GExc (K : PySem.W.Frag) (C fI : Addr) : Prop where
  oex : OexC K C
  iC : PySem.W.findIn K (.ref C) "__init__" = some (some (.ref fI))
  tI : PySem.W.typeIn K (.ref fI) = some (.type "function")
  noS : PySem.W.findIn K (.ref C) "subject" = some none
/-- __init__(self, subject): self.subject = subject -/
def spGI (K : PySem.W.Frag) : Sp := fun vs H Q _ => ∃ (a C : Addr) (v : V), vs = [.ref a, v] ∧ OexC K C ∧ PySem.W.findIn K (.ref C) "subject" = some none ∧ H a = some (exo a C none) ∧
  ∀ dx, H dx = none → dx ≠ a → Q .non (upd (upd H dx (exd dx [(("subject" : Str), v)])) a (exo a C (some dx)))
/-- raise X(e): what it wants of e's value and the heap behind it -/
def RaiseG (K : PySem.W.Frag) (C : Addr) (W : WX) (σ : St) (v : V) (H1 : Hp) : Prop := ([v] : List V).length ≤ 1000 ∧ ∀ a, H1 a = none → spGI K (.ref a :: ([v] ++ [])) (upd H1 a (exo a C none))
  (fun v' H2 => v' = .non ∧ ∃ (d : Addr) (fs : List (Str × V)), H2 a = some (exo a C (some d)) ∧ H2 d = some (exd d fs) ∧ H1 d = none ∧ W (.ref C) (some d) σ (upd (del H2 a) d (.xd fs))) (fun _ _ _ => False)
theorem raiseG_in {K : PySem.W.Frag} {C fI : Addr} {W : WX} {σ : St} {v : V} {H1 : Hp} (T : GExc K C fI) (h : ∀ d, H1 d = none → W (.ref C) (some d) σ (upd H1 d (.xd [(("subject" : Str), v)]))) : RaiseG K C W σ v H1 := by
  refine ⟨by show 1 ≤ 1000; decide, fun a ha => ⟨a, C, v, rfl, T.oex, T.noS, upd_same, fun dx hdx hne => ⟨rfl, dx, [(("subject" : Str), v)], upd_same, ?_, ?_, ?_⟩⟩⟩
  · rw [upd_ne hne, upd_same]
  · rw [upd_ne hne] at hdx; exact hdx
  · rw [exc_heap ha]
    rw [upd_ne hne] at hdx
    exact h dx hdx
def tRaiseG (K : PySem.W.Frag) (C : Addr) (W : WX) (te : TE) : TS := fun _ σ H => te σ H fun v H1 => RaiseG K C W σ v H1
theorem ps_raiseG {X : Cx} {x : Str} {C fI : Addr} {k : Nat} {fd : FuncData} {ps : List Str} {W : WX} {e : Expr} {te : TE} {p pos pos2 : Pos} (hc : X.calm = true) (T : GExc X.K C fI)
    (F1 : FnOk X.prog X.w X.K X.mg X.base CX0 k fI fd ps (spGI X.K)) (hr : Room (k + 1) X.A) (hb : Binds X.K fd ps []) (hg : Gl X x) (hm : X.mg x = some (.ref C)) (tk : Takes X W) (ha : PE X e te)
    (hdb : (x == ("__debug__" : Str)) = false := by decide) (he : starEach [e] X.env = (false, eval e X.env) :: starEach [] X.env := by rfl) (hpl : (backTo pos (starEach [] X.env)).any (·.1) = false := by rfl) :
    PS X (.Raise (some (.Call (.Name x p) [e] [] pos)) none pos2) (tRaiseG X.K C W te) :=
  ps_raise (pos := pos2) hc tk (pmk_oex (p := p) (pos := pos) (dvs := []) T.oex T.iC T.tI F1 hr hb .nil (fun _ _ _ _ _ _ _ h => h.elim) hg hm (pa_cons ha pa_nil he) hdb he hpl)
/-- C(e, ..) of an own class in a try's body -/
def tMakeS (C : Addr) (sp : Sp) (E : St → XK) (t : TA) : TE := fun σ H Q => t σ H fun vs H1 => ∀ x dx, H1 x = none → H1 dx = none → dx ≠ x →
  sp (.ref x :: vs) (upd (upd H1 dx (.own x)) x (.ins C dx [])) (fun v H2 => v = .non ∧ Q (.ref x) H2) (E σ)
section
variable {X : Cx} {CX : CXT} {k : Nat} {f C : Addr} {fd : FuncData} {ps : List Str} {sp : Sp} {E : St → XK} {x : Str} {p pos : Pos} {e : Expr} {es : List Expr} {t : TA} {ta tb : TE}
theorem run_makeS {pins : List (Addr × Obj)} {σ : St} {H : Hp} {s : Shared} {Q : VK} {us : List Value} {vs : List V} (M : Mk X.K C f) (F : FnOk X.prog X.w X.K X.mg X.base CX k f fd ps sp) (hr : Room (k + 1) X.A) (hb : Binds X.K fd ps [])
    (hx : PassesAt CX X σ (E σ)) (I : Inv X pins σ H s) (r : Vals vs us)
    (h : ∀ x dx, H x = none → H dx = none → dx ≠ x → sp (.ref x :: vs) (upd (upd H dx (.own x)) x (.ins C dx [])) (fun v H2 => v = .non ∧ Q (.ref x) H2) (E σ)) :
    wpAny (model X.prog X.w) X.A (call (.ref C) us) (EP X pins σ Q) X.xe s := by
  have hq := h (s.heap.objs.size + 1) s.heap.objs.size (I.hok.fresh (Nat.le_succ _)) (I.hok.fresh (Nat.le_refl _)) (Nat.ne_of_lt (Nat.lt_succ_self _))
  have I2 := Inv.made (C := C) I
  have r2 : Vals (V.ref (s.heap.objs.size + 1) :: vs) (Value.ref (s.heap.objs.size + 1) :: us) := .cons rfl r
  have hl : (Value.ref (s.heap.objs.size + 1) :: us).length = ps.length := by
    have e := r2.length
    rw [F.len _ _ _ _ hq] at e
    exact e.symm
  have hb' := hb
  refine wpAny_call (make_map (f := f) I.kIn M.makes M.init (beq_iff_eq.mp M.fn) (codeAny_mono (F.run _ X.stack _ _ ⟨Value.ref (s.heap.objs.size + 1) :: us, []⟩ (Value.ref (s.heap.objs.size + 1) :: us) _ _ (E σ) (hr.make C us [])
    (I2.env0.make C us []) (by have z := hb _ (Value.ref (s.heap.objs.size + 1) :: us) I2.kIn (by rw [List.append_nil]; exact hl); rw [List.append_nil] at z; exact z) r2 hq) fun r s' hq' => ?_))
  cases r with
  | error e => exact hx pins _ _ e s' I2 hq'
  | ok fl =>
    cases fl with
    | ret u =>
      obtain ⟨v, H', I3, rv, ev, q3⟩ := I2.after hq'
      subst ev
      exact ⟨rv, ⟨V.ref (s.heap.objs.size + 1), H', I3, rfl, q3⟩⟩
    | next => exact False.elim hq'
    | brk => exact False.elim hq'
    | cont => exact False.elim hq'
theorem pe_makeS (M : Mk X.K C f) (F : FnOk X.prog X.w X.K X.mg X.base CX k f fd ps sp) (hr : Room (k + 1) X.A) (hg : Gl X x) (hm : X.mg x = some (.ref C)) (hb : Binds X.K fd ps []) (hx : ∀ σ, PassesAt CX X σ (E σ))
    (ha : PA X (e :: es) t) (hdb : (x == ("__debug__" : Str)) = false := by decide) (he : starEach (e :: es) X.env = (false, eval e X.env) :: starEach es X.env := by rfl) (hpl : (backTo pos (starEach es X.env)).any (·.1) = false := by rfl) :
    PE X (.Call (.Name x p) (e :: es) [] pos) (tMakeS C sp E t) := by
  refine ⟨fun pins s σ H Q I h => ?_⟩
  refine wpAny_Call_Name_kw (ld_glob I hg hm ?_ hdb)
  refine PySem.W.callWith_K (h₀ := X.base) I.ok.mod.kin M.kp (thn (ha.run pos pins s σ H _ I h) fun us s1 ⟨vs, H1, I1, r, q⟩ => ⟨I1.kIn, ?_⟩) he hpl
  exact run_makeS M F hr hb (hx σ) I1 r q
theorem run_fnS2 {pins : List (Addr × Obj)} {σ : St} {H : Hp} {s : Shared} {Q : VK} {us : List Value} {vs : List V} (F : FnOk X.prog X.w X.K X.mg X.base CX k f fd ps sp) (hr : Room k X.A) (hb : Binds X.K fd ps []) (hx : PassesAt CX X σ (E σ))
    (I : Inv X pins σ H s) (r : Vals vs us) (h : sp vs H Q (E σ)) : wpAny (model X.prog X.w) X.A (call (.ref f) us) (EP X pins σ Q) X.xe s :=
  run_fnSD (dvs := []) (ds := []) F hr hb .nil hx I r (by rw [List.append_nil]; exact h)
/-- x op y in a try's body: y of the class, or an int -/
def tOpS (C : Addr) (sp : Sp) (E : St → XK) (ta tb : TE) : TE := fun σ H Q => ta σ H fun x H1 => tb σ H1 fun y H2 => ∃ a dx fs, x = .ref a ∧ H2 a = some (.ins C dx fs) ∧ ((∃ b dy gs, y = .ref b ∧ H2 b = some (.ins C dy gs)) ∨ ∃ i, y = .int i) ∧ sp [x, y] H2 Q (E σ)
theorem pe_opS {op : Operator} (hm : Meth X.K C (PySem.dunder op.info.2) f) (hc : PySem.W.selfFirst X.K C = true) (hi : OwnI X.K C op) (F : FnOk X.prog X.w X.K X.mg X.base CX k f fd ps sp) (hr : Room k X.A) (hb : Binds X.K fd ps []) (hx : ∀ σ, PassesAt CX X σ (E σ))
    {l r : Expr} (ha : PE X l ta) (hb' : PE X r tb) : PE X (.BinOp l op r pos) (tOpS C sp E ta tb) := by
  refine ⟨fun pins s σ H Q I h => ?_⟩
  refine wpAny_BinOp (binT ha hb' I h fun v u s2 x y H2 I2 rx ry q => ?_)
  obtain ⟨a, dx, fs, rfl, ea, hy, q⟩ := q
  obtain rfl : v = Value.ref a := rx
  obtain ⟨od, J⟩ := I2.instAt ea
  obtain ⟨m, fr⟩ := I2.fr
  have run := run_fnS2 F hr hb (hx σ) I2 (.cons (show RelV (.ref a) (Value.ref a) from rfl) (.cons ry .nil)) q
  rcases hy with ⟨b, dy, gs, rfl, eb⟩ | ⟨i, rfl⟩
  · obtain rfl : u = Value.ref b := ry
    obtain ⟨od', J'⟩ := I2.instAt eb
    refine PySem.W.binop_K fr I2.ok.mod.kin J J'.type hc hm.at_ hm.fn (thn run fun w s' q => ?_)
    obtain ⟨v', H', I', rv, q⟩ := q
    exact cmpBack_of rv ⟨v', H', I', rv, q⟩
  · obtain ⟨t, rfl⟩ := (show ∃ t, u = Value.int i t from ry)
    obtain ⟨⟨rc, h1, h2⟩, ⟨fo, h3⟩, ⟨ro, h4⟩, h5⟩ := hi
    refine PySem.W.ksp_binT (T := "int") fr I2.ok.mod.kin J rfl hc hm.at_ hm.fn h1 h2 h3 h4 h5 (thn run fun w s' q => ?_)
    obtain ⟨v', H', I', rv, q⟩ := q
    exact cmpBack_of rv ⟨v', H', I', rv, q⟩
end
end L2
namespace L2
open PySem PySem.Spec PyProof.Rows
section
variable {X : Cx}
theorem rangeSize1 (a b : Int) : Builtin.Range.rangeSize a b 1 = if a < b then b - a else 0 := by
  unfold Builtin.Range.rangeSize
  rw [if_pos (by decide)]
  by_cases h : a < b
  · rw [if_pos h, if_pos h]; omega
  · rw [if_neg h, if_neg h]
theorem q_rlen (r : Addr) (a b : Int) (t u v : Tok) (hz : b - a < 2 ^ 63) :
    Meets (Builtin.«range.__len__» ⟨[.ref r], []⟩) (fun _ R s => s.heap.get? r = some { cls := .type "range", dict := none, data := .fields #[.int a t, .int b u, .int 1 v], slots := #[] } ∧ R (.ok (.ret (.int (if a < b then b - a else 0) s.toks))) { s with toks := s.toks + 1 }) :=
  .of_wp fun prog w A R s h => by
    obtain ⟨hp, g, d, tk, os⟩ := s
    obtain ⟨hl, h⟩ := h
    have hn : ¬ (Builtin.Range.rangeSize a b 1 ≥ 2 ^ 63) := by rw [rangeSize1]; split <;> omega
    wp_walk
    rw [rangeSize1] at hn ⊢
    rw [if_neg hn]
    wp_walk
    exact ⟨_, rfl, h⟩
/-- len(r), r a range with step 1 -/
def rLenRng : List V → Hp → VK → Prop := fun xs H Q => ∃ a lo hi, xs = [.ref a] ∧ H a = some (.rng lo hi) ∧ hi - lo < 2 ^ 63 ∧ Q (.int (if lo < hi then hi - lo else 0)) H
theorem call_lenRng : CallR X (.builtin "len") rLenRng := by
  intro pins s σ H xs us Q I r h
  obtain ⟨a, lo, hi, rfl, ea, hz, q⟩ := h
  obtain ⟨u, rfl, ru⟩ := vals1 r
  obtain rfl : u = Value.ref a := ru
  obtain ⟨t1, t2, t3, ho⟩ := I.hok a _ ea
  refine call_len_slot (T := "range") (n := if lo < hi then hi - lo else 0) ⟨_, ho, rfl⟩ PySem.F.slot_range_len (fun Q' q' => ?_) (by split <;> omega) (by split <;> omega) ⟨.int (if lo < hi then hi - lo else 0), H, (I.tok _), ⟨_, rfl⟩, q⟩
  exact call_meets PySem.F.slot_range_len ⟨_, ho, rfl⟩ PySem.F.entry_range_len (PySem.F.args_range_len_1 _) (q_rlen a lo hi t1 t2 t3 hz) ⟨ho, q'⟩
end
end L2
namespace L2
open PySem PySem.Spec PyProof.Rows
section
variable {X : Cx} {a : Expr} {ta : TE}
/-- * of any two ints whose product the machine takes -/
theorem op_mulX : OpR X (binaryOp .Mult) (rI IntMulOk fun i j => .int (i * j)) := opI fun _ _ _ _ _ _ _ hc q => mul_int q hc
theorem mulL {i j : Int} (h : -(2 ^ 64) < i ∧ i < 2 ^ 64) : IntMulOk i j := CMul.ok (.inl h)
theorem mulR {i j : Int} (h : -(2 ^ 64) < j ∧ j < 2 ^ 64) : IntMulOk i j := CMul.ok (.inr h)
/-- a test by an own truth -/
theorem pt_own {r : V → Hp → (Bool → Hp → Prop) → Prop} (ht : TruR X r) (ha : PE X a ta) (he : ∀ whole, isTrue a X.env whole = (do let v ← whole; standAt a.pos; holding [v] (truthy v)) := by intro _; rfl) :
    PT X a (fun σ H Q => ta σ H fun x H' => r x H' Q) := by
  refine ⟨fun pins s σ H Q I h => ?_⟩
  rw [he]
  refine wpAny_bind (thn (ha.run pins s σ H _ I h) fun v s1 ⟨x, H1, I1, r1, q1⟩ => ?_)
  exact wpAny_bind (wpAny_standAt (wpAny_holding (ht pins s1 σ H1 x v Q I1 r1 q1)))
end
/-- what was tracked stays, but for what stands at p -/
def SameBut (p : Addr) (H H' : Hp) : Prop := ∀ b o, b ≠ p → H b = some o → H' b = some o
theorem SameBut.refl {p : Addr} {H : Hp} : SameBut p H H := fun _ _ _ h => h
theorem SameBut.trans {p : Addr} {H H1 H2 : Hp} (a : SameBut p H H1) (b : SameBut p H1 H2) : SameBut p H H2 := fun c o n h => b c o n (a c o n h)
theorem Same.but {p : Addr} {H H' : Hp} (a : Same H H') : SameBut p H H' := fun c o _ h => a c o h
theorem same_new {H : Hp} {p : Addr} {o : HO} (h : H p = none) : Same H (upd H p o) := fun b u e => by rw [upd_ne (ne_of_none e h)]; exact e
theorem sameBut_upd {H : Hp} {p : Addr} {o : HO} : SameBut p H (upd H p o) := fun b u n e => by rw [upd_ne n]; exact e
theorem Same.seqT {K : PySem.W.Frag} {H H' : Hp} {a : Addr} {xs : List V} (e : Same H H') (h : SqT K H a xs) : SqT K H' a xs := by
  rcases h with (h | ⟨o, h⟩) | h
  · exact .inl (.inl (e _ _ h))
  · exact .inl (.inr ⟨o, e _ _ h⟩)
  · exact .inr h
theorem getMap {xs : List Int} {i : Nat} {y : V} (h : (xs.map V.int)[i]? = some y) : ∃ z, xs[i]? = some z ∧ y = V.int z := by
  rw [List.getElem?_map] at h
  cases e : xs[i]? with
  | none => rw [e] at h; cases h
  | some z => rw [e] at h; exact ⟨z, rfl, (Option.some.inj h).symm⟩
theorem bitsMul {i j : Int} (hi : Builtin.Int.intBits i ≤ 1048576) (hj : Builtin.Int.intBits j ≤ 1048576) : IntMulOk i j := IntMulOk.of_le hi hj (by decide)

theorem iteD {p : Prop} [Decidable p] {A B : Prop} (h1 : p → A) (h2 : ¬ p → B) : if decide p = true then A else B := by
  by_cases h : p
  · rw [decide_eq_true h, if_pos rfl]; exact h1 h
  · rw [decide_eq_false h, if_neg Bool.false_ne_true]; exact h2 h
theorem iteDN {p : Prop} [Decidable p] {A B : Prop} (h1 : p → B) (h2 : ¬ p → A) : if (!decide p) = true then A else B := by
  by_cases h : p
  · rw [decide_eq_true h]; exact iteF (h1 h)
  · rw [decide_eq_false h]; exact iteT (h2 h)
theorem qd {Q : VK} {H : Hp} {p q : Prop} [Decidable p] [Decidable q] (e : p ↔ q) (h : Q (.bl (decide p)) H) : Q (.bl (decide q)) H := by
  have z : decide p = decide q := by
    by_cases c : p
    · rw [decide_eq_true c, decide_eq_true (e.mp c)]
    · rw [decide_eq_false c, decide_eq_false fun y => c (e.mpr y)]
  rw [← z]; exact h
theorem qt {Q : VK} {H : Hp} {p : Prop} [Decidable p] (c : p) (h : Q (.bl (decide p)) H) : Q (.bl true) H := by
  rw [decide_eq_true c] at h; exact h
theorem qf {Q : VK} {H : Hp} {p : Prop} [Decidable p] (c : ¬ p) (h : Q (.bl (decide p)) H) : Q (.bl false) H := by
  rw [decide_eq_false c] at h; exact h

/-! ### the pool of draws -/
/-- the list of the pool: four ints, then ints of at least 1 -/
def poolL (a b c n : Int) (bs : List Int) : List V := [.int a, .int b, .int c, .int n] ++ bs.map V.int
def PoolAt (H : Hp) (p : Addr) : Prop := ∃ a b c n bs, H p = some (.lst (poolL a b c n bs)) ∧ bs.length ≤ 63 ∧ ∀ z ∈ bs, 1 ≤ z
theorem pool_len (a b c n : Int) (bs : List Int) : (poolL a b c n bs).length = 4 + bs.length := by
  unfold poolL; rw [List.length_append, List.length_map]; rfl
theorem pool_at0 {a b c n : Int} {bs : List Int} : atI (poolL a b c n bs) 0 = some (.int a) := atI_nat (j := 0) rfl
theorem pool_at1 {a b c n : Int} {bs : List Int} : atI (poolL a b c n bs) 1 = some (.int b) := atI_nat (j := 1) rfl
theorem pool_at2 {a b c n : Int} {bs : List Int} : atI (poolL a b c n bs) 2 = some (.int c) := atI_nat (j := 2) rfl
theorem pool_at3 {a b c n : Int} {bs : List Int} : atI (poolL a b c n bs) 3 = some (.int n) := atI_nat (j := 3) rfl
theorem pool_at4 {a b c n z : Int} {bs : List Int} : atI (poolL a b c n (z :: bs)) 4 = some (.int z) := atI_nat (j := 4) rfl
theorem ixN_of {n : Nat} {j : Nat} (h : j < n) : ixN n (j : Int) = some j := by
  unfold ixN
  rw [if_pos (by omega), if_pos (by omega)]
  simp
theorem pool_ix {a b c n : Int} {bs : List Int} (j : Nat) (h : j < 4) : ixN (poolL a b c n bs).length (j : Int) = some j := ixN_of (by rw [pool_len]; omega)
theorem pool_ix4 {a b c n z : Int} {bs : List Int} : ixN (poolL a b c n (z :: bs)).length 4 = some 4 := ixN_of (j := 4) (by rw [pool_len, List.length_cons]; omega)
theorem pool_seq4 {a b c n z : Int} {bs : List Int} : seqIndex? 4 (poolL a b c n (z :: bs)).length = some 4 := (ixN_seq pool_ix4).1
theorem PoolAt.of {H : Hp} {p : Addr} {a b c n : Int} {bs : List Int} (h : H p = some (.lst (poolL a b c n bs))) (hl : bs.length ≤ 63) (hz : ∀ z ∈ bs, 1 ≤ z) : PoolAt H p := ⟨a, b, c, n, bs, h, hl, hz⟩
theorem PoolAt.mono {H H' : Hp} {p : Addr} (h : PoolAt H p) (e : Same H H') : PoolAt H' p := let ⟨a, b, c, n, bs, q, hl, hz⟩ := h; ⟨a, b, c, n, bs, e _ _ q, hl, hz⟩
theorem PoolAt.ne {H : Hp} {p q : Addr} (h : PoolAt H p) (hq : H q = none) : p ≠ q := let ⟨_, _, _, _, _, e, _, _⟩ := h; ne_of_none e hq
theorem same_of_but {H H' : Hp} {p : Addr} (hp : H p = none) (s : SameBut p H H') : Same H H' := fun b o e => s b o (ne_of_none e hp) e
theorem dp2 {K : PySem.W.Frag} {H : Hp} {t : Addr} {a b : Int} (h : SqT K H t [.int a, .int b]) : Dp K H (.ref t) (.tuple [.int a, .int b]) := .tup h (.cons (.int a) (.cons (.int b) .nil))
theorem eqv2 (a b : Int) : PyData.eqv (.tuple [.int a, .int b]) (.tuple [.int a, .int b]) = true := by simp [PyData.eqv, PyData.eqvAll]
theorem eqv22 (a b c d : Int) : PyData.eqv (.tuple [.int a, .int b]) (.tuple [.int c, .int d]) = decide (a = c ∧ b = d) := by
  simp [PyData.eqv, PyData.eqvAll, Bool.decide_and]
  try rfl
theorem andV_two {p q : Prop} [Decidable p] [Decidable q] {Qk : VK} {σ : L2.St} {H : Hp} {tb : TE} (h1 : Qk (.bl (decide q)) H → tb σ H Qk) (h : Qk (.bl (decide p && decide q)) H) : if decide p = true then tb σ H Qk else Qk (.bl false) H := by
  by_cases c : p
  · rw [decide_eq_true c] at h ⊢; exact h1 h
  · rw [decide_eq_false c] at h ⊢; rw [if_neg Bool.false_ne_true]; exact h
theorem notFirst_self {K : PySem.W.Frag} {C : Addr} : PySem.W.notFirst K C (.ref C) = true := by unfold PySem.W.notFirst; simp
def spPool (K : PySem.W.Frag) : Sp := fun vs H Q _ => ∃ (a : Addr) (ns : List Int), vs = [.ref a] ∧ SqL K H a (ns.map V.int) ∧ ns.length ≤ 63 ∧ (∀ z ∈ ns, Builtin.Int.intBits z ≤ 1048576) ∧
  ∀ p H', H p = none → PoolAt H' p → SameBut p H H' → Q (.ref p) H'
def spDraw : Sp := fun vs H Q _ => ∃ (p : Addr) (m : Int), vs = [.ref p, .int m] ∧ PoolAt H p ∧ 1 ≤ m ∧ m < 1073741824 ∧ ∀ r H', 0 ≤ r → r < m → PoolAt H' p → SameBut p H H' → Q (.int r) H'

/-! ### the rules that speak of K, by the K at hand -/
section
variable {X : Cx} {o e : Expr} {ta tl : TE} {tg : Expr} {f : Str} {pos : Pos}
theorem op_eqDK (K : PySem.W.Frag) (hu : X.A.units + 64 < cLine) (hK : X.K = K := by rfl) : OpR X (compareOp .Eq) (rEqD K) := hK ▸ op_eqD hu
theorem op_neDK (K : PySem.W.Frag) (hu : X.A.units + 64 < cLine) (hK : X.K = K := by rfl) : OpR X (compareOp .NotEq) (rNeD K) := hK ▸ op_neD hu
theorem ix_tupK (K : PySem.W.Frag) (hK : X.K = K := by rfl) : IxR X (rIxT K) := hK ▸ ix_tup
theorem ix_listK (K : PySem.W.Frag) (hK : X.K = K := by rfl) : IxR X (rIxL K) := hK ▸ ix_list
theorem pe_fldK (K : PySem.W.Frag) (he : PE X e ta) (hb : attributeBase e f X.env (eval e X.env) = eval e X.env) (hK : X.K = K := by rfl) : PE X (.Attribute e f pos) (tFld K ta f) := hK ▸ pe_fld he hb
theorem op_in_seqK (K : PySem.W.Frag) (hK : X.K = K := by rfl) : OpR X (compareOp .In) (rIn K false) := hK ▸ op_in_seq
theorem op_notIn_seqK (K : PySem.W.Frag) (hK : X.K = K := by rfl) : OpR X (compareOp .NotIn) (rIn K true) := hK ▸ op_notIn_seq
theorem call_isiK' (K : PySem.W.Frag) (hK : X.K = K := by rfl) : CallR X (.builtin "isinstance") (rIsi K) := hK ▸ call_isi
theorem pi_listK (K : PySem.W.Frag) (hl : PE X o tl) (hK : X.K = K := by rfl) : PI X tg o (iList K tl) := hK ▸ pi_list hl
theorem pi_tupK (K : PySem.W.Frag) (hl : PE X o tl) (hK : X.K = K := by rfl) : PI X tg o (iTup K tl) := hK ▸ pi_tup hl
def rLenSq (K : PySem.W.Frag) : List V → Hp → VK → Prop := fun xs H Q => ∃ p ys, xs = [.ref p] ∧ (SqL K H p ys ∨ SqT K H p ys) ∧ Q (.int ys.length) H
theorem call_len_seqK (K : PySem.W.Frag) (hK : X.K = K := by rfl) : CallR X (.builtin "len") (rLenSq K) := hK ▸ call_len_seq
end
theorem kit_same {K : PySem.W.Frag} {t : Value} : PySem.W.kitOne K t t = some true := by
  unfold PySem.W.kitOne
  rw [if_pos (by simp)]
theorem kit_sub {K : PySem.W.Frag} {t C : Addr} {b : Bool} (hd : PySem.W.hasDictIn K C = true) (ty : PySem.W.typeIn K (.ref C) = some (.type "type")) (self : PySem.W.subIn K (.ref C) (.ref C) = some true) (h : PySem.W.subIn K (.ref t) (.ref C) = some b) :
    PySem.W.kitOne K (.ref t) (.ref C) = some b := by
  unfold PySem.W.kitOne
  by_cases e : t = C
  · subst e
    rw [if_pos (by simp)]
    exact self.symm.trans h
  · rw [if_neg (by simpa using e)]
    obtain ⟨cd, hc, _⟩ := PySem.W.any_some hd
    have e2 : ((PySem.W.clsIn K C).isSome && PySem.W.typeIn K (.ref C) == some (.type "type")) = true := by rw [hc, ty] <;> rfl
    show (if ((PySem.W.clsIn K C).isSome && PySem.W.typeIn K (.ref C) == some (.type "type")) = true then PySem.W.subIn K (.ref t) (.ref C) else none) = some b
    rw [if_pos e2]
    exact h
theorem kit_base {K : PySem.W.Frag} {t : Addr} {T : String} {b : Bool} (hm : PySem.W.kitMeta T = true) (h : PySem.W.subIn K (.ref t) (.type T) = some b) : PySem.W.kitOne K (.ref t) (.type T) = some b := by
  unfold PySem.W.kitOne
  rw [if_neg (by simp)]
  show (if PySem.W.kitMeta T = true then PySem.W.subIn K (.ref t) (.type T) else none) = some b
  rw [if_pos hm]
  exact h
end L2
namespace L2
open PySem PySem.Spec PyProof.Rows
theorem dec_add (i : Int) (t : Tok) (a C dx : Addr) : Meets (Builtin.«int.__add__» ⟨[.int i t, .ref a], []⟩) (fun _ R s => s.heap.get? a = some (PySem.W.instObj C dx) ∧ R (.ok (.ret .notImplemented)) s) :=
  .of_wp fun prog w A R s h => by obtain ⟨hp, g, d, tk, os⟩ := s; obtain ⟨hl, h⟩ := h; unfold PySem.W.instObj at hl; wp_walk; exact ⟨_, rfl, h⟩
theorem dec_sub (i : Int) (t : Tok) (a C dx : Addr) : Meets (Builtin.«int.__sub__» ⟨[.int i t, .ref a], []⟩) (fun _ R s => s.heap.get? a = some (PySem.W.instObj C dx) ∧ R (.ok (.ret .notImplemented)) s) :=
  .of_wp fun prog w A R s h => by obtain ⟨hp, g, d, tk, os⟩ := s; obtain ⟨hl, h⟩ := h; unfold PySem.W.instObj at hl; wp_walk; exact ⟨_, rfl, h⟩
theorem dec_mul (i : Int) (t : Tok) (a C dx : Addr) : Meets (Builtin.«int.__mul__» ⟨[.int i t, .ref a], []⟩) (fun _ R s => s.heap.get? a = some (PySem.W.instObj C dx) ∧ R (.ok (.ret .notImplemented)) s) :=
  .of_wp fun prog w A R s h => by obtain ⟨hp, g, d, tk, os⟩ := s; obtain ⟨hl, h⟩ := h; unfold PySem.W.instObj at hl; wp_walk; exact ⟨_, rfl, h⟩
theorem dec_eq (i : Int) (t : Tok) (a C dx : Addr) : Meets (Builtin.«int.__eq__» ⟨[.int i t, .ref a], []⟩) (fun _ R s => s.heap.get? a = some (PySem.W.instObj C dx) ∧ R (.ok (.ret .notImplemented)) s) :=
  .of_wp fun prog w A R s h => by obtain ⟨hp, g, d, tk, os⟩ := s; obtain ⟨hl, h⟩ := h; unfold PySem.W.instObj at hl; wp_walk; exact ⟨_, rfl, h⟩

/-- what the classes say of an operator with an int on the left -/
structure IntOp (op : Operator) (B : Builtin) (id : String) : Prop where
  fills : fillsNumberSlot (.type "int") op.info.2 = pure true
  slot : Slot "int" (PySem.dunder op.info.2) id
  entry : entryFor table id = some B
  args : ∀ a b, argsOk id ⟨[a, b], []⟩
  dec : ∀ (i : Int) (t : Tok) (a C dx : Addr), Meets (B ⟨[.int i t, .ref a], []⟩) (fun _ R s => s.heap.get? a = some (PySem.W.instObj C dx) ∧ R (.ok (.ret .notImplemented)) s)
theorem intAdd : IntOp .Add Builtin.«int.__add__» "int.__add__" := ⟨F.fills_int_add, F.slot_int_add, F.entry_int_add, F.args_int_add_2, dec_add⟩
theorem intSub : IntOp .Sub Builtin.«int.__sub__» "int.__sub__" := ⟨F.fills_int_sub, F.slot_int_sub, F.entry_int_sub, F.args_int_sub_2, dec_sub⟩
theorem intMul : IntOp .Mult Builtin.«int.__mul__» "int.__mul__" := ⟨F.fills_int_mul, F.slot_int_mul, F.entry_int_mul, F.args_int_mul_2, dec_mul⟩
open PySem.W in
theorem binop_IK {prog : Program} {w : World} {A : Around} {E : Value → Shared → Prop} {s : Shared} {K : Frag} {x C L f f0 dx : Addr} {h₀ : Heap} {m : Str → Option Value} {od : Option Obj} {op : Operator} {B : Builtin} {id : String} {i : Int} {t : Tok} {Q : Value → Shared → Prop} (J : IntOp op B id)
    (Fr0 : Fr h₀ L s.heap m) (X₀ : K.In h₀) (I : PySem.W.InstAt s.heap x (PySem.W.instObj C dx) C od) (hc : selfFirst K C = true) (hs : findIn K (.ref C) (PySem.dunder op.info.2) = some (some (.ref f0)))
    (hr : findIn K (.ref C) (dunderR op.info.2) = some (some (.ref f))) (hf : isFn K (.ref f) = true) (hsub : subIn K (.ref C) (.type "int") = some false)
    (h : wpAny (model prog w) A (call (.ref f) [.ref x, .int i t]) (PySem.W.CmpBack Q) E s) : wpAny (model prog w) A (binaryOp op (.int i t) (.ref x)) Q E s := by
  have X := X₀.keeps Fr0.keep
  obtain ⟨cd, rest, hcd, hm⟩ := ksp_first hc
  obtain ⟨hfT, slot, entry, args, dec⟩ := J
  rcases hi : op.info with ⟨sym, nm⟩
  rw [hi] at hs hr hfT slot
  dsimp only at hs hr hfT slot
  have hne : (Value.type "int" == Value.ref C) = false := Bool.eq_false_iff.mpr fun q => by cases beq_iff_eq.mp q
  simp only [binaryOp, hi]
  refine wpAny_holding (wpAny_bind ?_)
  unfold binaryOp1
  refine wpAny_bind (wpAny_typeOf (show s.TypeIs (.int i t) "int" from rfl) (wpAny_bind (I.type.here (wpAny_bind (wpAny_of_eq hfT ?_)))))
  simp only [hne, Bool.false_eq_true, if_false]
  refine wpAny_bind ((fills_K X hcd hm hs).here ?_)
  simp only [Bool.and_self, if_true]
  refine wpAny_bind ((looks_subIn X hsub).here ?_)
  have hpy : numberSlotInPython (.type "int") nm = pure false := rfl
  simp only [Bool.false_eq_true, if_false, pure_bind, Bool.not_false, Bool.and_self, if_true, hpy]
  refine wpAny_bind (wpAny_tryMethod_declines (T := "int") rfl slot (call_meets slot rfl entry (args _ _) (dec i t x C dx) ⟨I.at_, rfl, ?_⟩))
  show wpAny _ _ (tryMethod (.ref x) (dunderR nm) (.int i t) >>= _) _ _ _
  refine wpAny_bind (wpAny_mono (ksp_try X I hr hf h) (fun r s' hq => ?_) fun _ _ z => z)
  obtain ⟨v, rfl, q⟩ := hq
  first | exact wpAny_bind (wpAny_rule (wpAny_pure (wpAny_pure q))) | exact wpAny_rule (wpAny_pure (wpAny_pure q)) | exact wpAny_bind (wpAny_rule (wpAny_pure q))
open PySem.W in
theorem eq_IK {prog : Program} {w : World} {A : Around} {E : Value → Shared → Prop} {s : Shared} {K : Frag} {x C L f dx : Addr} {h₀ : Heap} {m : Str → Option Value} {od : Option Obj} {i : Int} {t : Tok} {Q : Value → Shared → Prop} (hu : A.units < cLine)
    (Fr0 : Fr h₀ L s.heap m) (X₀ : K.In h₀) (I : PySem.W.InstAt s.heap x (PySem.W.instObj C dx) C od) (hs : findIn K (.ref C) "__eq__" = some (some (.ref f))) (hf : isFn K (.ref f) = true) (hsub : subIn K (.ref C) (.type "int") = some false)
    (h : wpAny (model prog w) A (call (.ref f) [.ref x, .int i t]) (PySem.W.CmpBack Q) E s) : wpAny (model prog w) A (richCompare .Eq (.int i t) (.ref x)) Q E s := by
  have X := X₀.keeps Fr0.keep
  have one : wpAny (model prog w) A (tryCompare (.ref x) "__eq__" (.int i t)) (fun r s' => ∃ v, r = some v ∧ Q v s') E s := by
    unfold tryCompare
    refine wpAny_bind (ifBound_K X I hs hf (wpAny_mono h (fun v s' hv => ?_) fun _ _ e => e))
    cases v <;> first | exact hv.elim | exact wpAny_pure ⟨_, rfl, hv⟩
  have hne : (Value.type "int" != Value.ref C) = true := by
    have : (Value.type "int" == Value.ref C) = false := Bool.eq_false_iff.mpr fun q => by cases beq_iff_eq.mp q
    simp [bne, this]
  unfold richCompare
  refine wpAny_holding (wpAny_bind (wpAny_cRoomFor hu ?_))
  have ho : oneThing? .Eq (.int i t) (.ref x) = none := rfl
  rw [ho]
  refine wpAny_bind (wpAny_typeOf (show s.TypeIs (.int i t) "int" from rfl) (wpAny_bind (I.type.here ?_)))
  rw [if_pos hne]
  refine wpAny_bind ((looks_subIn X hsub).here ?_)
  simp only [Bool.false_eq_true, if_false]
  refine wpAny_bind (wpAny_tryCompare_declines (T := "int") rfl PySem.F.slot_int_eq (call_meets PySem.F.slot_int_eq rfl PySem.F.entry_int_eq (PySem.F.args_int_eq_2 _ _) (dec_eq i t x C dx) ⟨I.at_, rfl, ?_⟩))
  simp only [Bool.not_false, if_true]
  refine wpAny_bind (wpAny_mono one (fun r s' hq => ?_) fun _ _ z => z)
  obtain ⟨v, rfl, q⟩ := hq
  exact wpAny_pure q
section
variable {X : Cx} {CX : CXT} {k : Nat} {f f0 C : Addr} {fd : FuncData} {ps : List Str} {sp : Sp} {E : XK}
/-- i op x, an int on the left: x's reflected method at (x, i) -/
def rIOwn (C : Addr) (sp : Sp) (E : XK) : R2 := fun y x H Q => ∃ a dx fs i, x = .ref a ∧ H a = some (.ins C dx fs) ∧ y = .int i ∧ sp [x, y] H Q E
theorem op_iown {op : Operator} {B : Builtin} {id : String} (J : IntOp op B id) (hm0 : Meth X.K C (PySem.dunder op.info.2) f0) (hm : Meth X.K C (dunderR op.info.2) f) (hc : PySem.W.selfFirst X.K C = true) (hsub : PySem.W.subIn X.K (.ref C) (.type "int") = some false)
    (F : FnOk X.prog X.w X.K X.mg X.base CX k f fd ps sp) (hr : Room k X.A) (hb : Binds X.K fd ps []) (hx : Passes CX X E) : OpR X (binaryOp op) (rIOwn C sp E) := by
  intro pins s σ H y x v u Q I ry rx h
  obtain ⟨a, dx, fs, i, rfl, ea, rfl, h⟩ := h
  obtain rfl : u = Value.ref a := rx
  obtain ⟨t, rfl⟩ := (show ∃ t, v = Value.int i t from ry)
  obtain ⟨od, Ia⟩ := I.instAt ea
  obtain ⟨m, fr⟩ := I.fr
  refine binop_IK J fr I.ok.mod.kin Ia hc hm0.at_ hm.at_ hm.fn hsub (thn (run_fnA (us := [.ref a, .int i t]) (vs := [.ref a, .int i]) (dvs := []) rfl F hr hb .nil hx I (.cons rfl (.cons ⟨t, rfl⟩ .nil)) h) fun w s' q => ?_)
  obtain ⟨v', H', I', rv, q⟩ := q
  exact cmpBack_of rv ⟨v', H', I', rv, q⟩
theorem op_ieq (hm : Meth X.K C "__eq__" f) (hsub : PySem.W.subIn X.K (.ref C) (.type "int") = some false)
    (F : FnOk X.prog X.w X.K X.mg X.base CX k f fd ps sp) (hr : Room k X.A) (hb : Binds X.K fd ps []) (hx : Passes CX X E) : OpR X (compareOp .Eq) (rIOwn C sp E) := by
  intro pins s σ H y x v u Q I ry rx h
  obtain ⟨a, dx, fs, i, rfl, ea, rfl, h⟩ := h
  obtain rfl : u = Value.ref a := rx
  obtain ⟨t, rfl⟩ := (show ∃ t, v = Value.int i t from ry)
  obtain ⟨od, Ia⟩ := I.instAt ea
  obtain ⟨m, fr⟩ := I.fr
  show wpAny _ _ (richCompare .Eq (.int i t) (.ref a)) _ _ _
  refine eq_IK hr.units0 fr I.ok.mod.kin Ia hm.at_ hm.fn hsub (thn (run_fnA (us := [.ref a, .int i t]) (vs := [.ref a, .int i]) (dvs := []) rfl F hr hb .nil hx I (.cons rfl (.cons ⟨t, rfl⟩ .nil)) h) fun w s' q => ?_)
  obtain ⟨v', H', I', rv, q⟩ := q
  exact cmpBack_of rv ⟨v', H', I', rv, q⟩
end
/-- // by any divisor but 0, of less than 9000 bits -/
theorem op_fdivX {X : Cx} : OpR X (binaryOp .FloorDiv) (rI (fun _ j => j ≠ 0 ∧ j.natAbs.log2 < 9000) fun i j => .int (i.fdiv j)) := opI fun i j _ _ _ _ _ hc q => floordiv_int hc.1 q (.inl (PyProof.noPylong_of_log2 hc.2))
section
variable {X : Cx} {CX : CXT} {k : Nat} {f C : Addr} {fd : FuncData} {ps : List Str} {sp : Sp} {E : XK}
/-- abs(x), by an own __abs__ -/
def rAbsOwn (C : Addr) (sp : Sp) (E : XK) : List V → Hp → VK → Prop := fun xs H Q => ∃ a dx fs, xs = [.ref a] ∧ H a = some (.ins C dx fs) ∧ sp [.ref a] H Q E
theorem call_absOwn (hm : Meth X.K C "__abs__" f) (Fk : FnOk X.prog X.w X.K X.mg X.base CX k f fd ps sp) (hr : Room (k + 1) X.A) (hb : Binds X.K fd ps []) (hx : Passes CX X E) : CallR X (.builtin "abs") (rAbsOwn C sp E) := by
  intro pins s σ H xs us Q I r h
  obtain ⟨a, dx, fs, rfl, ea, h⟩ := h
  obtain ⟨u, rfl, ru⟩ := vals1 r
  obtain rfl : u = Value.ref a := ru
  obtain ⟨od, J⟩ := I.instAt ea
  refine PySem.Calls.call_function_entry kind_abs plain_abs entry_abs (args_abs _) ?_
  unfold Builtin.«abs»
  refine wpAny_bind (m := oneArg "abs" _) (wpAny_pure ?_)
  refine wpAny_bind (m := callSpecial? (.ref a) (Str.ofString "__abs__")) (PySem.W.special_fn I.kIn J hm.at_ (beq_iff_eq.mp hm.fn) (thn (run_fnA (A := X.A.in1) (us := [.ref a]) (vs := [.ref a]) (dvs := []) rfl Fk hr.in1 hb .nil hx I (.cons rfl .nil) h) fun w s' q => ?_))
  exact wpAny_pure ⟨_, rfl, q⟩
end
theorem kit_tb {K : PySem.W.Frag} {C : Addr} {T : String} {b : Bool} (hd : PySem.W.hasDictIn K C = true) (ty : PySem.W.typeIn K (.ref C) = some (.type "type")) (h : PySem.W.subIn K (.type T) (.ref C) = some b) : PySem.W.kitOne K (.type T) (.ref C) = some b := by
  unfold PySem.W.kitOne
  rw [if_neg (by simp)]
  obtain ⟨cd, hc, _⟩ := PySem.W.any_some hd
  have e2 : ((PySem.W.clsIn K C).isSome && PySem.W.typeIn K (.ref C) == some (.type "type")) = true := by rw [hc, ty] <;> rfl
  show (if ((PySem.W.clsIn K C).isSome && PySem.W.typeIn K (.ref C) == some (.type "type")) = true then PySem.W.subIn K (.type T) (.ref C) else none) = some b
  rw [if_pos e2]
  exact h
theorem notFirst_ty {K : PySem.W.Frag} {C : Addr} {T : String} (h : PySem.W.subIn K (.type T) (.ref C) = some false) : PySem.W.notFirst K C (.type T) = true := by unfold PySem.W.notFirst; rw [h]; simp
theorem binds_none {K : PySem.W.Frag} {fd : FuncData} {ps : List Str} (h : ∃ ds, Vals ([] : List V) ds ∧ Binds K fd ps ds) : Binds K fd ps [] := by
  obtain ⟨ds, r, b⟩ := h
  cases r
  exact b
end L2
namespace L2
open PySem PySem.Spec PyProof.Rows
section
variable {X : Cx} {CX : CXT} {k : Nat} {f C : Addr} {fd : FuncData} {ps : List Str} {sp : Sp} {E : St → XK} {m : Str} {pos apos : Pos} {e o : Expr} {es : List Expr} {ta : TE} {t : TA}
/-- o.m(e, ..) in a try's body -/
def tMethT (C : Addr) (m : Str) (sp : Sp) (E : St → XK) (ta : TE) (t : TA) : TE := fun σ H Q => ta σ H fun x H1 => ∃ a dx fs, x = .ref a ∧ H1 a = some (.ins C dx fs) ∧ fs.lookup m = none ∧ t σ H1 fun vs H2 => sp (x :: vs) H2 Q (E σ)
theorem pe_methT {pl : Sem Bool} (he : PE X o ta) (c : Cls X.K C) (hm : Meth X.K C m f) (F : FnOk X.prog X.w X.K X.mg X.base CX k f fd ps sp) (hr : Room k X.A) (hb : Binds X.K fd ps []) (hx : ∀ σ, PassesAt CX X σ (E σ)) (ha : PA X (e :: es) t)
    (hst : starEach (e :: es) X.env = (false, eval e X.env) :: starEach es X.env := by rfl) (hpl : (backTo pos (starEach es X.env)).any (·.1) = false := by rfl)
    (ht : eval (.Call (.Attribute o m apos) (e :: es) [] pos) X.env = (do
      let ov ← eval o X.env
      standAt apos.atName
      let (f, first) ← holding [ov] (getMethod ov m pl)
      callWith pos f first (backTo pos (starEach (e :: es) X.env)) (backToKw pos (keywordEach [] X.env))) := by rfl) :
    PE X (.Call (.Attribute o m apos) (e :: es) [] pos) (tMethT C m sp E ta t) := by
  refine ⟨fun pins s σ H Q I h => ?_⟩
  refine PySem.W.methodCall_KW (pl := pl) (thn (he.run pins s σ H _ I h) fun u s1 ⟨x, H1, I1, rx, a, dx, fs, ex, ea, l, q⟩ => ?_) ht
  subst ex
  obtain rfl : u = Value.ref a := rx
  refine getmeth_ok I1 ea c hm l ?_
  refine PySem.W.callWith_K (first := [.ref a]) (h₀ := X.base) I.ok.mod.kin hm.kp (thn (ha.run pos pins s1 σ H1 _ I1 q) fun us s2 ⟨vs, H2, I2, r, q2⟩ => ⟨I2.kIn, ?_⟩) hst hpl
  exact run_fnS2 (us := .ref a :: us) (vs := .ref a :: vs) F hr hb (hx σ) I2 (.cons rfl r) q2
end
theorem op_two {X : Cx} {op : Operator} {r1 r2 : R2} (h1 : OpR X (binaryOp op) r1) (h2 : OpR X (binaryOp op) r2) : OpR X (binaryOp op) (fun x y H Q => r1 x y H Q ∨ r2 x y H Q) := by
  intro pins s σ H x y v u Q I rx ry h
  rcases h with h | h
  · exact h1 _ _ _ _ _ _ _ _ _ I rx ry h
  · exact h2 _ _ _ _ _ _ _ _ _ I rx ry h
end L2
/-! errors whose context is None, so that their handler may call defs that loop -/
namespace L2
open PySem PySem.Spec PyProof.Rows L2H
theorem Fun.okH {P : Program} {w : World} {K : PySem.W.Frag} {mg : Str → Option Value} {base : Heap} {x qual : Str} {st : Stmt} {f : Addr} {fd : FuncData} {N ps : List Str} {k : Nat} {sp : Sp} (F : Fun K x qual st f fd) (S : FnScope N ps (defScope st)) (len : ∀ vs H Q E, sp vs H Q E → vs.length = ps.length)
    (hbody : ∀ (cdv : Value) (A : Around) (outer : List Env) (s : Shared) (H : Hp) (vs : List V) (Q : VK) (E : XK) (p : Addr × Obj), Hot1 A p → RoomH k (A.deeper (envOfC qual (defScope st) s.heap.objs.size f cdv)) → sp vs H Q E →
      ∃ t, PSs (cxH CX0 P w K mg base N qual (defScope st) f cdv A outer s H E p).nox (defBody st) t ∧ t { nx := fun _ H' => Q .non H', rt := Q } (start N vs) H) : FnH P w K mg base CX0 (k + 1) f fd ps sp := by
  obtain ⟨oc, od, kV, doc, pm, an, cdv, ct, osl, rfl, lk, hcd⟩ := F.ex
  refine fn_ofH lk hcd S len fun A outer s H vs Q E p hot hr hsp => ?_
  obtain ⟨t, h, q⟩ := hbody cdv A outer s H vs Q E p hot hr hsp
  exact ⟨t, h.nox, q⟩
theorem hotC_in {CX : CXT} {P : Program} {w : World} {K : PySem.W.Frag} {mg : Str → Option Value} {base : Heap} {N : List Str} {qual : Str} {scope : Scope} {f : Addr} {cd : Value} {A : Around} {outer : List Env} {s : Shared} {H : Hp} {E : XK} {p : Addr × Obj} (h : Hot1 A p) : HotC (cxH CX P w K mg base N qual scope f cd A outer s H E p).nox :=
  ⟨p, ⟨h.1, h.2⟩, List.mem_singleton.mpr rfl⟩
theorem hotC_suite {X : Cx} {a : Addr} {cls : Value} {d : Option Addr} {oe : Obj} {pn : List (Addr × Obj)} (hz : L2N.Zn cls d oe) (hf : ∃ vs, oe.data = .fields vs) : HotC (X.suite a ((a, oe) :: pn)) := by
  obtain ⟨vs, e⟩ := hf
  exact ⟨(a, oe), ⟨rfl, vs, e, hz.2.2 vs e⟩, List.mem_cons_self⟩
theorem passH0 {X : Cx} : ∀ σ : L2.St, PassesAt CX0 X σ ((fun _ => E0) σ) := fun _ _ _ _ _ _ _ h => h.elim
theorem roomH_suite {X : Cx} {k j : Nat} {a : Addr} {pn : List (Addr × Obj)} (r : Room k X.A) (h : j ≤ k) : RoomH j (X.suite a pn).A := roomH_mark (r.mono h) _
theorem Fun.okXN {P : Program} {w : World} {K : PySem.W.Frag} {mg : Str → Option Value} {base : Heap} {x qual : Str} {st : Stmt} {f : Addr} {fd : FuncData} {N ps : List Str} {k : Nat} {sp : Sp} (F : Fun K x qual st f fd) (S : FnScope N ps (defScope st)) (len : ∀ vs H Q E, sp vs H Q E → vs.length = ps.length)
    (hbody : ∀ (cdv : Value) (A : Around) (outer : List Env) (s : Shared) (H : Hp) (vs : List V) (Q : VK) (E : XK), Room k (A.deeper (envOfC qual (defScope st) s.heap.objs.size f cdv)) → sp vs H Q E →
      ∃ t, PSs (cxOf (L2N.CX P w) P w K mg base N qual (defScope st) f cdv A outer s H E) (defBody st) t ∧ t { nx := fun _ H' => Q .non H', rt := Q } (start N vs) H) : FnOk P w K mg base (L2N.CX P w) (k + 1) f fd ps sp := by
  obtain ⟨oc, od, kV, doc, pm, an, cdv, ct, osl, rfl, lk, hcd⟩ := F.ex
  exact fn_of lk hcd S len fun A outer s H vs Q E hr hsp => hbody cdv A outer s H vs Q E hr hsp
theorem passLN {X : Cx} : Passes (L2N.CX X.prog X.w) X E0 := fun _ _ _ _ _ _ _ h => by
  obtain ⟨_, _, _, _, _, _, _, _, _, _, _, _, z⟩ := h
  exact z.elim
theorem takes0N {X : Cx} : L2N.Takes X (fun _ _ _ _ => False) := fun _ _ x => by
  obtain ⟨_, _, _, _, _, _, _, _, _, _, _, _, _, _, _, _, z⟩ := x
  exact z.elim
section
variable {X : Cx} {CX : CXT} {x : Str} {C fI : Addr} {k : Nat} {fd : FuncData} {ps : List Str} {sp : Sp} {e : Expr} {es : List Expr} {ta : TA} {p pos : Pos}
/-- C(e, ..) of an error class whose __init__ is our own -/
theorem pmk_oexN (T : OexC X.K C) (iC : PySem.W.findIn X.K (.ref C) "__init__" = some (some (.ref fI))) (tI : PySem.W.typeIn X.K (.ref fI) = some (.type "function"))
    (F1 : FnOk X.prog X.w X.K X.mg X.base CX k fI fd ps sp) (hr : Room (k + 1) X.A) (hb : Binds X.K fd ps []) (hx : Passes CX X (fun _ _ _ => False)) (hg : Gl X x) (hm : X.mg x = some (.ref C)) (ha : PA X (e :: es) ta)
    (hdb : (x == ("__debug__" : Str)) = false := by decide) (he : starEach (e :: es) X.env = (false, eval e X.env) :: starEach es X.env := by rfl) (hpl : (backTo pos (starEach es X.env)).any (·.1) = false := by rfl) :
    L2N.PMk X (.Call (.Name x p) (e :: es) [] pos) (tMkO C sp [] ta) := by
  intro pins s σ H Q I h
  obtain ⟨nm, q, N, bs, bm, sn, sub, ab, col, dd, k0, k1, k2, k3, k5, hC, hbm⟩ := T.cls
  refine wpAny_Call_Name_kw (ld_glob I hg hm ?_ hdb)
  refine PySem.W.callWith_K (h₀ := X.base) I.ok.mod.kin T.kC (thn (ha.run pos pins s σ H _ I h) fun us s1 ⟨vs, H1, I1, r1, hz, q1⟩ => ⟨I1.kIn, ?_⟩) he hpl
  show wpAny _ _ (call (.ref C) us) _ _ _
  obtain ⟨hp, g, dr, tk, os⟩ := s1
  have hq := q1 (hp.objs.size + 1) (I1.hok.fresh (Nat.le_succ _))
  rw [List.append_nil] at hq
  have kk : ∀ b o, hp.get? b = some o → ((hp.push (PySem.W.kdv_tup us)).push (PySem.HandSPX.excO C hp.objs.size)).get? b = some o := fun b o e => Heap.get?_push_of_some _ (Heap.get?_push_of_some _ e)
  have I2 : Inv X pins σ (upd H1 (hp.objs.size + 1) (exo (hp.objs.size + 1) C none)) ⟨(hp.push (PySem.W.kdv_tup us)).push (PySem.HandSPX.excO C hp.objs.size), g, dr, tk, os⟩ := I1.laid (t' := tk) (a := hp.objs.size + 1) (o := exo (hp.objs.size + 1) C none) (h' := (hp.push (PySem.W.kdv_tup us)).push (PySem.HandSPX.excO C hp.objs.size)) kk (Nat.le_succ _) (exo_ok (by heap_get))
  have r2 : Vals (V.ref (hp.objs.size + 1) :: vs) (Value.ref (hp.objs.size + 1) :: us) := .cons rfl r1
  have hl : (Value.ref (hp.objs.size + 1) :: us ++ []).length = ps.length := by
    rw [List.append_nil, ← F1.len _ _ _ _ hq]; exact r2.length.symm
  have b2 := hb _ (Value.ref (hp.objs.size + 1) :: us) I2.kIn hl
  rw [List.append_nil] at b2
  have hus : us.length ≤ sizeLine := by
    rw [← Paired.length r1, sizeLine_eq]
    omega
  refine wpAny_call (PySem.HandSPX.call_own F.excBase_ValueError (fun Y => PySem.HandSPX.refsVE_contains Y bm hbm) (I1.kIn _ _ hC) (PySem.W.looks_findIn I1.kIn iC) (fun self => PySem.W.bind_fn I1.kIn self tI) hus
    (codeAny_mono (F1.run _ X.stack _ _ ⟨Value.ref (hp.objs.size + 1) :: us, []⟩ (Value.ref (hp.objs.size + 1) :: us) _ _ (fun _ _ _ => False) (hr.make C us []) (I2.env0.make C us []) b2 r2 hq) fun r s' hq' => ?_))
  cases r with
  | error er => exact hx pins σ _ _ er s' I2 hq'
  | ok fl =>
    cases fl with
    | ret u =>
      obtain ⟨v, H2, os2, bare2, un2, hok2, rv, ev, d, fs, ea, ed, hd1, q2⟩ := hq'
      subst ev
      obtain ⟨h2, g2, d2, t2, os'⟩ := s'
      obtain ⟨t0, G, J, kG, ge, hoe, na⟩ := mk_end0 (d2 := d2) (t2 := t2) I1 (Nat.le_succ _) kk un2 hok2 os2 bare2 ea ed hd1
      exact ⟨rv, hp.objs.size + 1, _, _, ⟨G, g2, d2, t2, os'⟩, _, .ref C, some d, rfl, J, kG, ge, hoe, ⟨rfl, rfl, fun vs hv => by cases hv; rfl⟩, rfl, rfl, na, rfl, bare2, raises_own T.exC T.tyC, q2⟩
    | next => exact False.elim hq'
    | brk => exact False.elim hq'
    | cont => exact False.elim hq'
end
theorem ps_raiseGN {X : Cx} {x : Str} {C fI : Addr} {k : Nat} {fd : FuncData} {ps : List Str} {W : WX} {e : Expr} {te : TE} {p pos pos2 : Pos} (hc : X.calm = true) (T : GExc X.K C fI)
    (F1 : FnOk X.prog X.w X.K X.mg X.base CX0 k fI fd ps (spGI X.K)) (hr : Room (k + 1) X.A) (hb : Binds X.K fd ps []) (hg : Gl X x) (hm : X.mg x = some (.ref C)) (tk : L2N.Takes X W) (ha : PE X e te)
    (hdb : (x == ("__debug__" : Str)) = false := by decide) (he : starEach [e] X.env = (false, eval e X.env) :: starEach [] X.env := by rfl) (hpl : (backTo pos (starEach [] X.env)).any (·.1) = false := by rfl) :
    PS X (.Raise (some (.Call (.Name x p) [e] [] pos)) none pos2) (tRaiseG X.K C W te) :=
  L2N.ps_raise (pos := pos2) hc tk (pmk_oexN (p := p) (pos := pos) T.oex T.iC T.tI F1 hr hb (fun _ _ _ _ _ _ _ h => h.elim) hg hm (pa_cons ha pa_nil he) hdb he hpl)
end L2
/-! iter of a tuple; list(x) of an own class whose __iter__ gives a tuple's iterator and that has an own __len__ -/
namespace L2
open PySem PySem.Spec PyProof.Rows
section
variable {prog : Program} {w : World} {A : Around} {E : Value → Shared → Prop} {s : Shared}
theorem gb_iter_tuple {t : Addr} {items : Array Value} {Q : Value → Shared → Prop} (ht : s.heap.IsTuple t items) (h : Q (.ref s.heap.objs.size) { s with heap := s.heap.push { cls := .type "tuple_iterator", data := .fields #[.ref t, .int 0 0] } }) : wpAny (model prog w) A (call (.builtin "iter") [.ref t]) Q E s := by
  refine Calls.call_function_entry (by decide +kernel) (by decide +kernel) PySem.W.kdk_entry_iter (PySem.W.kdk_args_iter _) ?_
  unfold Builtin.«iter»
  refine wpAny_bind (m := someArgs "iter" 1 2 _) (wpAny_of_eq (a := [Value.ref t]) (by first | rfl | kernel_rfl!) ?_)
  show wpAny _ _ (pyIter (.ref t) >>= _) _ _ _
  refine wpAny_bind (wpAny_pyIter_tuple ht ?_)
  exact wpAny_pure ⟨_, rfl, h⟩
/-- the end of a tuple's iterator; the iterator stays an object -/
theorem gb_tuple_end {it t : Addr} {i : Nat} {items : Array Value} {Q : Option Value → Shared → Prop} (hh : A.handled = none)
    (hit : s.heap.IsTupleIter it t i) (ht : s.heap.IsTuple t items) (hx : items[i]? = none)
    (hQ : ∀ h', Heap.ExtBut it s.heap h' → (∃ u, h'.get? it = some u) → Q none { s with heap := h' }) : wpAny (model prog w) A (pyNext (.ref it)) Q E s := by
  obtain ⟨o, ho, hc, hd⟩ := id hit
  obtain ⟨ol, hol, _, nl, hdl⟩ := ht
  unfold pyNext
  refine wpAny_bind (wpAny_attempt (wpAny_callSpecial?_slot (name := Str.ofString "__next__") hit.typeIs F.slot_tuple_iterator_next
    (wpAny_call_entry F.slot_tuple_iterator_next hit.typeIs F.entry_tuple_iterator_next ?_ (F.args_tuple_iterator_next_1 _))))
  show wpAny _ _ (field (.ref it) 0 >>= _) _ _ s
  refine wpAny_bind (wpAny_field ho hd (x := .ref t) rfl ?_)
  show wpAny _ _ (if (Value.ref t == Value.none) = true then _ else _) _ _ s
  rw [if_neg (show ¬ ((Value.ref t == Value.none) = true) from Bool.false_ne_true)]
  show wpAny _ _ (field (.ref it) 1 >>= _) _ _ s
  refine wpAny_bind (wpAny_field ho hd (x := .int i 0) rfl ?_)
  show wpAny _ _ (seqItems? (.ref t) >>= _) _ _ s
  refine wpAny_bind (wpAny_seqItems hol hdl ?_)
  simp only [Int.toNat_natCast, hx]
  refine wpAny_bind (wpAny_rule (wpAny_bind (wpAny_setField ho hd (by simp) ?_)))
  show wpAny _ _ (newExc (.type "StopIteration") [] >>= _) _ _ _
  refine wpAny_bind ?_
  simp only [newExc, newTuple]
  refine wpAny_bind (wpAny_newObj_type ?_ (by size_fits))
  refine wpAny_bind (m := firstArgMember _ _) (wpAny_of_eq (a := Value.none) (by first | rfl | (simp only [firstArgMember]; rfl)) ?_)
  refine wpAny_newObj_type ?_ (by size_fits)
  simp only [raiseNew]
  refine wpAny_bind (wpAny_handled ?_)
  first | rw [show A.in1.handled = none from hh] | rw [hh]
  refine wpAny_bind (wpAny_pure (wpAny_throw ?_))
  refine wpAny_bind (wpAny_isInstance (T := "StopIteration") (b := true) ⟨_, Heap.get?_push_size _ rfl, rfl⟩ isSubtype_stop ?_)
  exact wpAny_pure (hQ _ (((Heap.SameBut.update ..).extBut.push _).push _) ⟨_, Heap.get?_push_of_some _ (Heap.get?_push_of_some _ (Heap.get?_update_self _ ho (Obj.isFreed_of_fields (Obj.data_mapFields hd _))))⟩)
theorem gb_hint {Q : Bool → Shared → Prop} {K : PySem.W.Frag} {a C fl : Addr} {ox : Obj} {od : Option Obj} (hl : PySem.W.findIn K (.ref C) "__len__" = some (some (.ref fl))) (hK : K.In s.heap) (J : PySem.W.InstAt s.heap a ox C od)
    (h : wpAny (model prog w) A (call (.builtin "len") [.ref a]) (fun v s' => ∃ n t, v = .int n t ∧ Builtin.List.listTooLong n.toNat = false ∧ Q (n != 0) s') (fun _ _ => False) s) : wpAny (model prog w) A (Builtin.List.listLengthHint (.ref a)) Q E s := by
  unfold Builtin.List.listLengthHint
  refine wpAny_bind (wpAny_bind (J.type.here ((PySem.W.looks_findIn hK hl).here ?_)))
  refine PySem.W.KFB.if_not rfl ?_
  show wpAny _ _ (rule _ >>= _) _ _ _
  refine wpAny_bind (wpAny_rule ?_)
  refine wpAny_bind (wpAny_attempt (wpAny_mono h (fun v s' hv => ?_) fun _ _ z => ?_))
  · obtain ⟨n, t, rfl, h1, q⟩ := hv
    show wpAny _ _ (if Builtin.List.listTooLong n.toNat = true then _ else pure (n != 0)) _ _ _
    rw [if_neg (by rw [h1]; decide)]
    exact wpAny_pure q
  · exact z.elim
end
/-- at it an iterator over the tuple at t, the next place is i -/
def ItT (t it : Addr) (i : Nat) : HO := .ext fun h => h.IsTupleIter it t i
/-- at it something that is no longer of use -/
def ItX (it : Addr) : HO := .ext fun h => ∃ o, h.get? it = some o
theorem itT_ok {P : Program} {w : World} {H : Hp} {h : Heap} {t it : Addr} {i : Nat} (e : h.IsTupleIter it t i) : ObjOk P w H h it (ItT t it i) := ⟨e, let ⟨o, ho, _⟩ := e; ⟨o, ho⟩, fun h1 h2 q k => Heap.IsTupleIter.at q k⟩
theorem itX_ok {P : Program} {w : World} {H : Hp} {h : Heap} {it : Addr} (e : ∃ o, h.get? it = some o) : ObjOk P w H h it (ItX it) := ⟨e, e, fun h1 h2 q k => let ⟨o, ho⟩ := q; ⟨o, k o ho⟩⟩
section
variable {X : Cx} {pins : List (Addr × Obj)} {σ : St} {H : Hp} {s : Shared} {t it l : Addr} {i : Nat} {zs : List V}
theorem itT_get (I : Inv X pins σ H s) (e : H it = some (ItT t it i)) : s.heap.IsTupleIter it t i := (I.hok it _ e).1
def rIterT (K : PySem.W.Frag) : List V → Hp → VK → Prop := fun xs H Q => ∃ (t : Addr) (zs : List V), xs = [.ref t] ∧ SqT K H t zs ∧ ∀ it, H it = none → Q (.ref it) (upd H it (ItT t it 0))
theorem call_iterT : CallR X (.builtin "iter") (rIterT X.K) := by
  intro pins s σ H xs us Q I r h
  obtain ⟨t, zs, rfl, hq, q⟩ := h
  obtain rfl := Vals.ref1 r
  obtain ⟨its, rv, pl, hz⟩ := I.tuple hq
  refine gb_iter_tuple (show s.heap.IsTuple t its.toArray from pl) ?_
  exact ⟨.ref s.heap.objs.size, _, I.laid (t' := s.toks) (fun b u e => Heap.get?_push_of_some _ e) (Nat.le_refl _) (itT_ok ⟨_, Heap.get?_push_size _ rfl, rfl, rfl⟩), rfl, q _ (I.hok.fresh (Nat.le_refl _))⟩
theorem upd_swap {a b : Addr} {o u : HO} (h : a ≠ b) : upd (upd H a o) b u = upd (upd H b u) a o := by
  funext c
  by_cases ha : c = a
  · subst ha; rw [upd_ne h, upd_same, upd_same]
  · rw [upd_ne ha]
    by_cases hb : c = b
    · subst hb; rw [upd_same, upd_same]
    · rw [upd_ne hb, upd_ne hb, upd_ne ha]
/-- the loop over a tuple's iterator, the list at l filled -/
theorem gb_loop {A1 : Around} {Rs : Result → Shared → Prop} (hh : A1.handled = none) (hne : it ≠ l) (hT : SqT X.K H t zs) (hz : zs.length < sizeLine) (hlt : H l = none) (hit : H it = none)
    (hdone : ∀ s, Inv X pins σ (upd (upd H l (.lst zs)) it (ItX it)) s → Rs (.ok (.ret .none)) s) :
    ∀ (k i : Nat) (s : Shared), zs.length - i = k → i ≤ zs.length → Inv X pins σ (upd (upd H l (.lst (zs.take i))) it (ItT t it i)) s → codeAny (model X.prog X.w) A1 (.builtin "list.extend.loop" ⟨[.ref l, .ref it, .none], []⟩) Rs s := by
  have sT : ∀ {o1 o2 : HO}, SqT X.K (upd (upd H l o1) it o2) t zs := fun {o1 o2} => Same.seqT ((same_new hlt).trans (same_new (by rw [upd_ne hne]; exact hit))) hT
  intro k
  induction k with
  | zero =>
    intro i s hk hi I
    have hin : i = zs.length := by omega
    subst hin
    obtain ⟨its, rv, pl, _⟩ := I.tuple (sT (o1 := _) (o2 := _))
    refine codeAny_builtin PySem.F.entry_extend_loop ?_
    rw [Around.under_plainId PySem.F.plain_extend_loop _]
    show wpAny _ A1.in1 (pyNext (.ref it) >>= _) _ _ s
    refine wpAny_bind (gb_tuple_end (A := A1.in1) hh (itT_get I upd_same) (show s.heap.IsTuple t its.toArray from pl) (by have := rv.length; simp; omega) fun h' hb hu => ?_)
    refine wpAny_pure (hdone _ ?_)
    have I2 := I.write (x := it) (e := it) (o := ItX it) (h' := h') (t' := s.toks) (by rw [upd_same]; exact True.intro) (.inl rfl) (fun b u nb z => hb b u nb z) hu (itX_ok hu)
    rw [upd_upd, List.take_length] at I2
    exact I2
  | succ k ih =>
    intro i s hk hi I
    have hlt2 : i < zs.length := by omega
    obtain ⟨its, rv, pl, _⟩ := I.tuple (sT (o1 := _) (o2 := _))
    obtain ⟨u, hu, ru⟩ := rv.get (List.getElem?_eq_getElem hlt2)
    refine codeAny_builtin PySem.F.entry_extend_loop ?_
    rw [Around.under_plainId PySem.F.plain_extend_loop _]
    show wpAny _ A1.in1 (pyNext (.ref it) >>= _) _ _ s
    refine wpAny_bind (wpAny_pyNext_tuple_item (itT_get I upd_same) (show s.heap.IsTuple t its.toArray from pl) (x := u) (by simpa using hu) fun h' hi' sb => ?_)
    have I2 := I.write (x := it) (e := it) (o := ItT t it (i + 1)) (h' := h') (t' := s.toks) (by rw [upd_same]; exact True.intro) (.inl rfl) (fun b o nb z => (sb.2 b nb).trans z) (let ⟨o, ho, _⟩ := hi'; ⟨o, ho⟩) (itT_ok hi')
    rw [upd_upd, upd_swap hne.symm] at I2
    show wpAny _ A1.in1 (updateSeq l (·.push u) >>= _) _ _ _
    obtain ⟨z, its2, c, r2, hl, e⟩ := I2.lstM upd_same
    have hl2 : its2.length = i := by rw [← r2.length, List.length_take]; omega
    refine wpAny_bind (wpAny_updateSeq e rfl (wpAny_pure ⟨plainId_quiet PySem.F.plain_extend_loop _, ?_⟩) (by rw [List.size_toArray]; omega) (by show (its2.toArray.push u).size ≤ sizeLine + 1; rw [Array.size_push, List.size_toArray]; omega))
    have I3 := I2.lset (its' := its2 ++ [u]) (ys := zs.take (i + 1)) (t' := s.toks) (f := (·.push u)) upd_same e (by simp) (by rw [List.take_succ, List.getElem?_eq_getElem hlt2]; exact r2.append (.cons ru .nil)) (by rw [List.length_take]; omega)
    rw [upd_upd, upd_swap hne] at I3
    exact ih (i + 1) _ (by omega) hlt2 I3
end
section
variable {X : Cx} {k k2 : Nat} {fi fl C : Addr} {fd fd2 : FuncData} {ps ps2 : List Str} {spI spL : Sp}
/-- list(x) -/
def rListIt (K : PySem.W.Frag) (C : Addr) (spI spL : Sp) : List V → Hp → VK → Prop := fun xs H Q => ∃ (a dx t : Addr) (fs : List (Str × V)) (zs : List V), xs = [.ref a] ∧ H a = some (.ins C dx fs) ∧ SqT K H t zs ∧ zs.length < 1000 ∧
  ∀ l, H l = none →
    spI [.ref a] (upd H l (.lst [])) (fun v H' => ∃ it, v = .ref it ∧ upd H l (.lst []) it = none ∧ H' = upd (upd H l (.lst [])) it (ItT t it 0)) (fun _ _ _ => False) ∧
    (∀ it, H it = none → it ≠ l → spL [.ref a] (upd (upd H l (.lst [])) it (ItT t it 0)) (fun v H' => v = .int zs.length ∧ H' = upd (upd H l (.lst [])) it (ItT t it 0)) (fun _ _ _ => False)) ∧
    ∀ it, H it = none → it ≠ l → Q (.ref l) (upd (upd H l (.lst zs)) it (ItX it))
theorem call_listIt (hmI : Meth X.K C "__iter__" fi) (hmL : Meth X.K C "__len__" fl) (FI : FnOk X.prog X.w X.K X.mg X.base CX0 k fi fd ps spI) (FL : FnOk X.prog X.w X.K X.mg X.base CX0 k2 fl fd2 ps2 spL)
    (bI : Binds X.K fd ps []) (bL : Binds X.K fd2 ps2 []) (hr : Room (k + 2) X.A) (hr2 : Room (k2 + 3) X.A) : CallR X (.type "list") (rListIt X.K C spI spL) := by
  intro pins s σ H xs us Q I rv h
  obtain ⟨a, dx, t, fs, zs, rfl, ha, hT, hz, hq⟩ := h
  obtain ⟨u, rfl, ru⟩ := rv.one
  obtain rfl : u = Value.ref a := ru
  refine callType_codes (Q₁ := fun obj s₁ => obj = .ref s.heap.objs.size ∧ s₁ = { s with heap := s.heap.push { cls := .type "list", data := .seq #[] } }) PySem.F.called_list (PySem.F.typeCall_list_1 _) PySem.F.entry_list_init
    (code_list_new _ ⟨rfl, rfl⟩) fun obj s₁ h₁ => ?_
  obtain ⟨rfl, rfl⟩ := h₁
  have hS : (s.heap.push { cls := .type "list", data := .seq #[] }).get? s.heap.objs.size = some { cls := .type "list", data := .seq #[] } := Heap.get?_push_size _ rfl
  refine ⟨⟨_, hS, rfl⟩, PySem.F.args_list_init_2 _ _, ?_⟩
  have fr : H s.heap.objs.size = none := I.hok.fresh (Nat.le_refl _)
  obtain ⟨q1, q2, q3⟩ := hq _ fr
  have I1 : Inv X pins σ (upd H s.heap.objs.size (.lst [])) { s with heap := s.heap.push { cls := .type "list", data := .seq #[] } } := I.lnew (its := []) (t' := s.toks) .nil (Nat.zero_le _)
  show wpAny _ _ (do let old ← Builtin.List.listItems (.ref s.heap.objs.size); Builtin.List.listUpdate (.ref s.heap.objs.size) (fun _ => #[]); letGo old.toList.reverse; Builtin.List.listExtendWith (.ref s.heap.objs.size) (.ref a) .none) _ _ _
  refine wpAny_bind ?_
  unfold Builtin.List.listItems
  refine wpAny_bind (wpAny_seqItems hS rfl (wpAny_pure ?_))
  show wpAny _ _ (updateSeq s.heap.objs.size (fun _ => #[]) >>= fun _ => letGo (#[] : Array Value).toList.reverse >>= fun _ => Builtin.List.listExtendWith (.ref s.heap.objs.size) (.ref a) .none) _ _ _
  refine wpAny_bind (wpAny_updateSeq hS rfl ?_)
  have I2 := I1.lset (f := fun _ => #[]) (its := []) (its' := []) (ys := []) (t' := s.toks) upd_same hS rfl .nil (Nat.zero_le _)
  rw [upd_upd] at I2
  refine wpAny_bind (wpAny_letGo ?_)
  generalize hl0 : s.heap.objs.size = l at *
  have hne : a ≠ l := ne_of_none ha fr
  have ha2 : upd H l (.lst []) a = some (.ins C dx fs) := by rw [upd_ne hne]; exact ha
  generalize ({ s with heap := (s.heap.push { cls := .type "list", data := .seq #[] }).update l (Obj.mapSeq fun _ => #[]), toks := s.toks } : Shared) = s2 at I2 ⊢
  obtain ⟨od, J⟩ := I2.instAt ha2
  obtain ⟨m0, hF⟩ := I2.fr
  unfold Builtin.List.listExtendWith
  refine wpAny_bind (J.type.here ?_)
  have h1 : Builtin.List.listSameRef (.ref l) (.ref a) = false := by simp [Builtin.List.listSameRef, hne.symm]
  have h2 : (Value.ref C == Value.type "list") = false := rfl
  have h3 : (Value.ref C == Value.type "tuple") = false := rfl
  simp only [h1, h2, h3, Bool.or_false, Bool.false_eq_true, if_false]
  refine wpAny_bind (PySem.W.owit_iter hF I2.ok.mod.kin J hmI.at_ hmI.fn ?_)
  have rI : Room k X.A.in1.in1 := (hr.in1 (k := k + 1)).in1
  refine wpAny_mono (run_fnA (X := X.nox) (us := [.ref a]) (vs := [.ref a]) (dvs := []) rfl FI rI bI .nil pass0 (I2.wish _) (.cons rfl .nil) q1) (fun v s3 q => ?_) (fun _ _ z => z.elim)
  obtain ⟨v', H', I3, rv', it, rfl, hit, rfl⟩ := q
  obtain rfl : v = Value.ref it := rv'
  replace I3 := I3.unwish
  have hil : it ≠ l := fun z => by rw [z, upd_same] at hit; cases hit
  have hitH : H it = none := by rw [upd_ne hil] at hit; exact hit
  have gi := itT_get I3 upd_same
  show wpAny _ _ (specialOf (.ref it) "__next__") _ _ _
  refine wpAny_specialOf gi.typeIs PySem.F.slot_tuple_iterator_next.lookup ?_
  have ha3 : upd (upd H l (.lst [])) it (ItT t it 0) a = some (.ins C dx fs) := by rw [upd_ne (ne_of_none ha2 hit)]; exact ha2
  obtain ⟨od3, J3⟩ := I3.instAt ha3
  obtain ⟨m3, hF3⟩ := I3.fr
  have rL : Room k2 X.A.in1.in1.in1 := ((hr2.in1 (k := k2 + 2)).in1 (k := k2 + 1)).in1
  refine wpAny_bind (wpAny_holding (gb_hint hmL.at_ I3.kIn J3 (PySem.W.len_K hF3 I3.ok.mod.kin J3 hmL.at_ hmL.fn ?_)))
  refine wpAny_mono (run_fnA (X := X.nox) (us := [.ref a]) (vs := [.ref a]) (dvs := []) rfl FL rL bL .nil pass0 (I3.wish _) (.cons rfl .nil) (q2 it hitH hil)) (fun v s4 q => ?_) (fun _ _ z => z.elim)
  obtain ⟨v', H', I4, rv4, rfl, rfl⟩ := q
  obtain ⟨tk, rfl⟩ := (show ∃ t, v = Value.int zs.length t from rv4)
  replace I4 := I4.unwish.tok (s4.toks + 1)
  refine ⟨⟨by omega, by omega⟩, _, _, rfl, ?_, ?_⟩
  · show decide ((zs.length : Int).toNat > sizeLine) = false
    rw [sizeLine_eq]
    exact decide_eq_false (by omega)
  generalize ({ s4 with toks := s4.toks + 1 } : Shared) = s5 at I4 ⊢
  have hzl : zs.length < sizeLine := by rw [sizeLine_eq]; omega
  have loop : ∀ s, Inv X pins σ (upd (upd H l (.lst [])) it (ItT t it 0)) s → codeAny (model X.prog X.w) X.A.in1 (.builtin "list.extend.loop" ⟨[.ref l, .ref it, .none], []⟩) (wants (fun r s₂ => r = .none ∧ EP X pins σ Q (.ref l) s₂) X.xe) s := fun s' I' =>
    gb_loop (A1 := X.A.in1) (zs := zs) (show X.A.in1.handled = none from hr.hd) hil hT hzl fr hitH (fun s6 I6 => ⟨rfl, .ref l, _, I6, rfl, q3 it hitH hil⟩) zs.length 0 s' rfl (Nat.zero_le _) I'
  refine wpAny_ite_split (fun _ => ?_) (fun _ => wpAny_pure ⟨plainId_quiet PySem.F.plain_extend_loop _, loop s5 I4⟩)
  have hql : upd (upd H l (.lst [])) it (ItT t it 0) l = some (.lst []) := by rw [upd_ne hil.symm, upd_same]
  obtain ⟨z, its, k4, r3, hl3, e3⟩ := I4.lstM hql
  cases r3
  refine wpAny_bind (wpAny_rule ?_)
  refine wpAny_bind ?_
  show wpAny _ _ (updateSeq l (·.push .none) >>= fun _ => updateSeq l (·.pop)) _ _ _
  refine wpAny_bind (wpAny_updateSeq e3 rfl ?_)
  have I5 := I4.lset (f := (·.push Value.none)) (its' := [Value.none]) (ys := [.non]) (t' := s5.toks) hql e3 (by simp) (.cons rfl .nil) (by rw [List.length_singleton, sizeLine_eq]; decide)
  obtain ⟨z4, its4, k5, r4, hl4, e4⟩ := I5.lstM upd_same
  obtain ⟨u4, rfl, ru4⟩ := r4.one
  refine wpAny_updateSeq e4 rfl ?_ (by show 1 ≤ sizeLine; rw [sizeLine_eq]; decide) (by show 0 ≤ sizeLine + 1; exact Nat.zero_le _)
  refine wpAny_pure ⟨plainId_quiet PySem.F.plain_extend_loop _, loop _ ?_⟩
  have I6 := I5.lset (f := (·.pop)) (its := [u4]) (its' := []) (ys := []) (t' := s5.toks) upd_same e4 (by rfl) .nil (Nat.zero_le _)
  rw [upd_upd] at I6
  have hH : upd (upd (upd H l (.lst [])) it (ItT t it 0)) l (.lst []) = upd (upd H l (.lst [])) it (ItT t it 0) := by rw [upd_swap hil, upd_upd]
  rw [hH] at I6
  exact I6
end
end L2
namespace L2
open PySem PySem.Spec PyProof.Rows StX
/-- zip of two tuples -/
theorem walk_zipT {K : PySem.W.Frag} {a b : Addr} {xs ys : List V} {n : Nat} (hn : n = min xs.length ys.length) : Walk (RZ.ItzT K a b) n (fun H => SqT K H a xs ∧ SqT K H b ys) (YPair (fun i => xs[i]?) (fun i => ys[i]?)) := by
  subst hn
  refine ⟨fun i _ hi q => ?_, fun _ q => ⟨xs, ys, q.1, q.2, by omega⟩, fun i H v H' _ q y => ?_⟩
  · have h1 : i < xs.length := by omega
    have h2 : i < ys.length := by omega
    exact ⟨xs, ys, xs[i], ys[i], q.1, q.2, by simp [h1], by simp [h2]⟩
  · obtain ⟨T, x, z, h1, h2, h3, h4, h5⟩ := y
    exact ⟨T, x, z, h1, h2, h3, h4 xs q.1, h5 ys q.2⟩
theorem pi_zipK {X : Cx} (K : PySem.W.Frag) {e e2 : Expr} {ta : TA} {p pos tpos : Pos} {elts : List Expr} {kk : Nat} (hg : Gl X "zip") (hm : X.mg "zip" = none) (ha : PA X [e, e2] ta) (hK : X.K = K := by rfl)
    (hs : starEach [e, e2] X.env = (false, eval e X.env) :: starEach [e2] X.env := by rfl) (hpl : (backTo pos (starEach [e2] X.env)).any (·.1) = false := by rfl) :
    PI X (.Tuple elts kk tpos) (.Call (.Name "zip" p) [e, e2] [] pos) (RZ.iZipA K ta) := hK ▸ RZ.pi_zipA hg hm ha hs hpl
section
variable {P : Program} {w : World} {K : PySem.W.Frag} {mg : Str → Option Value} {base : Heap}
/-- what a def with *args says of its arguments -/
def spStar (m : Nat) (sp : Sp) : Sp := fun vs H Q E => ∃ ws rest, vs = ws ++ rest ∧ ws.length = m ∧ rest.length ≤ sizeLine ∧ ∀ p, H p = Option.none → sp (ws ++ [V.ref p]) (upd H p (.tup rest)) Q E
theorem Fun.okStar {x qual : Str} {st : Stmt} {f : Addr} {fd : FuncData} {N : List Str} {p1 pv : Str} {k : Nat} {sp : Sp} (F : Fun K x qual st f fd) (S : FnScope N ([p1] ++ [pv]) (defScope st))
    (hb : ∀ (kV doc pm : Value) (an : Option Addr) (cdv ct : Value) (us rest : List Value), us.length = [p1].length → bindArgs (PySem.W.fnOf x qual (defArgs st) (defBody st) (defScope st) .none kV doc pm an cdv ct) ⟨us ++ rest, []⟩ = (newTuple rest >>= fun t => pure ([p1].zip us ++ [(pv, t)])))
    (hbody : ∀ (cdv : Value) (A : Around) (outer : List Env) (s : Shared) (H : Hp) (vs : List V) (Q : VK) (E : XK), Room k (A.deeper (envOfC qual (defScope st) s.heap.objs.size f cdv)) → sp vs H Q E →
      ∃ t, PSs (cxOf (L2.CX P w) P w K mg base N qual (defScope st) f cdv A outer s H E) (defBody st) t ∧ t { nx := fun _ H' => Q .non H', rt := Q } (start N vs) H) : FnR P w K mg base (L2.CX P w) (k + 1) f (spStar 1 sp) := by
  obtain ⟨oc, od, kV, doc, pm, an, cdv, ct, osl, rfl, lk, hcd⟩ := F.ex
  exact fn_star (ps := [p1]) (pv := pv) lk hcd S cxUp (hb kV doc pm an cdv ct) fun A outer s H vs Q E hr hsp => hbody cdv A outer s H vs Q E hr hsp
end
section
variable {X : Cx} {CX : CXT} {k : Nat} {f C : Addr} {fd : FuncData} {ps : List Str} {sp : Sp} {E : XK} {x : Str} {e : Expr} {es : List Expr} {te : TE} {t : TA} {p sp_ pos : Pos}
/-- C(*y) -/
def tMakeStar (K : PySem.W.Frag) (C : Addr) (sp : Sp) (E : XK) (te : TE) : TE := fun σ H Q => te σ H fun y H1 => ∃ a xs, y = V.ref a ∧ (SqT K H1 a xs ∨ SqL K H1 a xs) ∧ ∀ x dx, H1 x = Option.none → H1 dx = Option.none → dx ≠ x →
  sp (V.ref x :: xs) (upd (upd H1 dx (.own x)) x (.ins C dx [])) (fun v H2 => v = .non ∧ Q (.ref x) H2) E
theorem pe_makeStar (M : Mk X.K C f) (F : FnR X.prog X.w X.K X.mg X.base CX k f sp) (hr : Room (k + 1) X.A) (hg : Gl X x) (hm : X.mg x = some (.ref C)) (hx : Passes CX X E) (he : PE X e te) (hd : (x == ("__debug__" : Str)) = false := by decide)
    (hst : starEach [.Starred e sp_] X.env = [(true, eval e X.env)] := by rfl) : PE X (.Call (.Name x p) [.Starred e sp_] [] pos) (tMakeStar X.K C sp E te) := by
  refine ⟨fun pins s σ H Q I h => ?_⟩
  refine wpAny_Call_Name_kw (ld_glob I hg hm ?_ hd)
  refine PySem.W.callWith_S (h₀ := X.base) I.ok.mod.kin M.kp (thn (he.run pins s σ H _ I h) fun v s1 ⟨y, H1, I1, ry, a, xs, ey, hxs, q⟩ => ?_) hst
  subst ey
  obtain rfl : v = Value.ref a := ry
  exact star_any I1 hxs fun us s2 I2 rv => ⟨I2.kIn, run_makeR M F hr hx I2 rv q⟩
/-- the same in a try's body -/
def tMakeRT (C : Addr) (sp : Sp) (E : St → XK) (t : TA) : TE := fun σ H Q => t σ H fun vs H1 => ∀ x dx, H1 x = Option.none → H1 dx = Option.none → dx ≠ x →
  sp (V.ref x :: vs) (upd (upd H1 dx (.own x)) x (.ins C dx [])) (fun v H2 => v = .non ∧ Q (.ref x) H2) (E σ)
theorem run_makeRT {E : St → XK} {pins : List (Addr × Obj)} {σ : L2.St} {H : Hp} {s : Shared} {Q : VK} {us : List Value} {vs : List V} (M : Mk X.K C f) (F : FnR X.prog X.w X.K X.mg X.base CX k f sp) (hr : Room (k + 1) X.A) (hx : PassesAt CX X σ (E σ)) (I : Inv X pins σ H s) (r : Vals vs us)
    (h : ∀ x dx, H x = Option.none → H dx = Option.none → dx ≠ x → sp (V.ref x :: vs) (upd (upd H dx (.own x)) x (.ins C dx [])) (fun v H2 => v = .non ∧ Q (.ref x) H2) (E σ)) :
    wpAny (model X.prog X.w) X.A (call (.ref C) us) (EP X pins σ Q) X.xe s := by
  have hq := h (s.heap.objs.size + 1) s.heap.objs.size (I.hok.fresh (Nat.le_succ _)) (I.hok.fresh (Nat.le_refl _)) (Nat.ne_of_lt (Nat.lt_succ_self _))
  have I2 := Inv.made (C := C) I
  have r2 : Vals (V.ref (s.heap.objs.size + 1) :: vs) (Value.ref (s.heap.objs.size + 1) :: us) := .cons rfl r
  refine wpAny_call (make_map (f := f) I.kIn M.makes M.init (beq_iff_eq.mp M.fn) (codeAny_mono (F _ X.stack _ _ (Value.ref (s.heap.objs.size + 1) :: us) _ _ (E σ) (hr.make C us []) (I2.env0.make C us []) r2 hq) fun r s' hq' => ?_))
  cases r with
  | error e => exact hx pins _ _ e s' I2 hq'
  | ok fl =>
    cases fl with
    | ret u =>
      obtain ⟨v, H', I3, rv, ev, q3⟩ := I2.after hq'
      subst ev
      exact ⟨rv, ⟨V.ref (s.heap.objs.size + 1), H', I3, rfl, q3⟩⟩
    | next => exact False.elim hq'
    | brk => exact False.elim hq'
    | cont => exact False.elim hq'
theorem pe_makeRT {E : St → XK} (M : Mk X.K C f) (F : FnR X.prog X.w X.K X.mg X.base CX k f sp) (hr : Room (k + 1) X.A) (hg : Gl X x) (hm : X.mg x = some (.ref C)) (hx : ∀ σ, PassesAt CX X σ (E σ)) (ha : PA X (e :: es) t) (hdb : (x == ("__debug__" : Str)) = false := by decide)
    (he : starEach (e :: es) X.env = (false, eval e X.env) :: starEach es X.env := by rfl) (hpl : (backTo pos (starEach es X.env)).any (·.1) = false := by rfl) : PE X (.Call (.Name x p) (e :: es) [] pos) (tMakeRT C sp E t) := by
  refine ⟨fun pins s σ H Q I h => ?_⟩
  refine wpAny_Call_Name_kw (ld_glob I hg hm ?_ hdb)
  refine PySem.W.callWith_K (h₀ := X.base) I.ok.mod.kin M.kp (thn (ha.run pos pins s σ H _ I h) fun us s1 ⟨vs, H1, I1, r, q⟩ => ⟨I1.kIn, ?_⟩) he hpl
  exact run_makeRT M F hr (hx σ) I1 r q
theorem pe_makeRT0 {E : St → XK} (M : Mk X.K C f) (F : FnR X.prog X.w X.K X.mg X.base CX k f sp) (hr : Room (k + 1) X.A) (hg : Gl X x) (hm : X.mg x = some (.ref C)) (hx : ∀ σ, PassesAt CX X σ (E σ)) (hdb : (x == ("__debug__" : Str)) = false := by decide) :
    PE X (.Call (.Name x p) [] [] pos) (tMakeRT C sp E tNil) := by
  refine ⟨fun pins s σ H Q I h => ?_⟩
  refine wpAny_Call_Name_kw (ld_glob I hg hm ?_ hdb)
  exact PySem.W.callWith_K0 I.kIn M.kp (run_makeRT M F hr (hx σ) I .nil h)
/-- y in x in a try's body, x of an own class -/
def tInT (C : Addr) (sp : Sp) (E : St → XK) (ta tb : TE) : TE := fun σ H Q => ta σ H fun y H1 => tb σ H1 fun x H2 => ∃ a dx fs, x = .ref a ∧ H2 a = some (.ins C dx fs) ∧ sp [x, y] H2 (fun v H' => ∃ b, v = .bl b ∧ Q (.bl b) H') (E σ)
theorem pe_inT {E : St → XK} {l r : Expr} {ta tb : TE} (hm : Meth X.K C "__contains__" f) (F : FnOk X.prog X.w X.K X.mg X.base CX k f fd ps sp) (hr : Room k X.A) (hb : Binds X.K fd ps []) (hx : ∀ σ, PassesAt CX X σ (E σ)) (ha : PE X l ta) (hb' : PE X r tb) (hmk : behindInMarks .In r = false) :
    PE X (.Compare l [.In] [r] pos) (tInT C sp E ta tb) := by
  refine ⟨fun pins s σ H Q I h => ?_⟩
  refine wpAny_Compare1 (binT ha hb' I h fun v u s2 y x H2 I2 ry rx q => ?_) hmk
  obtain ⟨a, dx, fs, rfl, ea, q⟩ := q
  obtain rfl : u = Value.ref a := rx
  obtain ⟨od, J⟩ := I2.instAt ea
  obtain ⟨m, fr⟩ := I2.fr
  refine PySem.W.in_K fr I2.ok.mod.kin J hm.at_ hm.fn (thn (run_fnS2 F hr hb (hx σ) I2 (.cons (show RelV (.ref a) (Value.ref a) from rfl) (.cons ry .nil)) q) fun w s' q => ?_)
  obtain ⟨v', H', I', rv, b, rfl, q⟩ := q
  obtain rfl : w = Value.bool b := rv
  exact wpAny_truthy_bool ⟨.bl b, H', I', rfl, q⟩
end
section
variable {X : Cx} {CX : CXT} {k : Nat} {f C : Addr} {fd : FuncData} {ps : List Str} {sp : Sp} {E : XK}
/-- x[y] by an own __getitem__ -/
def rIxOwn (C : Addr) (sp : Sp) (E : XK) : R2 := fun x y H Q => ∃ a dx fs i, x = .ref a ∧ H a = some (.ins C dx fs) ∧ y = .int i ∧ sp [x, y] H Q E
theorem pe_ixOwn {a b : Expr} {ta tb : TE} {pos : Pos} (hm : Meth X.K C "__getitem__" f) (hfn : PySem.W.fnIn X.K f = true) (F : FnOk X.prog X.w X.K X.mg X.base CX k f fd ps sp) (hr : Room (k + 1) X.A) (hb : Binds X.K fd ps []) (hx : Passes CX X E) (ha : PE X a ta) (hb2 : PE X b tb)
    (hs : ∀ (x : Addr) (i : Value), subscripted b true (.ref x) i = runValue (.builtin "lifetime.subscript" ⟨[.ref x, i], []⟩) := by intro _ _; rfl) : PE X (.Subscript a b pos) (tOp (rIxOwn C sp E) ta tb) := by
  refine ⟨fun pins s σ H Q I h => ?_⟩
  refine Subscript_ (binT ha hb2 I h fun v u s2 x y H2 I2 rx ry q => ?_)
  obtain ⟨a', dx, fs, i, rfl, ea, rfl, q⟩ := q
  obtain rfl : v = Value.ref a' := rx
  obtain ⟨t, rfl⟩ := (show ∃ t, u = Value.int i t from ry)
  obtain ⟨od, J⟩ := I2.instAt ea
  obtain ⟨m, fr⟩ := I2.fr
  exact PySem.W.sub_K fr I2.ok.mod.kin J hm.at_ hfn hm.fn (run_fnA (A := X.A.in1) (us := [.ref a', .int i t]) (vs := [.ref a', .int i]) (dvs := []) rfl F hr.in1 hb .nil hx I2 (.cons rfl (.cons ⟨t, rfl⟩ .nil)) q) (hs _ _)
end
end L2
namespace L2
open PySem PySem.Spec PyProof.Rows StX
theorem call_listItK {X : Cx} (K : PySem.W.Frag) {k k2 : Nat} {fi fl C : Addr} {fd fd2 : FuncData} {ps ps2 : List Str} {spI spL : Sp} (hmI : Meth X.K C "__iter__" fi) (hmL : Meth X.K C "__len__" fl) (FI : FnOk X.prog X.w X.K X.mg X.base CX0 k fi fd ps spI) (FL : FnOk X.prog X.w X.K X.mg X.base CX0 k2 fl fd2 ps2 spL)
    (bI : Binds X.K fd ps []) (bL : Binds X.K fd2 ps2 []) (hr : Room (k + 2) X.A) (hr2 : Room (k2 + 3) X.A) (hK : X.K = K := by rfl) : CallR X (.type "list") (rListIt K C spI spL) := hK ▸ call_listIt hmI hmL FI FL bI bL hr hr2
theorem call_iterTK {X : Cx} (K : PySem.W.Frag) (hK : X.K = K := by rfl) : CallR X (.builtin "iter") (rIterT K) := hK ▸ call_iterT
def spNever : Sp := fun _ _ _ _ => False
theorem dpInts {K : PySem.W.Frag} {H : Hp} : ∀ xs : List Int, DpAll K H (xs.map V.int) (xs.map PyData.int)
  | [] => .nil
  | x :: xs => .cons (.int x) (dpInts xs)
theorem eqvInts : ∀ xs ys : List Int, PyData.eqvAll (xs.map PyData.int) (ys.map PyData.int) = decide (xs = ys)
  | [], [] => by simp [PyData.eqvAll]
  | [], _ :: _ => by simp [PyData.eqvAll]
  | _ :: _, [] => by simp [PyData.eqvAll]
  | x :: xs, y :: ys => by
    simp only [List.map_cons, PyData.eqvAll, eqvInts xs ys, PyData.eqv]
    simp [List.cons.injEq, Bool.decide_and]
    rfl
theorem eqvT (xs ys : List Int) : PyData.eqv (.tuple (xs.map PyData.int)) (.tuple (ys.map PyData.int)) = decide (xs = ys) := by simp only [PyData.eqv]; exact eqvInts xs ys
theorem eqvL (xs ys : List Int) : PyData.eqv (.list (xs.map PyData.int)) (.list (ys.map PyData.int)) = decide (xs = ys) := by simp only [PyData.eqv]; exact eqvInts xs ys
theorem layInts : ∀ xs : List Int, PyData.canLayAll0 (xs.map PyData.int) = true
  | [] => rfl
  | x :: xs => by
    show (PyData.canLay0 (PyData.int x) && PyData.canLayAll0 (xs.map PyData.int)) = true
    rw [layInts xs]; rfl
theorem depInts : ∀ xs : List Int, PyData.depthAll (xs.map PyData.int) = 0
  | [] => rfl
  | x :: xs => by
    simp only [List.map_cons, PyData.depthAll, depInts xs, PyData.depth]
    rfl
theorem shT (xs : List Int) : SeqAt.shaped (.tuple (xs.map PyData.int)) = true := by
  unfold SeqAt.shaped
  simp only [PyData.canLay0, PyData.depth, layInts, depInts]
  rfl
theorem shL (xs : List Int) : SeqAt.shaped (.list (xs.map PyData.int)) = true := by
  unfold SeqAt.shaped
  simp only [PyData.canLay0, PyData.depth, layInts, depInts]
  rfl
theorem same_put {H H' : Hp} {D : Addr} {o : HO} (s : Same H H') (h : H D = none) : Same H (upd H' D o) := fun b u e => by
  rw [upd_ne (fun z => by rw [z, h] at e; cases e)]
  exact s b u e
end L2
namespace L2
open PySem PySem.Spec PyProof.Rows StX
def rTupOf (K : PySem.W.Frag) : List V → Hp → VK → Prop := fun xs H Q => ∃ p ys, xs = [.ref p] ∧ ((SqL K H p ys ∧ ∀ l, H l = none → Q (.ref l) (upd H l (.tup ys))) ∨ (SqT K H p ys ∧ Q (.ref p) H))
theorem call_tuple_ofK {X : Cx} (K : PySem.W.Frag) (hK : X.K = K := by rfl) : CallR X (.type "tuple") (rTupOf K) := hK ▸ call_tuple_of
theorem sl_listK {X : Cx} (K : PySem.W.Frag) (hK : X.K = K := by rfl) : SlR X (rSlL K) := hK ▸ sl_list
end L2
/-! plain mathematics: lowest terms, Euclid's steps -/
namespace L2
/-- (t, b) is T / B in lowest terms -/
structure Rep (t b T B : Int) : Prop where
  pos : 1 ≤ b
  cross : t * B = T * b
  cop : Nat.gcd t.natAbs b.natAbs = 1
  st : t.natAbs ≤ T.natAbs
  sb : b.natAbs ≤ B.natAbs
theorem rep_of {T B : Int} (hB : B ≠ 0) {g : Nat} (hg : g = Nat.gcd T.natAbs B.natAbs) {f : Int} (hf : f = if B < 0 then -(g : Int) else (g : Int)) : f ≠ 0 ∧ f.natAbs ≤ B.natAbs ∧ Rep (T.fdiv f) (B.fdiv f) T B := by
  have hb0 : 0 < B.natAbs := Int.natAbs_pos.mpr hB
  have g0 : 0 < g := by rw [hg]; exact Nat.gcd_pos_of_pos_right _ hb0
  have gle : g ≤ B.natAbs := by rw [hg]; exact Nat.gcd_le_right _ hb0
  have d1 : (g : Int) ∣ T := by
    rw [hg]; exact Int.ofNat_dvd_left.mpr (Nat.gcd_dvd_left _ _)
  have d2 : (g : Int) ∣ B := by
    rw [hg]; exact Int.ofNat_dvd_left.mpr (Nat.gcd_dvd_right _ _)
  obtain ⟨t1, e1⟩ := d1
  obtain ⟨b1, e2⟩ := d2
  have gi : (g : Int) ≠ 0 := by omega
  have cop : Nat.gcd t1.natAbs b1.natAbs = 1 := by
    have h : g = g * Nat.gcd t1.natAbs b1.natAbs := by
      have : Nat.gcd T.natAbs B.natAbs = g * Nat.gcd t1.natAbs b1.natAbs := by
        rw [e1, e2, Int.natAbs_mul, Int.natAbs_mul, Int.natAbs_natCast, Nat.gcd_mul_left]
      rw [← hg] at this; exact this
    have h' : g * 1 = g * Nat.gcd t1.natAbs b1.natAbs := by rw [Nat.mul_one]; exact h
    exact (Nat.eq_of_mul_eq_mul_left g0 h').symm
  have st : t1.natAbs ≤ T.natAbs := by rw [e1, Int.natAbs_mul, Int.natAbs_natCast]; exact Nat.le_mul_of_pos_left _ g0
  have sb : b1.natAbs ≤ B.natAbs := by rw [e2, Int.natAbs_mul, Int.natAbs_natCast]; exact Nat.le_mul_of_pos_left _ g0
  by_cases hn : B < 0
  · rw [if_pos hn] at hf
    have ft : T.fdiv f = -t1 := by
      rw [hf, e1, show (g : Int) * t1 = -(g : Int) * (-t1) by rw [Int.neg_mul_neg]]
      exact Int.mul_fdiv_cancel_left _ (by omega)
    have fb : B.fdiv f = -b1 := by
      rw [hf, e2, show (g : Int) * b1 = -(g : Int) * (-b1) by rw [Int.neg_mul_neg]]
      exact Int.mul_fdiv_cancel_left _ (by omega)
    have hb1 : b1 < 0 := by
      have q : (g : Int) * b1 < (g : Int) * 0 := by rw [Int.mul_zero, ← e2]; exact hn
      exact Int.lt_of_mul_lt_mul_left q (by omega)
    refine ⟨by omega, by rw [hf, Int.natAbs_neg, Int.natAbs_natCast]; exact gle, ?_⟩
    rw [ft, fb]
    refine ⟨by omega, ?_, by rw [Int.natAbs_neg, Int.natAbs_neg]; exact cop, by rw [Int.natAbs_neg]; exact st, by rw [Int.natAbs_neg]; exact sb⟩
    rw [e1, e2, Int.neg_mul, Int.mul_neg, Int.mul_assoc, Int.mul_left_comm]
  · rw [if_neg hn] at hf
    have ft : T.fdiv f = t1 := by rw [hf, e1]; exact Int.mul_fdiv_cancel_left _ gi
    have fb : B.fdiv f = b1 := by rw [hf, e2]; exact Int.mul_fdiv_cancel_left _ gi
    have hb1 : 0 < b1 := by
      have q : (g : Int) * 0 < (g : Int) * b1 := by rw [Int.mul_zero, ← e2]; omega
      exact Int.lt_of_mul_lt_mul_left q (by omega)
    refine ⟨by omega, by rw [hf, Int.natAbs_natCast]; exact gle, ?_⟩
    rw [ft, fb]
    refine ⟨by omega, ?_, cop, st, sb⟩
    rw [e1, e2, Int.mul_assoc, Int.mul_left_comm]
/-- lowest terms are the only ones -/
theorem rep_uniq {t b t' b' : Int} (h : 1 ≤ b) (h' : 1 ≤ b') (c : Nat.gcd t.natAbs b.natAbs = 1) (c' : Nat.gcd t'.natAbs b'.natAbs = 1) (e : t * b' = t' * b) : t = t' ∧ b = b' := by
  have e1 : t.natAbs * b'.natAbs = t'.natAbs * b.natAbs := by rw [← Int.natAbs_mul, ← Int.natAbs_mul, e]
  have d1 : b.natAbs ∣ b'.natAbs := by
    refine Nat.Coprime.dvd_of_dvd_mul_left (k := b.natAbs) (m := t.natAbs) ?_ ?_
    · show Nat.gcd b.natAbs t.natAbs = 1
      rw [Nat.gcd_comm]; exact c
    · rw [e1]; exact Nat.dvd_mul_left _ _
  have d2 : b'.natAbs ∣ b.natAbs := by
    refine Nat.Coprime.dvd_of_dvd_mul_left (k := b'.natAbs) (m := t'.natAbs) ?_ ?_
    · show Nat.gcd b'.natAbs t'.natAbs = 1
      rw [Nat.gcd_comm]; exact c'
    · rw [← e1]; exact Nat.dvd_mul_left _ _
  have eb := Nat.dvd_antisymm d1 d2
  have eb' : b = b' := by omega
  subst eb'
  exact ⟨Int.eq_of_mul_eq_mul_right (by omega) e, rfl⟩
/-! ### Euclid -/
def Euc (a b i : Nat) : Prop := (i = 0 ∧ b < 2 ^ 200) ∨ (1 ≤ i ∧ b < a ∧ a * b * 2 ^ (i - 1) ≤ 2 ^ 400)
theorem Euc.turn {a b i : Nat} (h : Euc a b i) (hb : b ≠ 0) : Euc b (a % b) (i + 1) ∧ i ≤ 401 := by
  have hm : a % b < b := Nat.mod_lt _ (Nat.pos_of_ne_zero hb)
  rcases h with ⟨rfl, h⟩ | ⟨h1, h2, h3⟩
  · refine ⟨.inr ⟨Nat.le_refl _, hm, ?_⟩, Nat.zero_le _⟩
    show b * (a % b) * 2 ^ 0 ≤ 2 ^ 400
    have : b * (a % b) ≤ 2 ^ 200 * 2 ^ 200 := Nat.mul_le_mul (Nat.le_of_lt h) (Nat.le_of_lt (Nat.lt_trans hm h))
    rw [Nat.pow_zero, Nat.mul_one]
    rw [← Nat.pow_add] at this
    exact this
  · refine ⟨.inr ⟨by omega, hm, ?_⟩, ?_⟩
    · obtain ⟨j, rfl⟩ : ∃ j, i = j + 1 := ⟨i - 1, by omega⟩
      show b * (a % b) * 2 ^ (j + 1) ≤ 2 ^ 400
      have h2' : 2 * (a % b) ≤ a := by
        have e := Nat.div_add_mod a b
        have q : 1 ≤ a / b := Nat.div_pos (Nat.le_of_lt h2) (Nat.pos_of_ne_zero hb)
        have : b * 1 ≤ b * (a / b) := Nat.mul_le_mul_left _ q
        omega
      have e : b * (a % b) * 2 ^ (j + 1) = (b * (2 * (a % b))) * 2 ^ j := by
        rw [Nat.pow_succ, Nat.mul_comm (2 ^ j) 2, ← Nat.mul_assoc, Nat.mul_assoc b, Nat.mul_comm (a % b) 2]
      rw [e]
      refine Nat.le_trans (Nat.mul_le_mul_right _ (Nat.mul_le_mul_left b h2')) ?_
      rw [Nat.mul_comm b a]
      exact h3
    · have : 1 * 1 * 2 ^ (i - 1) ≤ a * b * 2 ^ (i - 1) := Nat.mul_le_mul_right _ (Nat.mul_le_mul (by omega) (by omega))
      simp only [Nat.one_mul] at this
      have q : i - 1 ≤ 400 := (Nat.pow_le_pow_iff_right (by decide)).mp (Nat.le_trans this h3)
      omega
theorem pow_le {m n : Nat} (h : m ≤ n) : (1000 : Int) ^ m ≤ 1000 ^ n := by
  induction h with
  | refl => exact Int.le_refl _
  | step h ih =>
    rename_i k
    have p : ∀ j : Nat, (0 : Int) ≤ 1000 ^ j := fun j => by
      induction j with
      | zero => decide
      | succ j ih => rw [Int.pow_succ]; omega
    rw [Nat.succ_eq_add_one, Int.pow_succ]
    have := p k
    omega
end L2
namespace L2
open PySem PySem.Spec PyProof.Rows StX
theorem upd_fr {H : Hp} {p q : Addr} {o u : HO} (e : H q = some u) (hp : H p = none) : upd H p o q = some u := by rw [upd_ne (ne_of_none e hp)]; exact e
theorem upd_df {H : Hp} {p q : Addr} {o u : HO} (e : H q = some u) (n : q ≠ p) : upd H p o q = some u := by rw [upd_ne n]; exact e
theorem none_ne {H : Hp} {a b : Addr} {o : HO} (h' : H b = none) (h : H a = some o) : a ≠ b := ne_of_none h h'
theorem same_nw {H H' : Hp} {p : Addr} {o : HO} (s : Same H H') (h : H' p = none) : Same H (upd H' p o) := s.trans (same_new h)
theorem but_nw {q : Addr} {H H' : Hp} {p : Addr} {o : HO} (s : SameBut q H H') (h : H' p = none) : SameBut q H (upd H' p o) := s.trans (same_new h).but
theorem but_own {p : Addr} {H H' : Hp} {o : HO} (s : SameBut p H H') : SameBut p H (upd H' p o) := s.trans sameBut_upd
theorem put_but {p D : Addr} {H0 H' : Hp} {o : HO} (s : SameBut p H0 H') (hD : H0 D = none) : SameBut p H0 (upd H' D o) := fun b u n e => by
  rw [upd_ne (fun z => by rw [z, hD] at e; cases e)]
  exact s b u n e
theorem iteB {c : Bool} {A B : Prop} (h1 : c = true → A) (h2 : c = false → B) : if c = true then A else B := by
  cases c with
  | true => rw [if_pos rfl]; exact h1 rfl
  | false => rw [if_neg (by decide)]; exact h2 rfl
theorem eq_int {a b : Int} (h : V.int a = V.int b) : a = b := by injection h
theorem ne_int {a b : Int} (h : ¬ V.int a = V.int b) : ¬ a = b := fun e => h (by rw [e])
theorem iteI {a b : Int} {A B : Prop} (h1 : a = b → A) (h2 : ¬ a = b → B) : if decide (V.int a = V.int b) = true then A else B := iteD (fun e => h1 (eq_int e)) fun e => h2 (ne_int e)
theorem iteIN {a b : Int} {A B : Prop} (h1 : ¬ a = b → A) (h2 : a = b → B) : if (!decide (V.int a = V.int b)) = true then A else B := iteDN (fun e => h2 (eq_int e)) fun e => h1 (ne_int e)
theorem lc_put {H H' : Hp} {D : Addr} {vs : List V} {i : Nat} {v : V} (hD : H D = none) (s : Same H H') (e : H' D = some (.lst (vs.take i))) (hv : vs[i]? = some v) (hz : vs.length ≤ 1000) :
    ∃ acc, H' D = some (.lst acc) ∧ acc.length < sizeLine ∧ (Same H (upd H' D (.lst (acc ++ [v]))) ∧ upd H' D (.lst (acc ++ [v])) D = some (.lst (vs.take (i + 1)))) := by
  refine ⟨_, e, by rw [sizeLine_eq, List.length_take]; omega, same_put s hD, ?_⟩
  rw [upd_same, List.take_succ, hv]
  rfl
theorem take_all {vs : List V} {n : Nat} (h : vs.length ≤ n) : vs.take n = vs := List.take_of_length_le h
end L2
namespace L2
open PySem PySem.Spec PyProof.Rows StX
theorem lc_end {H' : Hp} {D : Addr} {vs : List V} {i : Nat} {v : V} (hv : vs[i]? = some v) : upd H' D (.lst (vs.take i ++ [v])) D = some (.lst (vs.take (i + 1))) := by
  rw [upd_same, List.take_succ, hv]
  rfl
theorem at_int {xs : List Int} {i : Nat} {z : Int} (h : xs[i]? = some z) : atI (xs.map V.int) ((0 : Int) + (i : Nat)) = some (.int z) := by
  rw [Int.zero_add]; exact atI_nat (by rw [List.getElem?_map, h]; rfl)
theorem get_mm {xs : List Int} {f : Int → Int} {i : Nat} {z w : Int} (h : xs[i]? = some z) (e : f z = w) : ((xs.map f).map V.int)[i]? = some (.int w) := by
  rw [List.getElem?_map, List.getElem?_map, h, ← e]; rfl
theorem get_zz {xs ys : List Int} {f : Int → Int → Int} {i : Nat} {z u w : Int} (h : xs[i]? = some z) (g : ys[i]? = some u) (e : f z u = w) : ((List.zipWith f xs ys).map V.int)[i]? = some (.int w) := by
  rw [List.getElem?_map, List.getElem?_zipWith, h, g, ← e]; rfl
end L2
namespace L2
open PySem PySem.Spec PyProof.Rows StX
theorem flat_str (ns : List Str) : (ns.map V.str).all flatV = true := by
  rw [List.all_eq_true]; intro v hv; obtain ⟨z, _, rfl⟩ := List.mem_map.mp hv; rfl
theorem flat_int (ns : List Int) : (ns.map V.int).all flatV = true := by
  rw [List.all_eq_true]; intro v hv; obtain ⟨z, _, rfl⟩ := List.mem_map.mp hv; rfl
theorem inV_strs (x : Str) : ∀ ns : List Str, inV (.str x) (ns.map V.str) = decide (x ∈ ns)
  | [] => rfl
  | n :: ns => by
    have ih := inV_strs x ns
    unfold inV at *
    rw [List.map_cons, List.any_cons, ih]
    by_cases h : x = n
    · subst h
      simp [eqV]
    · have : decide (x ∈ n :: ns) = decide (x ∈ ns) := by simp [h]
      rw [this]
      have e : eqV (.str n) (.str x) = false := by
        simp [eqV]
        intro hh; exact h hh.symm
      first
      | rw [e, Bool.false_or]
      | (have e2 : eqV (.str x) (.str n) = false := by
          simp [eqV]
          exact h
         rw [e2, Bool.false_or])
end L2
namespace L2
open PySem PySem.Spec PyProof.Rows StX
theorem inV_kv (x : Str) (ns : List Str) : inV (kV (Sum.inr x)) (ns.map V.str) = decide (x ∈ ns) := inV_strs x ns
theorem valV_kv (n : Str) : ∀ kvs : List (Str × Int), (valV (kvs.map fun p => ((Sum.inr p.1 : Key), V.int p.2)) (Sum.inr n)) = ((kvs.find? fun p => decide (p.1 = n)).map (·.2)).map V.int
  | [] => rfl
  | p :: kvs => by
    have ih := valV_kv n kvs
    unfold valV at *
    rw [List.map_cons, List.find?_cons, List.find?_cons]
    by_cases h : p.1 = n
    · have e1 : decide ((Sum.inr p.1 : Key) = Sum.inr n) = true := decide_eq_true (by rw [h])
      have e2 : decide (p.1 = n) = true := decide_eq_true h
      simp only [e1, e2]
      rfl
    · have e1 : decide ((Sum.inr p.1 : Key) = Sum.inr n) = false := decide_eq_false (fun e => h (by injection e))
      have e2 : decide (p.1 = n) = false := decide_eq_false h
      simp only [e1, e2]
      exact ih
end L2
namespace L2
open PySem PySem.Spec PyProof.Rows StX
theorem dpStrs {K : PySem.W.Frag} {H : Hp} : ∀ xs : List Str, DpAll K H (xs.map V.str) (xs.map PyData.str)
  | [] => .nil
  | x :: xs => .cons (.str x) (dpStrs xs)
theorem eqvStrs : ∀ xs ys : List Str, PyData.eqvAll (xs.map PyData.str) (ys.map PyData.str) = decide (xs = ys)
  | [], [] => by simp [PyData.eqvAll]
  | [], _ :: _ => by simp [PyData.eqvAll]
  | _ :: _, [] => by simp [PyData.eqvAll]
  | x :: xs, y :: ys => by
    simp only [List.map_cons, PyData.eqvAll, eqvStrs xs ys, PyData.eqv]
    by_cases h : x = y
    · subst h; simp
    · simp [h]
theorem eqvSL (xs ys : List Str) : PyData.eqv (.list (xs.map PyData.str)) (.list (ys.map PyData.str)) = decide (xs = ys) := by simp only [PyData.eqv]; exact eqvStrs xs ys
theorem eqvST (xs ys : List Str) : PyData.eqv (.tuple (xs.map PyData.str)) (.tuple (ys.map PyData.str)) = decide (xs = ys) := by simp only [PyData.eqv]; exact eqvStrs xs ys
theorem eqvSL0 (xs : List Str) : PyData.eqv (.list (xs.map PyData.str)) (.list []) = decide (xs = []) := eqvSL xs []
theorem layStrs : ∀ xs : List Str, (∀ s ∈ xs, PyData.strOk s = true) → PyData.canLayAll0 (xs.map PyData.str) = true
  | [], _ => rfl
  | x :: xs, h => by
    show (PyData.strOk x && PyData.canLayAll0 (xs.map PyData.str)) = true
    rw [layStrs xs (fun s hs => h s (List.mem_cons_of_mem _ hs)), h x List.mem_cons_self]; rfl
theorem depStrs : ∀ xs : List Str, PyData.depthAll (xs.map PyData.str) = 0
  | [] => rfl
  | x :: xs => by
    simp only [List.map_cons, PyData.depthAll, depStrs xs, PyData.depth]
    rfl
theorem shSL {xs : List Str} (h : ∀ s ∈ xs, PyData.strOk s = true) : SeqAt.shaped (.list (xs.map PyData.str)) = true := by
  unfold SeqAt.shaped
  simp only [PyData.canLay0, PyData.depth, layStrs xs h, depStrs]
  rfl
theorem shST {xs : List Str} (h : ∀ s ∈ xs, PyData.strOk s = true) : SeqAt.shaped (.tuple (xs.map PyData.str)) = true := by
  unfold SeqAt.shaped
  simp only [PyData.canLay0, PyData.depth, layStrs xs h, depStrs]
  rfl
theorem at_ex {α : Type} {xs : List α} {r : Int} (h0 : 0 ≤ r) (h1 : r < xs.length) : ∃ c, atI xs r = some c := by
  obtain ⟨n, rfl⟩ : ∃ n : Nat, r = (n : Int) := ⟨r.toNat, by omega⟩
  exact ⟨xs[n]'(by omega), atI_nat (List.getElem?_eq_getElem (by omega))⟩
end L2
namespace L2
open PySem PySem.Spec PyProof.Rows StX
theorem but_same {H H1 H2 : Hp} {d : Addr} (s : Same H H1) (hd : H d = none) (b : SameBut d H1 H2) : Same H H2 := fun q o e => b q o (fun z => by rw [z, hd] at e; cases e) (s q o e)
end L2
namespace L2
open PySem PySem.Spec PyProof.Rows StX
theorem but_free {p q : Addr} {H H' : Hp} (s : SameBut p H H') (n : q ≠ p) (h : H' q = none) : H q = none := by
  cases e : H q with
  | none => rfl
  | some o => rw [s q o n e] at h; cases h
end L2
namespace L2
open PySem PySem.Spec PyProof.Rows StX
theorem erase_perm {α : Type} : ∀ (l : List α) (i : Nat) (h : i < l.length), (l[i] :: l.eraseIdx i).Perm l
  | a :: l, 0, _ => .refl _
  | a :: l, i + 1, h => by
    have hi : i < l.length := by simpa using h
    have ih := erase_perm l i hi
    show (l[i]'hi :: a :: l.eraseIdx i).Perm (a :: l)
    exact (List.Perm.swap _ _ _).trans (ih.cons a)
theorem map_erase {α β : Type} (f : α → β) : ∀ (l : List α) (i : Nat), (l.map f).eraseIdx i = (l.eraseIdx i).map f
  | [], _ => by simp
  | a :: l, 0 => rfl
  | a :: l, i + 1 => by
    show f a :: (l.map f).eraseIdx i = f a :: (l.eraseIdx i).map f
    rw [map_erase f l i]
end L2
namespace L2
open PySem PySem.Spec PyProof.Rows StX
theorem at_ref {L : List Addr} {w : Nat} (h : w < L.length) : atI (L.map V.ref) ((0 : Int) + (w : Nat)) = some (.ref (L.getD w 0)) := by
  rw [Int.zero_add]
  refine atI_nat ?_
  rw [List.getElem?_map, List.getElem?_eq_getElem h, List.getD_eq_getElem?_getD, List.getElem?_eq_getElem h]
  rfl
theorem str_ok {s : Str} (h : s.cps.all (· < 0x110000) = true) : PyData.strOk s = true := h
end L2
namespace L2
open PySem PySem.Spec PyProof.Rows StX
theorem eqv00 : PyData.eqv (.list []) (.list []) = true := by simp [PyData.eqv, PyData.eqvAll]
end L2
namespace L2
open PySem PySem.Spec PyProof.Rows StX
/-- `if c: R`, where c comes out false: what follows is read once, from any heap that the test may leave -/
theorem skip_if (G : Hp → Prop) {c : TT} {R rest : TS} {D : Ends} {σ : L2.St} {H : Hp} (h : ∀ Q : Bool → Hp → Prop, (∀ H', G H' → Q false H') → c σ H Q) (k : ∀ H', G H' → rest D σ H') : tSeq (tIfS c R tNext) rest D σ H :=
  h _ fun H' g => iteF (k H' g)
theorem skip_last (G : Hp → Prop) {c : TT} {R : TS} {D : Ends} {σ : L2.St} {H : Hp} (h : ∀ Q : Bool → Hp → Prop, (∀ H', G H' → Q false H') → c σ H Q) (k : ∀ H', G H' → D.nx σ H') : tIfS c R tNext D σ H :=
  h _ fun H' g => iteF (k H' g)
end L2
/-! notes: their trees, their texts, and what a reader from the left finds -/
namespace GN
open PySem TL
inductive N where
  | non
  | wrd (w : List Nat)
  | num (i : Int)
  | tup (ns : List N)
/-- the signs of an integer -/
def numT (i : Int) : List Nat := tl (Str.ofString (toString i))
mutual
def N.txt : N → List Nat
  | .non => [45]
  | .wrd w => w
  | .num i => numT i
  | .tup ns => 40 :: (N.txts ns ++ [41])
def N.txts : List N → List Nat
  | [] => []
  | n :: ns => N.txt n ++ N.more ns
def N.more : List N → List Nat
  | [] => []
  | n :: ns => 32 :: (N.txt n ++ N.more ns)
end
mutual
def N.dep : N → Nat
  | .non => 0
  | .wrd _ => 0
  | .num _ => 0
  | .tup ns => 1 + N.deps ns
def N.deps : List N → Nat
  | [] => 0
  | n :: ns => max (N.dep n) (N.deps ns)
end
mutual
def N.sz : N → Nat
  | .non => 1
  | .wrd _ => 1
  | .num _ => 1
  | .tup ns => 1 + N.szs ns
def N.szs : List N → Nat
  | [] => 0
  | n :: ns => N.sz n + N.szs ns
end
def wcs : List Nat := tl (Str.ofString "abcdefghijklmnopqrstuvwxyz0123456789-:")
def lets : List Nat := tl (Str.ofString "abcdefghijklmnopqrstuvwxyz")
def digs : List Nat := tl (Str.ofString "0123456789")
def WOk (w : List Nat) : Prop := w.length ≤ 24 ∧ ∃ c r, w = c :: r ∧ c ∈ lets ∧ ∀ d ∈ r, d ∈ wcs
mutual
def N.ok : N → Prop
  | .non => True
  | .wrd w => WOk w
  | .num i => i.natAbs < 10 ^ 200
  | .tup ns => N.oks ns
def N.oks : List N → Prop
  | [] => True
  | n :: ns => N.ok n ∧ N.oks ns
end
theorem oks_mem : ∀ {ns : List N}, N.oks ns ↔ ∀ n ∈ ns, N.ok n
  | [] => by simp [N.oks]
  | n :: ns => by simp [N.oks, oks_mem (ns := ns)]
theorem deps_le {k : Nat} : ∀ {ns : List N}, N.deps ns ≤ k ↔ ∀ n ∈ ns, N.dep n ≤ k
  | [] => by simp [N.deps]
  | n :: ns => by simp [N.deps, Nat.max_le, deps_le (ns := ns)]
theorem lets_wcs {c : Nat} (h : c ∈ lets) : c ∈ wcs := by
  have : ∀ c ∈ lets, c ∈ wcs := by decide +kernel
  exact this c h
theorem WOk.all {w : List Nat} (h : WOk w) : ∀ d ∈ w, d ∈ wcs := by
  obtain ⟨_, c, r, rfl, hc, hr⟩ := h
  intro d hd
  rcases List.mem_cons.mp hd with e | hd
  · rw [e]; exact lets_wcs hc
  · exact hr d hd
/-! ### the integer's signs -/
theorem numT_nat (m : Nat) : numT (m : Int) = numL m := tl_num m
theorem numT_neg (m : Nat) (h : 0 < m) : numT (-(m : Int)) = 45 :: numL m := by
  obtain ⟨k, rfl⟩ : ∃ k, m = k + 1 := ⟨m - 1, by omega⟩
  have e : (-((k + 1 : Nat) : Int)) = Int.negSucc k := rfl
  unfold numT
  rw [e, tl_ofString]
  show ("-" ++ Nat.repr (k + 1)).toList.map Char.toNat = _
  rw [String.toList_append, Nat.toList_repr, List.map_append]
  rfl
theorem numL_zero : numL 0 = [48] := numL_lt (by decide)
/-- the first sign of a number is no nought -/
theorem numL_head : ∀ (m : Nat), 0 < m → ∃ c r, numL m = c :: r ∧ 49 ≤ c ∧ c ≤ 57 := by
  intro m
  induction m using Nat.strongRecOn with
  | _ m ih =>
    intro h0
    by_cases h : m < 10
    · exact ⟨48 + m, [], numL_lt h, by omega, by omega⟩
    · obtain ⟨c, r, e, h1, h2⟩ := ih (m / 10) (by omega) (by omega)
      exact ⟨c, r ++ [48 + m % 10], by rw [numL_step (by omega), e]; rfl, h1, h2⟩
theorem digs_of {c : Nat} (h : 48 ≤ c ∧ c ≤ 57) : c ∈ digs := by
  have : ∀ d : Fin 10, 48 + d.val ∈ digs := by decide +kernel
  have e := this ⟨c - 48, by omega⟩
  have : 48 + (c - 48) = c := by omega
  rw [← this]; exact e
theorem digs_range {c : Nat} (h : c ∈ digs) : 48 ≤ c ∧ c ≤ 57 := by
  have : ∀ c ∈ digs, 48 ≤ c ∧ c ≤ 57 := by decide +kernel
  exact this c h
theorem numL_digs (m : Nat) : ∀ c ∈ numL m, c ∈ digs := fun c h => digs_of (numL_digits m c h)
/-! ### a reader from the left -/
inductive R where
  | bad (i : Nat)
  | got (n : N) (i : Nat)
def isN (t : List Nat) (i : Nat) : Bool := match t[i]? with
  | some c => decide (49 ≤ c ∧ c ≤ 57)
  | none => false
def run (cs : List Nat) (most : Nat) (t : List Nat) (i : Nat) : Nat := i + (((t.drop i).take most).takeWhile fun c => decide (c ∈ cs)).length
def cut (t : List Nat) (i j : Nat) : List Nat := (t.drop i).take (j - i)
def val (w : List Nat) : Int := (intText? ⟨w.toArray⟩).getD 0
def rnumF (t : List Nat) (i : Nat) : Nat := if t[i]? = some 45 then i + 1 else i
def rnum (t : List Nat) (i : Nat) : R :=
  if t[i]? = some 48 then .got (.num 0) (i + 1)
  else if isN t (rnumF t i) = true then .got (.num (val (cut t i (run digs 200 t (rnumF t i))))) (run digs 200 t (rnumF t i)) else .bad (rnumF t i)
def rleaf (t : List Nat) (i : Nat) : R := match t[i]? with
  | none => .bad i
  | some c => if c ∈ lets then .got (.wrd (cut t i (run wcs 24 t i))) (run wcs 24 t i)
    else if c = 45 ∧ isN t (i + 1) = false then .got .non (i + 1) else rnum t i
def rloop (f : Nat → R) (t : List Nat) : Nat → Nat → List N → R
  | 0, i, _ => .bad i
  | m + 1, i, acc => match f (i + 1) with
    | .bad b => .bad b
    | .got n j => if t[j]? = some 32 then rloop f t m j (acc ++ [n]) else if t[j]? = some 41 then .got (.tup (acc ++ [n])) (j + 1) else .bad j
def rpart (t : List Nat) : Nat → Nat → R
  | 0, i => if t[i]? = some 40 then .bad i else rleaf t i
  | r + 1, i => if t[i]? = some 40 then (if t[i + 1]? = some 41 then .got (.tup []) (i + 2) else rloop (rpart t r) t (t.length - i) i []) else rleaf t i
/-! ### what it finds in a text -/
def Delim (s : List Nat) : Prop := s = [] ∨ (∃ r, s = 32 :: r) ∨ ∃ r, s = 41 :: r
theorem at_zero (pre : List Nat) (c : Nat) (l : List Nat) : (pre ++ c :: l)[pre.length]? = some c := by
  rw [List.getElem?_append_right (Nat.le_refl _), Nat.sub_self]; rfl
theorem at_pre (pre l : List Nat) (j : Nat) : (pre ++ l)[pre.length + j]? = l[j]? := by
  rw [List.getElem?_append_right (by omega)]; congr 1; omega
theorem takeWhile_run {p : Nat → Bool} : ∀ {w suf : List Nat} {most : Nat}, (∀ c ∈ w, p c = true) → w.length ≤ most → (suf = [] ∨ ∃ c s, suf = c :: s ∧ p c = false) → ((w ++ suf).take most).takeWhile p = w
  | [], suf, most, _, _, hs => by
    rw [List.nil_append]
    rcases hs with rfl | ⟨c, s, rfl, h⟩
    · rw [List.take_nil, List.takeWhile_nil]
    · cases most with
      | zero => rfl
      | succ m => rw [List.take_succ_cons, List.takeWhile_cons, h]; rfl
  | c :: w, suf, 0, _, hl, _ => absurd hl (by simp)
  | c :: w, suf, most + 1, hw, hl, hs => by
    rw [List.cons_append, List.take_succ_cons, List.takeWhile_cons, hw c List.mem_cons_self]
    show c :: _ = _
    rw [takeWhile_run (fun d hd => hw d (List.mem_cons_of_mem _ hd)) (by simpa using hl) hs]
theorem run_eq {cs : List Nat} {most : Nat} {pre w suf : List Nat} (hw : ∀ c ∈ w, c ∈ cs) (hl : w.length ≤ most) (hs : suf = [] ∨ ∃ c s, suf = c :: s ∧ c ∉ cs) :
    run cs most (pre ++ (w ++ suf)) pre.length = pre.length + w.length := by
  unfold run
  rw [List.drop_left, takeWhile_run (fun c hc => decide_eq_true (hw c hc)) hl]
  rcases hs with h | ⟨c, s, h, hn⟩
  · exact .inl h
  · exact .inr ⟨c, s, h, decide_eq_false hn⟩
theorem cut_eq (pre w suf : List Nat) : cut (pre ++ (w ++ suf)) pre.length (pre.length + w.length) = w := by
  unfold cut
  rw [List.drop_left, Nat.add_sub_cancel_left, List.take_left]
theorem Delim.out {s : List Nat} (h : Delim s) : s = [] ∨ ∃ c r, s = c :: r ∧ c ∉ wcs ∧ c ∉ digs ∧ (49 ≤ c ∧ c ≤ 57 → False) := by
  rcases h with h | ⟨r, h⟩ | ⟨r, h⟩
  · exact .inl h
  · exact .inr ⟨32, r, h, by decide +kernel, by decide +kernel, by omega⟩
  · exact .inr ⟨41, r, h, by decide +kernel, by decide +kernel, by omega⟩
theorem Delim.w {s : List Nat} (h : Delim s) : s = [] ∨ ∃ c r, s = c :: r ∧ c ∉ wcs := by
  rcases h.out with h | ⟨c, r, h, a, _⟩
  · exact .inl h
  · exact .inr ⟨c, r, h, a⟩
theorem Delim.d {s : List Nat} (h : Delim s) : s = [] ∨ ∃ c r, s = c :: r ∧ c ∉ digs := by
  rcases h.out with h | ⟨c, r, h, _, a, _⟩
  · exact .inl h
  · exact .inr ⟨c, r, h, a⟩
theorem Delim.n {s pre : List Nat} (h : Delim s) : isN (pre ++ s) pre.length = false := by
  unfold isN
  rcases h.out with rfl | ⟨c, r, rfl, _, _, a⟩
  · rw [List.append_nil, List.getElem?_eq_none (Nat.le_refl _)]
  · rw [at_zero]; exact decide_eq_false a
theorem val_pos {m : Nat} (h : m < 10 ^ 200) : val (numL m) = (m : Int) := by
  have hl := numL_len (n := m) (k := 200) (by decide) h
  unfold val
  have e : intText? (⟨(numL m).toArray⟩ : Str) = some ((NumText.digitsVal (numL m) : Nat) : Int) :=
    intText_digits (x := ⟨(numL m).toArray⟩) (numL_digits m) (numL_ne m) (by rw [len_tl, tl_mk]; omega)
  rw [e, numL_val]; rfl
theorem val_neg {m : Nat} (h : m < 10 ^ 200) : val (45 :: numL m) = -(m : Int) := by
  have hl := numL_len (n := m) (k := 200) (by decide) h
  unfold val
  have e : intText? (⟨(45 :: numL m).toArray⟩ : Str) = some (-((NumText.digitsVal (numL m) : Nat) : Int)) :=
    intText_neg (x := ⟨(45 :: numL m).toArray⟩) (cs := numL m) rfl (numL_digits m) (numL_ne m) (by rw [len_tl, tl_mk, List.length_cons]; omega)
  rw [e, numL_val]; rfl
theorem lets_range {c : Nat} (h : c ∈ lets) : 97 ≤ c ∧ c ≤ 122 := by
  have : ∀ c ∈ lets, 97 ≤ c ∧ c ≤ 122 := by decide +kernel
  exact this c h
theorem rleaf_num (i : Int) (h : i.natAbs < 10 ^ 200) (pre suf : List Nat) (hd : Delim suf) : rleaf (pre ++ (numT i ++ suf)) pre.length = .got (.num i) (pre.length + (numT i).length) := by
  rcases Int.lt_trichotomy i 0 with hn | rfl | hp
  · obtain ⟨m, rfl⟩ : ∃ m : Nat, i = -(m : Int) := ⟨i.natAbs, by omega⟩
    have hm : 0 < m := by omega
    have hb : m < 10 ^ 200 := by simpa using h
    rw [numT_neg m hm]
    obtain ⟨c, r, e, h1, h2⟩ := numL_head m hm
    unfold rleaf
    rw [List.cons_append, at_zero]
    have hl : (45 : Nat) ∉ lets := by decide +kernel
    have e1 : pre ++ 45 :: (numL m ++ suf) = (pre ++ [45]) ++ (numL m ++ suf) := by simp
    have e2 : pre.length + 1 = (pre ++ [45]).length := by simp
    have hN : isN (pre ++ 45 :: (numL m ++ suf)) (pre.length + 1) = true := by
      unfold isN
      rw [e1, e2, e, List.cons_append, at_zero]
      exact decide_eq_true ⟨h1, h2⟩
    show (if (45 : Nat) ∈ lets then _ else if (45 : Nat) = 45 ∧ isN _ (pre.length + 1) = false then _ else rnum _ _) = _
    rw [if_neg hl, if_neg (by rw [hN]; intro z; cases z.2)]
    unfold rnum
    have hF : rnumF (pre ++ 45 :: (numL m ++ suf)) pre.length = pre.length + 1 := by unfold rnumF; rw [at_zero, if_pos rfl]
    rw [hF, hN, at_zero, if_neg (by decide), if_pos rfl]
    have hrun : run digs 200 (pre ++ 45 :: (numL m ++ suf)) (pre.length + 1) = pre.length + 1 + (numL m).length := by
      rw [e1, e2]; exact run_eq (numL_digs m) (numL_len (by decide) hb) hd.d
    rw [hrun]
    have hcut : cut (pre ++ 45 :: (numL m ++ suf)) pre.length (pre.length + 1 + (numL m).length) = 45 :: numL m := by
      have := cut_eq pre (45 :: numL m) suf
      rw [List.length_cons, List.cons_append] at this
      rw [← this]; congr 1; omega
    rw [hcut, val_neg hb, List.length_cons]
    congr 1
    omega
  · have e0 : numT 0 = [48] := (numT_nat 0).trans numL_zero
    rw [e0]
    unfold rleaf
    rw [List.cons_append, at_zero]
    have hl : (48 : Nat) ∉ lets := by decide +kernel
    show (if (48 : Nat) ∈ lets then _ else if (48 : Nat) = 45 ∧ _ then _ else rnum _ _) = _
    rw [if_neg hl, if_neg (by intro z; exact absurd z.1 (by decide))]
    unfold rnum
    rw [at_zero, if_pos rfl]
    rfl
  · obtain ⟨m, rfl⟩ : ∃ m : Nat, i = (m : Int) := ⟨i.natAbs, by omega⟩
    have hm : 0 < m := by omega
    have hb : m < 10 ^ 200 := by simpa using h
    rw [numT_nat m]
    obtain ⟨c, r, e, h1, h2⟩ := numL_head m hm
    have hat : (pre ++ (numL m ++ suf))[pre.length]? = some c := by rw [e, List.cons_append, at_zero]
    have hN : isN (pre ++ (numL m ++ suf)) pre.length = true := by
      unfold isN
      rw [hat]
      exact decide_eq_true ⟨h1, h2⟩
    unfold rleaf
    rw [hat]
    have hl : c ∉ lets := fun z => by have := lets_range z; omega
    show (if c ∈ lets then _ else if c = 45 ∧ _ then _ else rnum _ _) = _
    rw [if_neg hl, if_neg (by intro z; omega)]
    unfold rnum
    have hF : rnumF (pre ++ (numL m ++ suf)) pre.length = pre.length := by
      unfold rnumF; rw [hat, if_neg (by intro z; injection z; omega)]
    rw [hF, hN, hat, if_neg (by intro z; injection z; omega), if_pos rfl]
    rw [run_eq (numL_digs m) (numL_len (by decide) hb) hd.d, cut_eq, val_pos hb]
theorem rleaf_wrd {w : List Nat} (h : WOk w) (pre suf : List Nat) (hd : Delim suf) : rleaf (pre ++ (w ++ suf)) pre.length = .got (.wrd w) (pre.length + w.length) := by
  have ha := h.all
  obtain ⟨hl, c, r, e, hc, _⟩ := h
  have hat : (pre ++ (w ++ suf))[pre.length]? = some c := by rw [e, List.cons_append, at_zero]
  unfold rleaf
  rw [hat]
  show (if c ∈ lets then _ else _) = _
  rw [if_pos hc, run_eq ha hl hd.w, cut_eq]
theorem rleaf_non (pre suf : List Nat) (hd : Delim suf) : rleaf (pre ++ 45 :: suf) pre.length = .got .non (pre.length + 1) := by
  unfold rleaf
  rw [at_zero]
  have hl : (45 : Nat) ∉ lets := by decide +kernel
  have hN : isN (pre ++ 45 :: suf) (pre.length + 1) = false := by
    have := hd.n (pre := pre ++ [45])
    rw [List.length_append] at this
    rw [show pre ++ 45 :: suf = pre ++ [45] ++ suf by simp]
    exact this
  show (if (45 : Nat) ∈ lets then _ else if (45 : Nat) = 45 ∧ _ then _ else rnum _ _) = _
  rw [if_neg hl, if_pos ⟨rfl, hN⟩]
/-- the first sign of a note's text -/
theorem txt_head : ∀ {n : N}, n.ok → ∃ c r, n.txt = c :: r ∧ c ≠ 41 ∧ c ≠ 32
  | .non, _ => ⟨45, [], rfl, by decide, by decide⟩
  | .wrd w, h => by
    obtain ⟨_, c, r, e, hc, _⟩ := (show WOk w from h)
    have := lets_range hc
    exact ⟨c, r, e, by omega, by omega⟩
  | .num i, _ => by
    show ∃ c r, numT i = c :: r ∧ _
    rcases Int.lt_or_le i 0 with hn | hp
    · obtain ⟨m, rfl⟩ : ∃ m : Nat, i = -(m : Int) := ⟨i.natAbs, by omega⟩
      exact ⟨45, _, numT_neg m (by omega), by decide, by decide⟩
    · obtain ⟨m, rfl⟩ : ∃ m : Nat, i = (m : Int) := ⟨i.natAbs, by omega⟩
      rw [numT_nat]
      cases e : numL m with
      | nil => exact absurd e (numL_ne m)
      | cons c r =>
        have := numL_digits m c (by rw [e]; exact List.mem_cons_self)
        exact ⟨c, r, rfl, by omega, by omega⟩
  | .tup ns, _ => ⟨40, _, rfl, by decide, by decide⟩
theorem not40 {n : N} (h : n.ok) (ht : ∀ ns, n ≠ .tup ns) : ∃ c r, n.txt = c :: r ∧ c ≠ 40 := by
  cases n with
  | non => exact ⟨45, [], rfl, by decide⟩
  | wrd w =>
    obtain ⟨_, c, r, e, hc, _⟩ := (show WOk w from h)
    have := lets_range hc
    exact ⟨c, r, e, by omega⟩
  | num i =>
    show ∃ c r, numT i = c :: r ∧ _
    rcases Int.lt_or_le i 0 with hn | hp
    · obtain ⟨m, rfl⟩ : ∃ m : Nat, i = -(m : Int) := ⟨i.natAbs, by omega⟩
      exact ⟨45, _, numT_neg m (by omega), by decide⟩
    · obtain ⟨m, rfl⟩ : ∃ m : Nat, i = (m : Int) := ⟨i.natAbs, by omega⟩
      rw [numT_nat]
      cases e : numL m with
      | nil => exact absurd e (numL_ne m)
      | cons c r =>
        have := numL_digits m c (by rw [e]; exact List.mem_cons_self)
        exact ⟨c, r, rfl, by omega⟩
  | tup ns => exact absurd rfl (ht ns)
theorem more_len : ∀ ns : List N, ns.length ≤ (N.more ns).length
  | [] => Nat.le_refl _
  | n :: ns => by
    have := more_len ns
    simp only [N.more, List.length_cons, List.length_append]
    omega
def Reads (f : Nat → R) (t : List Nat) (n : N) : Prop := ∀ pre suf, t = pre ++ (n.txt ++ suf) → Delim suf → f pre.length = .got n (pre.length + n.txt.length)
theorem loop_txt {f : Nat → R} {t : List Nat} : ∀ (ns : List N) (n : N) (acc : List N) (m i : Nat) (pre suf : List Nat), (∀ x ∈ n :: ns, Reads f t x) → i + 1 = pre.length → ns.length < m → t = pre ++ (n.txt ++ (N.more ns ++ 41 :: suf)) →
    rloop f t m i acc = .got (.tup (acc ++ n :: ns)) (pre.length + n.txt.length + (N.more ns).length + 1)
  | [], n, acc, 0, _, _, _, _, _, hm, _ => absurd hm (by simp)
  | [], n, acc, m + 1, i, pre, suf, hr, hi, hm, ht => by
    have h := hr n List.mem_cons_self pre (41 :: suf) (by rw [ht]; rfl) (.inr (.inr ⟨_, rfl⟩))
    have hat : t[pre.length + n.txt.length]? = some 41 := by
      rw [ht, ← List.append_assoc]
      have := at_zero (pre ++ n.txt) 41 suf
      rw [List.length_append] at this
      exact this
    unfold rloop
    rw [hi, h]
    show (if t[pre.length + n.txt.length]? = some 32 then _ else if t[pre.length + n.txt.length]? = some 41 then _ else _) = _
    rw [hat, if_neg (by decide), if_pos rfl]
    rfl
  | n2 :: ns, n, acc, 0, _, _, _, _, _, hm, _ => absurd hm (by simp)
  | n2 :: ns, n, acc, m + 1, i, pre, suf, hr, hi, hm, ht => by
    have h := hr n List.mem_cons_self pre (32 :: (n2.txt ++ N.more ns) ++ 41 :: suf) (by rw [ht]; rfl) (.inr (.inl ⟨_, rfl⟩))
    have ht2 : t = (pre ++ n.txt ++ [32]) ++ (n2.txt ++ (N.more ns ++ 41 :: suf)) := by
      rw [ht]; simp [N.more]
    have hl2 : (pre ++ n.txt ++ [32]).length = pre.length + n.txt.length + 1 := by simp [Nat.add_assoc]
    have hat : t[pre.length + n.txt.length]? = some 32 := by
      rw [ht2, List.append_assoc]
      have := at_zero (pre ++ n.txt) 32 (n2.txt ++ (N.more ns ++ 41 :: suf))
      rw [List.length_append] at this
      exact this
    unfold rloop
    rw [hi, h]
    show (if t[pre.length + n.txt.length]? = some 32 then _ else _) = _
    rw [if_pos hat]
    rw [loop_txt ns n2 (acc ++ [n]) m (pre.length + n.txt.length) (pre ++ n.txt ++ [32]) suf (fun x hx => hr x (List.mem_cons_of_mem _ hx)) hl2.symm (by simpa using hm) ht2]
    rw [hl2, List.append_assoc]
    congr 1
    simp only [N.more, List.length_cons, List.length_append]
    omega
theorem rpart_leaf {t : List Nat} {r i : Nat} (h : t[i]? ≠ some 40) : rpart t r i = rleaf t i := by
  cases r <;> (unfold rpart; rw [if_neg h])
mutual
theorem rpart_txt {t : List Nat} : ∀ (n : N) (r : Nat), n.ok → n.dep ≤ r → Reads (rpart t r) t n
  | .non, r, _, _ => fun pre suf ht hd => by
    subst ht
    rw [rpart_leaf (by show (pre ++ 45 :: suf)[pre.length]? ≠ _; rw [at_zero]; decide)]
    exact rleaf_non pre suf hd
  | .wrd w, r, h, _ => fun pre suf ht hd => by
    subst ht
    obtain ⟨c, l, e, h40⟩ := not40 (n := .wrd w) h (fun _ z => nomatch z)
    rw [rpart_leaf (by rw [e, List.cons_append, at_zero]; intro z; injection z; contradiction)]
    exact rleaf_wrd h pre suf hd
  | .num i, r, h, _ => fun pre suf ht hd => by
    subst ht
    obtain ⟨c, l, e, h40⟩ := not40 (n := .num i) h (fun _ z => nomatch z)
    rw [rpart_leaf (by rw [e, List.cons_append, at_zero]; intro z; injection z; contradiction)]
    exact rleaf_num i h pre suf hd
  | .tup ns, 0, _, hr => absurd hr (by simp [N.dep])
  | .tup [], r + 1, _, _ => fun pre suf ht _ => by
    subst ht
    have h1 : (pre ++ ((N.tup []).txt ++ suf))[pre.length + 1]? = some 41 := by rw [at_pre]; rfl
    unfold rpart
    rw [if_pos (by show (pre ++ 40 :: _)[pre.length]? = _; rw [at_zero]), if_pos h1]
    rfl
  | .tup (n :: ns), r + 1, h, hr => fun pre suf ht hd => by
    have ih := rparts_txt (t := t) (n :: ns) r h (by simp only [N.dep] at hr; omega)
    have hn : n.ok := (oks_mem.mp h) n List.mem_cons_self
    obtain ⟨c, l, e, c41, _⟩ := txt_head hn
    have ht2 : t = (pre ++ [40]) ++ (n.txt ++ (N.more ns ++ 41 :: suf)) := by
      rw [ht]; simp [N.txt, N.txts]
    have hl2 : (pre ++ [40]).length = pre.length + 1 := by simp
    have h0 : t[pre.length]? = some 40 := by rw [ht]; show (pre ++ 40 :: _)[pre.length]? = _; rw [at_zero]
    have h1 : t[pre.length + 1]? ≠ some 41 := by
      rw [ht2, ← hl2, e, List.cons_append, at_zero]; intro z; injection z; contradiction
    have htl : t.length = pre.length + 1 + (n.txt.length + ((N.more ns).length + (suf.length + 1))) := by rw [ht2]; simp [Nat.add_assoc]; omega
    have hml := more_len ns
    unfold rpart
    rw [if_pos h0, if_neg h1, loop_txt ns n [] (t.length - pre.length) pre.length (pre ++ [40]) suf ih hl2.symm (by omega) ht2, hl2]
    congr 1
    simp only [N.txt, N.txts, List.length_cons, List.length_append, List.length_nil]
    omega
theorem rparts_txt {t : List Nat} : ∀ (ns : List N) (r : Nat), N.oks ns → N.deps ns ≤ r → ∀ x ∈ ns, Reads (rpart t r) t x
  | [], _, _, _ => fun x hx => absurd hx List.not_mem_nil
  | n :: ns, r, h, hr => fun x hx => by
    simp only [N.deps] at hr
    rcases List.mem_cons.mp hx with e | hx
    · rw [e]; exact rpart_txt n r h.1 (by omega)
    · exact rparts_txt ns r h.2 (by omega) x hx
end
/-! ### sizes -/
mutual
theorem sz_le : ∀ (n : N), n.ok → n.sz ≤ n.txt.length
  | .non, _ => by simp [N.sz, N.txt]
  | .wrd w, h => by
    obtain ⟨c, r, e, _⟩ := txt_head (n := .wrd w) h
    rw [e]; simp [N.sz]
  | .num i, h => by
    obtain ⟨c, r, e, _⟩ := txt_head (n := .num i) h
    rw [e]; simp [N.sz]
  | .tup ns, h => by
    have := szs_le ns h
    simp only [N.sz, N.txt, List.length_cons, List.length_append, List.length_nil]
    omega
theorem szs_le : ∀ (ns : List N), N.oks ns → N.szs ns ≤ (N.txts ns).length
  | [], _ => Nat.le_refl _
  | n :: ns, h => by
    have h1 := sz_le n h.1
    have h2 := szm_le ns h.2
    simp only [N.szs, N.txts, List.length_append]
    omega
theorem szm_le : ∀ (ns : List N), N.oks ns → N.szs ns ≤ (N.more ns).length
  | [], _ => Nat.le_refl _
  | n :: ns, h => by
    have h1 := sz_le n h.1
    have h2 := szm_le ns h.2
    simp only [N.szs, N.more, List.length_append, List.length_cons]
    omega
end
theorem join_more : ∀ (ns : List N) (n : N), joinL [32] ((n :: ns).map N.txt) = n.txt ++ N.more ns
  | [], n => by show n.txt = n.txt ++ []; rw [List.append_nil]
  | n2 :: ns, n => by
    have ih := join_more ns n2
    show n.txt ++ ([32] ++ joinL [32] ((n2 :: ns).map N.txt)) = _
    rw [ih]; rfl
theorem join_txts : ∀ ns : List N, joinL [32] (ns.map N.txt) = N.txts ns
  | [] => rfl
  | n :: ns => join_more ns n
theorem join_N (ns : List N) : Txt.join ⟨#[32]⟩ (ns.map fun n => SX.S n.txt) = SX.S (N.txts ns) := by
  have e : (ns.map fun n => SX.S n.txt) = (ns.map N.txt).map SX.S := by rw [List.map_map]; rfl
  have := SX.join_S [32] (ns.map N.txt)
  rw [join_txts] at this
  rw [e]; exact this
theorem more_sum : ∀ ns : List N, (N.more ns).length = (ns.map fun n => n.txt.length).sum + ns.length
  | [] => rfl
  | n :: ns => by
    simp only [N.more, List.length_cons, List.length_append, more_sum ns, List.map_cons, List.sum_cons]
    omega
theorem txts_sum (ns : List N) : (ns.map fun n => n.txt.length).sum + ns.length ≤ (N.txts ns).length + 1 := by
  cases ns with
  | nil => simp
  | cons n ns =>
    simp only [N.txts, List.length_append, more_sum, List.map_cons, List.sum_cons, List.length_cons]
    omega
theorem mem_txt_le {n : N} : ∀ {ns : List N}, n ∈ ns → n.txt.length ≤ (N.txts ns).length := by
  intro ns h
  have : ∀ ns : List N, n ∈ ns → n.txt.length ≤ (N.more ns).length := by
    intro ns
    induction ns with
    | nil => intro h; cases h
    | cons m ns ih =>
      intro h
      simp only [N.more, List.length_cons, List.length_append]
      rcases List.mem_cons.mp h with e | h
      · rw [e]; omega
      · have := ih h; omega
  cases ns with
  | nil => cases h
  | cons m ns =>
    simp only [N.txts, List.length_append]
    rcases List.mem_cons.mp h with e | h
    · rw [e]; omega
    · have := this ns h; omega
end GN
namespace GN
open PySem TL
theorem run_char {cs : List Nat} {most : Nat} {t : List Nat} {i k : Nat} (hk : k ≤ most) (hin : ∀ j, j < k → ∃ c, t[i + j]? = some c ∧ c ∈ cs) (hout : k = most ∨ t[i + k]? = none ∨ ∃ c, t[i + k]? = some c ∧ c ∉ cs) : run cs most t i = i + k := by
  have hl : ((t.drop i).take k).length = k := by
    rw [List.length_take, List.length_drop]
    cases k with
    | zero => simp
    | succ k =>
      obtain ⟨c, e, _⟩ := hin k (by omega)
      have := (List.getElem?_eq_some_iff.mp e).1
      omega
  have hall : ∀ c ∈ (t.drop i).take k, decide (c ∈ cs) = true := by
    intro c hc
    obtain ⟨j, hj⟩ := List.mem_iff_getElem?.mp hc
    have hjk : j < k := by have := (List.getElem?_eq_some_iff.mp hj).1; omega
    rw [List.getElem?_take_of_lt hjk, List.getElem?_drop] at hj
    obtain ⟨d, e, hd⟩ := hin j hjk
    rw [hj] at e; cases e
    exact decide_eq_true hd
  have split : t.drop i = (t.drop i).take k ++ t.drop (i + k) := by
    have := List.take_append_drop k (t.drop i)
    rw [List.drop_drop] at this
    exact this.symm
  unfold run
  by_cases hm : k = most
  · subst hm
    have : ((t.drop i).take k).takeWhile (fun c => decide (c ∈ cs)) = (t.drop i).take k := by
      exact PySem.NumText.takeWhile_all hall
    rw [this, hl]
  · rw [split, takeWhile_run hall (by omega), hl]
    rcases hout with h | h | ⟨c, h, hn⟩
    · exact absurd h hm
    · exact .inl (List.drop_eq_nil_iff.mpr (List.getElem?_eq_none_iff.mp h))
    · have hlt := (List.getElem?_eq_some_iff.mp h).1
      refine .inr ⟨c, t.drop (i + k + 1), ?_, decide_eq_false hn⟩
      rw [List.drop_eq_getElem_cons hlt, (List.getElem?_eq_some_iff.mp h).2]
theorem takeWhile_le {p : Nat → Bool} : ∀ (l : List Nat), (l.takeWhile p).length ≤ l.length
  | [] => Nat.le_refl _
  | c :: l => by
    rw [List.takeWhile_cons]
    split
    · have := takeWhile_le (p := p) l; simp; omega
    · simp
theorem run_le {cs : List Nat} {most : Nat} {t : List Nat} {i : Nat} (h : i ≤ t.length) : run cs most t i ≤ t.length := by
  unfold run
  have := takeWhile_le (p := fun c => decide (c ∈ cs)) ((t.drop i).take most)
  rw [List.length_take, List.length_drop] at this
  omega
theorem run_gt {cs : List Nat} {most : Nat} {t : List Nat} {i c : Nat} (h : t[i]? = some c) (hc : c ∈ cs) (hm : 0 < most) : i < run cs most t i := by
  unfold run
  obtain ⟨hlt, e⟩ := List.getElem?_eq_some_iff.mp h
  obtain ⟨m, rfl⟩ : ∃ m, most = m + 1 := ⟨most - 1, by omega⟩
  rw [List.drop_eq_getElem_cons hlt, e, List.take_succ_cons, List.takeWhile_cons, if_pos (decide_eq_true hc)]
  simp
theorem isN_at {t : List Nat} {i : Nat} (h : isN t i = true) : ∃ c, t[i]? = some c ∧ 49 ≤ c ∧ c ≤ 57 := by
  unfold isN at h
  cases e : t[i]? with
  | none => rw [e] at h; cases h
  | some c => rw [e] at h; exact ⟨c, rfl, of_decide_eq_true h⟩
theorem rnumF_ge {t : List Nat} {i : Nat} : i ≤ rnumF t i := by unfold rnumF; split <;> omega
theorem rnum_pos {t : List Nat} {i j : Nat} {n : N} (hi : i < t.length) (h : rnum t i = .got n j) : i < j ∧ j ≤ t.length := by
  unfold rnum at h
  split at h
  · cases h; omega
  · split at h
    · rename_i hN
      cases h
      obtain ⟨c, e, h1, h2⟩ := isN_at hN
      have := run_gt (most := 200) e (digs_of ⟨by omega, h2⟩) (by decide)
      have hl := (List.getElem?_eq_some_iff.mp e).1
      have := run_le (cs := digs) (most := 200) (Nat.le_of_lt hl)
      have := rnumF_ge (t := t) (i := i)
      omega
    · cases h
theorem rleaf_pos {t : List Nat} {i j : Nat} {n : N} (h : rleaf t i = .got n j) : i < j ∧ j ≤ t.length := by
  unfold rleaf at h
  cases e : t[i]? with
  | none => rw [e] at h; cases h
  | some c =>
    rw [e] at h
    have hl := (List.getElem?_eq_some_iff.mp e).1
    revert h
    show (if c ∈ lets then _ else if c = 45 ∧ isN t (i + 1) = false then _ else rnum t i) = _ → _
    split
    · rename_i hc
      intro h; cases h
      have := run_gt (most := 24) e (lets_wcs hc) (by decide)
      have := run_le (cs := wcs) (most := 24) (Nat.le_of_lt hl)
      omega
    · split
      · intro h; cases h; omega
      · exact fun h => rnum_pos hl h
theorem rloop_pos {f : Nat → R} {t : List Nat} (hf : ∀ i n j, f i = .got n j → i < j ∧ j ≤ t.length) : ∀ m i acc n j, rloop f t m i acc = .got n j → i < j ∧ j ≤ t.length
  | 0, i, acc, n, j, h => by unfold rloop at h; cases h
  | m + 1, i, acc, n, j, h => by
    unfold rloop at h
    cases e : f (i + 1) with
    | bad b => rw [e] at h; cases h
    | got k a =>
      rw [e] at h
      have p := hf _ _ _ e
      revert h
      show (if t[a]? = some 32 then _ else if t[a]? = some 41 then _ else _) = _ → _
      split
      · intro h
        have := rloop_pos hf m a _ n j h
        omega
      · split
        · rename_i h41
          intro h; cases h
          have := (List.getElem?_eq_some_iff.mp h41).1
          omega
        · intro h; cases h
def rtup (t : List Nat) (r i : Nat) : R := if t[i + 1]? = some 41 then .got (.tup []) (i + 2) else rloop (rpart t r) t (t.length - i) i []
def rtupS (t : List Nat) : Nat → Nat → R
  | 0, i => .bad i
  | r + 1, i => rtup t r i
theorem rpart_eq (t : List Nat) (r i : Nat) : rpart t r i = if t[i]? = some 40 then rtupS t r i else rleaf t i := by
  cases r <;> rfl
theorem rpart_pos {t : List Nat} : ∀ r i n j, rpart t r i = .got n j → i < j ∧ j ≤ t.length
  | 0, i, n, j, h => by
    rw [rpart_eq] at h
    split at h
    · cases h
    · exact rleaf_pos h
  | r + 1, i, n, j, h => by
    rw [rpart_eq] at h
    split at h
    · have h' : rtup t r i = .got n j := h
      unfold rtup at h'
      split at h'
      · rename_i h41
        cases h'
        have := (List.getElem?_eq_some_iff.mp h41).1
        omega
      · exact rloop_pos (rpart_pos r) _ _ _ _ _ h'
    · exact rleaf_pos h
end GN
namespace GN
open PySem TL
theorem takeWhile_pre {p : Nat → Bool} : ∀ (l : List Nat) (m : Nat), l.take ((l.take m).takeWhile p).length = (l.take m).takeWhile p
  | [], _ => by simp
  | c :: l, 0 => rfl
  | c :: l, m + 1 => by
    rw [List.take_succ_cons, List.takeWhile_cons]
    by_cases h : p c = true
    · rw [if_pos h, List.length_cons, List.take_succ_cons, takeWhile_pre l m]
    · rw [if_neg h]; rfl
theorem cut_run (cs : List Nat) (most : Nat) (t : List Nat) (i : Nat) : cut t i (run cs most t i) = ((t.drop i).take most).takeWhile fun c => decide (c ∈ cs) := by
  unfold cut run
  rw [Nat.add_sub_cancel_left]
  exact takeWhile_pre _ _
theorem takeWhile_mem {p : Nat → Bool} : ∀ {l : List Nat} {c : Nat}, c ∈ l.takeWhile p → p c = true
  | d :: l, c, h => by
    rw [List.takeWhile_cons] at h
    by_cases hp : p d = true
    · rw [if_pos hp] at h
      rcases List.mem_cons.mp h with e | h
      · rw [e]; exact hp
      · exact takeWhile_mem h
    · rw [if_neg hp] at h; cases h
theorem cut_all {cs : List Nat} {most : Nat} {t : List Nat} {i : Nat} : ∀ c ∈ cut t i (run cs most t i), c ∈ cs := fun c h => by
  rw [cut_run] at h
  exact of_decide_eq_true (takeWhile_mem h)
theorem cut_len {cs : List Nat} {most : Nat} {t : List Nat} {i : Nat} : (cut t i (run cs most t i)).length ≤ most := by
  rw [cut_run]
  have := takeWhile_le (p := fun c => decide (c ∈ cs)) ((t.drop i).take most)
  rw [List.length_take] at this
  omega
theorem cut_cons {t : List Nat} {i e c : Nat} (h : t[i]? = some c) (he : i < e) : cut t i e = c :: cut t (i + 1) e := by
  unfold cut
  obtain ⟨hlt, h2⟩ := List.getElem?_eq_some_iff.mp h
  rw [List.drop_eq_getElem_cons hlt, h2]
  obtain ⟨k, hk⟩ : ∃ k, e - i = k + 1 := ⟨e - i - 1, by omega⟩
  rw [hk, List.take_succ_cons]
  congr 2
  omega
/-- what is read as a number is one -/
theorem num_read {t : List Nat} {i : Nat} (h : isN t (rnumF t i) = true) : intText? (SX.S (cut t i (run digs 200 t (rnumF t i)))) = some (val (cut t i (run digs 200 t (rnumF t i)))) ∧ (cut t i (run digs 200 t (rnumF t i))).length ≤ 201 := by
  obtain ⟨c, hc, h1, h2⟩ := isN_at h
  have hgt := run_gt (most := 200) hc (digs_of (c := c) ⟨by omega, h2⟩) (by decide)
  have hall : NumText.AllDigits (cut t (rnumF t i) (run digs 200 t (rnumF t i))) := fun d hd => digs_range (cut_all d hd)
  have hne : cut t (rnumF t i) (run digs 200 t (rnumF t i)) ≠ [] := by rw [cut_cons hc hgt]; simp
  have hl := cut_len (cs := digs) (most := 200) (t := t) (i := rnumF t i)
  by_cases h45 : t[i]? = some 45
  · have hF : rnumF t i = i + 1 := by unfold rnumF; rw [if_pos h45]
    rw [hF] at hgt hall hne hl ⊢
    rw [cut_cons h45 (by omega)]
    have e : intText? (SX.S (45 :: cut t (i + 1) (run digs 200 t (i + 1)))) = _ := intText_neg (x := SX.S (45 :: cut t (i + 1) (run digs 200 t (i + 1)))) rfl hall hne (by rw [SX.S_len, List.length_cons]; omega)
    refine ⟨?_, by rw [List.length_cons]; omega⟩
    unfold val
    rw [e]; rfl
  · have hF : rnumF t i = i := by unfold rnumF; rw [if_neg h45]
    rw [hF] at hgt hall hne hl ⊢
    have e : intText? (SX.S (cut t i (run digs 200 t i))) = _ := intText_digits (x := SX.S (cut t i (run digs 200 t i))) hall hne (by rw [SX.S_len]; omega)
    refine ⟨?_, by omega⟩
    unfold val
    rw [e]; rfl
end GN
namespace GN
open PySem TL
theorem fold_lt : ∀ (cs : List Nat) (a : Nat), NumText.AllDigits cs → cs.foldl (fun acc c => acc * 10 + (c - 48)) a < (a + 1) * 10 ^ cs.length
  | [], a, _ => by simp
  | c :: cs, a, h => by
    have h1 := fold_lt cs (a * 10 + (c - 48)) h.tail
    have h2 := h.head
    rw [List.foldl_cons, List.length_cons, Nat.pow_succ]
    refine Nat.lt_of_lt_of_le h1 ?_
    have : a * 10 + (c - 48) + 1 ≤ (a + 1) * 10 := by omega
    calc (a * 10 + (c - 48) + 1) * 10 ^ cs.length ≤ ((a + 1) * 10) * 10 ^ cs.length := Nat.mul_le_mul_right _ this
      _ = (a + 1) * (10 ^ cs.length * 10) := by rw [Nat.mul_assoc, Nat.mul_comm 10]
theorem digits_lt {cs : List Nat} (h : NumText.AllDigits cs) : NumText.digitsVal cs < 10 ^ cs.length := by
  have := fold_lt cs 0 h
  rw [Nat.zero_add, Nat.one_mul] at this
  exact this
theorem fold_rep (x : Nat) : ∀ (n : Nat) (a : Array Nat), ((List.replicate n #[x]).foldl (· ++ ·) a).toList = a.toList ++ List.replicate n x
  | 0, a => by simp
  | n + 1, a => by
    rw [List.replicate_succ, List.foldl_cons, fold_rep x n (a ++ #[x]), List.replicate_succ]
    simp
theorem mul_rep (x : Nat) (n : Nat) (h : 1 ≤ n) : tl (Txt.mul ⟨#[x]⟩ (n : Int)) = List.replicate n x := by
  unfold Txt.mul
  rw [if_neg (by omega)]
  by_cases h1 : n = 1
  · subst h1; rfl
  · have e : (((n : Int) == 1) || ((⟨#[x]⟩ : Str).length == 0)) = false := by
      have : (((n : Int)) == 1) = false := by rw [beq_eq_false_iff_ne]; omega
      rw [this]; rfl
    rw [e, if_neg (by decide), Int.toNat_natCast]
    have := fold_rep x n #[]
    rw [show (#[] : Array Nat).toList = [] from rfl, List.nil_append] at this
    exact this
theorem nine {r : Int} (h0 : 0 ≤ r) (h1 : r < 200) : MulOk (Str.ofString "9") (1 + r) ∧ ∃ n : Int, intText? (Txt.mul (Str.ofString "9") (1 + r)) = some n ∧ n.natAbs < 10 ^ 200 ∧ (Txt.mul (Str.ofString "9") (1 + r)).length ≤ 640 := by
  obtain ⟨n, e⟩ : ∃ n : Nat, 1 + r = (n : Int) := ⟨(1 + r).toNat, by omega⟩
  have hn1 : 1 ≤ n := by omega
  have hn2 : n ≤ 200 := by omega
  have e9 : Str.ofString "9" = ⟨#[57]⟩ := by decide +kernel
  rw [e, e9]
  have hT := mul_rep 57 n hn1
  have hL : (Txt.mul ⟨#[57]⟩ (n : Int)).length = n := by rw [len_tl, hT, List.length_replicate]
  have hd : NumText.AllDigits (tl (Txt.mul ⟨#[57]⟩ (n : Int))) := by
    rw [hT]; intro c hc; rw [(List.mem_replicate.mp hc).2]; omega
  refine ⟨⟨?_, fun _ _ => ?_, fun _ _ => ?_⟩, (NumText.digitsVal (tl (Txt.mul ⟨#[57]⟩ (n : Int))) : Nat), ?_, ?_, by rw [hL]; omega⟩
  · rw [Bool.or_eq_false_iff]; exact ⟨decide_eq_false (by omega), decide_eq_false (by omega)⟩
  · show ¬ ((1 : Nat) : Int) > (2 ^ 63 - 1) / (n : Int)
    have : (1 : Int) ≤ (2 ^ 63 - 1) / (n : Int) := by
      rw [Int.le_ediv_iff_mul_le (by omega)]; omega
    omega
  · show Builtin.Str.tooLong (1 * (n : Int).toNat) = false
    rw [Int.toNat_natCast]
    exact decide_eq_false (by rw [sizeLine_eq]; omega)
  · exact intText_digits hd (by rw [show (Txt.mul ⟨#[57]⟩ (n : Int)).cps.toList = _ from hT]; intro z; rw [List.replicate_eq_nil_iff] at z; omega) (by rw [hL]; omega)
  · have := digits_lt hd
    rw [hT, List.length_replicate] at this
    rw [hT]
    show (NumText.digitsVal (List.replicate n 57)) < 10 ^ 200
    exact Nat.lt_of_lt_of_le this (Nat.pow_le_pow_right (by decide) hn2)
end GN
/-! list(zip(a, b)) of two tuples of one length: each pair that came out stays in the list, so that the next one is new -/
namespace GZ
open PySem
section
variable {prog : Program} {w : World} {A : Around} {E : Value → Shared → Prop} {s : Shared} {z TI TO T j1 j2 a b : Addr} {f : Bool} {oT : Obj} {n1 n2 : Nat} {xs ys : Array Value} {x y : Value}
theorem held_item {Q : Value → Shared → Prop} (D : ZipApart z TI TO j1 j2 a b) (hZ : IsZipHeld s.heap z TI TO T f) (hT : s.heap.get? T = some oT) (hP : IsPair s.heap TI (.ref j1) (.ref j2))
    (it1 : s.heap.IsTupleIter j1 a n1) (it2 : s.heap.IsTupleIter j2 b n2) (ta : s.heap.IsTuple a xs) (tb : s.heap.IsTuple b ys) (ex : xs[n1]? = some x) (ey : ys[n2]? = some y)
    (q : ∀ h', IsZipHeld h' z TI TO T true → h'.IsTupleIter j1 a (n1 + 1) → h'.IsTupleIter j2 b (n2 + 1) → IsPair h' s.heap.objs.size x y → (∀ c o, c ≠ z → c ≠ j1 → c ≠ j2 → s.heap.get? c = some o → h'.get? c = some o) →
      Q (.ref s.heap.objs.size) { s with heap := h' }) :
    wpAny (model prog w) A (Builtin.«zip.__next__» ⟨[.ref z], []⟩) (fun fin s' => ∃ v, fin = .done (.ret v) ∧ Q v s') E s := by
  show wpAny (model prog w) A (field (.ref z) 2 >>= _) _ _ _
  refine wpAny_bind (wpAny_field (x := .bool false) hZ rfl rfl ?_)
  show wpAny (model prog w) A (field (.ref z) 3 >>= _) _ _ _
  refine wpAny_bind (wpAny_field (x := .ref TI) hZ rfl rfl (wpAny_bind (wpAny_seqItems hP rfl ?_)))
  show wpAny (model prog w) A (Builtin.SmallTypes.ownedTupleIsFree (.ref z) >>= _) _ _ _
  refine wpAny_bind (wpAny_tupleHeld_zip hZ hT fun u1 Z1 b1 => ?_)
  simp only [Bool.false_eq_true, if_false]
  refine wpAny_bind ?_
  rw [← Array.forIn_toList]
  simp only [List.forIn_cons, List.forIn_nil]
  refine wpAny_bind (wpAny_bind (wpAny_holding ?_))
  show wpAny (model prog w) A (Builtin.SmallTypes.nextOf (.ref j1) >>= _) _ _ _
  have e1 := b1.extBut
  refine wpAny_bind (RZ.nextOf_tuple_item (s := { s with heap := u1 }) (it1.extBut e1 D.i1z) (ta.extBut e1 D.l1z) ex fun u2 I2 b2 => wpAny_pure (wpAny_pure ?_))
  have e2 := b2.extBut
  refine wpAny_bind (wpAny_bind (wpAny_holding ?_))
  show wpAny (model prog w) A (Builtin.SmallTypes.nextOf (.ref j2) >>= _) _ _ _
  refine wpAny_bind (RZ.nextOf_tuple_item (s := { s with heap := u2 }) ((it2.extBut e1 D.i2z).extBut e2 D.i12.symm) ((tb.extBut e1 D.l2z).extBut e2 D.l2i1) ey fun u3 I3 b3 => wpAny_pure (wpAny_pure (wpAny_pure ?_)))
  have e3 := b3.extBut
  show wpAny (model prog w) A (newTuple [x, y] >>= _) _ _ _
  refine wpAny_bind (wpAny_newTuple ?_)
  have sz : u3.objs.size = s.heap.objs.size := (b3.1.trans b2.1).trans b1.1
  have up : ∀ c o, c ≠ z → c ≠ j1 → c ≠ j2 → s.heap.get? c = some o → u3.get? c = some o := fun c o c1 c2 c3 e => e3 _ _ c3 (e2 _ _ c2 (e1 _ _ c1 e))
  refine wpAny_pure ⟨_, rfl, ?_⟩
  show Q (.ref u3.objs.size) _
  have new : IsPair (u3.push { cls := .type "tuple", data := .seq #[x, y] }) u3.objs.size x y := Heap.get?_push_size _ rfl
  rw [sz] at new ⊢
  exact q _ (Heap.get?_push_of_some _ (e3 _ _ D.i2z.symm (e2 _ _ D.i1z.symm Z1))) ((I2.extBut e3 D.i12).at fun o e => Heap.get?_push_of_some _ e) (I3.at fun o e => Heap.get?_push_of_some _ e) new
    fun c o c1 c2 c3 e => Heap.get?_push_of_some _ (up c o c1 c2 c3 e)
theorem held_end {Q : Fin → Shared → Prop} (hh : A.handled = none) (D : ZipApart z TI TO j1 j2 a b) (hZ : IsZipHeld s.heap z TI TO T f) (hT : s.heap.get? T = some oT) (hP : IsPair s.heap TI (.ref j1) (.ref j2))
    (it1 : s.heap.IsTupleIter j1 a n1) (ta : s.heap.IsTuple a xs) (ex : xs[n1]? = none)
    (q : ∀ h' e, (∀ c o, c ≠ z → c ≠ j1 → c ≠ j2 → s.heap.get? c = some o → h'.get? c = some o) → (∃ o, h'.get? e = some o ∧ o.cls = .type "StopIteration") → E (.ref e) { s with heap := h' }) :
    wpAny (model prog w) A (Builtin.«zip.__next__» ⟨[.ref z], []⟩) Q E s := by
  show wpAny (model prog w) A (field (.ref z) 2 >>= _) _ _ _
  refine wpAny_bind (wpAny_field (x := .bool false) hZ rfl rfl ?_)
  show wpAny (model prog w) A (field (.ref z) 3 >>= _) _ _ _
  refine wpAny_bind (wpAny_field (x := .ref TI) hZ rfl rfl (wpAny_bind (wpAny_seqItems hP rfl ?_)))
  show wpAny (model prog w) A (Builtin.SmallTypes.ownedTupleIsFree (.ref z) >>= _) _ _ _
  refine wpAny_bind (wpAny_tupleHeld_zip hZ hT fun u1 Z1 b1 => ?_)
  simp only [Bool.false_eq_true, if_false]
  refine wpAny_bind ?_
  rw [← Array.forIn_toList]
  simp only [List.forIn_cons, List.forIn_nil]
  refine wpAny_bind (wpAny_bind (wpAny_holding ?_))
  show wpAny (model prog w) A (Builtin.SmallTypes.nextOf (.ref j1) >>= _) _ _ _
  have e1 := b1.extBut
  exact wpAny_bind (RZ.nextOf_tuple_end (s := { s with heap := u1 }) hh (it1.extBut e1 D.i1z) (ta.extBut e1 D.l1z) ex fun u2 e b2 he => q u2 e (fun c o c1 c2 _ k => b2 _ _ c2 (e1 _ _ c1 k)) he)
theorem py_item {Q : Option Value → Shared → Prop} (D : ZipApart z TI TO j1 j2 a b) (hZ : IsZipHeld s.heap z TI TO T f) (hT : s.heap.get? T = some oT) (hP : IsPair s.heap TI (.ref j1) (.ref j2))
    (it1 : s.heap.IsTupleIter j1 a n1) (it2 : s.heap.IsTupleIter j2 b n2) (ta : s.heap.IsTuple a xs) (tb : s.heap.IsTuple b ys) (ex : xs[n1]? = some x) (ey : ys[n2]? = some y)
    (q : ∀ h', IsZipHeld h' z TI TO T true → h'.IsTupleIter j1 a (n1 + 1) → h'.IsTupleIter j2 b (n2 + 1) → IsPair h' s.heap.objs.size x y → (∀ c o, c ≠ z → c ≠ j1 → c ≠ j2 → s.heap.get? c = some o → h'.get? c = some o) →
      Q (some (.ref s.heap.objs.size)) { s with heap := h' }) : wpAny (model prog w) A (pyNext (.ref z)) Q E s := by
  have ty : s.TypeIs (.ref z) "zip" := ⟨_, hZ, rfl⟩
  unfold pyNext
  refine wpAny_bind (wpAny_attempt (wpAny_callSpecial?_slot (name := Str.ofString "__next__") ty F.slot_zip_next (wpAny_call_entry F.slot_zip_next ty F.entry_zip_next ?_ (F.args_zip_next_1 _))))
  exact held_item D hZ hT hP it1 it2 ta tb ex ey fun h' c1 c2 c3 c4 c5 => wpAny_pure (q h' c1 c2 c3 c4 c5)
theorem py_end {Q : Option Value → Shared → Prop} (hh : A.handled = none) (D : ZipApart z TI TO j1 j2 a b) (hZ : IsZipHeld s.heap z TI TO T f) (hT : s.heap.get? T = some oT) (hP : IsPair s.heap TI (.ref j1) (.ref j2))
    (it1 : s.heap.IsTupleIter j1 a n1) (ta : s.heap.IsTuple a xs) (ex : xs[n1]? = none)
    (q : ∀ h', (∀ c o, c ≠ z → c ≠ j1 → c ≠ j2 → s.heap.get? c = some o → h'.get? c = some o) → Q none { s with heap := h' }) : wpAny (model prog w) A (pyNext (.ref z)) Q E s := by
  have ty : s.TypeIs (.ref z) "zip" := ⟨_, hZ, rfl⟩
  unfold pyNext
  refine wpAny_bind (wpAny_attempt (wpAny_callSpecial?_slot (name := Str.ofString "__next__") ty F.slot_zip_next (wpAny_call_entry F.slot_zip_next ty F.entry_zip_next (held_end hh D hZ hT hP it1 ta ex fun h' e k he => ?_) (F.args_zip_next_1 _))))
  obtain ⟨o, ho, hc⟩ := he
  exact wpAny_bind (wpAny_isInstance (T := "StopIteration") (b := true) ⟨o, ho, hc⟩ isSubtype_stop (wpAny_pure (q _ k)))
/-- nothing is said of the length of a zip -/
theorem zip_hint {Q : Bool → Shared → Prop} (ty : s.TypeIs (.ref z) "zip") (q : Q true s) : wpAny (model prog w) A (Builtin.List.listLengthHint (.ref z)) Q E s := by
  unfold Builtin.List.listLengthHint
  refine wpAny_bind (wpAny_specialOf ty (r := none) (by rw [typeLookup_type, builtinLookup_eq_fast]; kernel_rfl) ?_)
  refine PySem.W.KFB.if_not rfl (PySem.W.KFB.if_not rfl ?_)
  exact wpAny_bind (wpAny_specialOf ty (r := none) (by rw [typeLookup_type, builtinLookup_eq_fast]; kernel_rfl) (wpAny_pure q))
end
end GZ
namespace L2
open PySem PySem.Spec PyProof.Rows StX
/-- a zip at z over the tuples at a and b, i pairs of which have come out -/
def ZSt (H : Hp) (h : Heap) (z TI TO j1 j2 a b : Addr) (i : Nat) : Prop := IsPair h TI (.ref j1) (.ref j2) ∧ h.IsTupleIter j1 a i ∧ h.IsTupleIter j2 b i ∧ (∃ o, h.get? TO = some o) ∧ ((IsZip h z TI TO .none ∧ ∃ x y, IsPair h TO x y) ∨ ∃ T f p, IsZipHeld h z TI TO T f ∧ H T = some (.tup p))
section
variable {X : Cx} {pins : List (Addr × Obj)} {σ : L2.St} {H : Hp} {s : Shared} {z TI TO j1 j2 a b q : Addr} {i : Nat} {xs ys : List V} {x y : V} {A : Around}
theorem ZSt.keep {H' : Hp} {h h' : Heap} (st : ZSt H h z TI TO j1 j2 a b i) (k : ∀ c ∈ [z, TI, TO, j1, j2], ∀ o, h.get? c = some o → h'.get? c = some o) (t : ∀ T p, H T = some (.tup p) → H' T = some (.tup p)) : ZSt H' h' z TI TO j1 j2 a b i := by
  obtain ⟨c1, c2, c3, ⟨o0, c0⟩, c4⟩ := st
  refine ⟨k TI (by simp) _ c1, c2.at fun o e => k j1 (by simp) o e, c3.at fun o e => k j2 (by simp) o e, ⟨o0, k TO (by simp) _ c0⟩, ?_⟩
  rcases c4 with ⟨e, u, v, e2⟩ | ⟨T, f, p, e, e2⟩
  · exact .inl ⟨k z (by simp) _ e, u, v, k TO (by simp) _ e2⟩
  · exact .inr ⟨T, f, p, k z (by simp) _ e, t T p e2⟩
theorem zip_turn {E : Value → Shared → Prop} {Q : Option Value → Shared → Prop} (I : Inv X pins σ H s) (D : ZipApart z TI TO j1 j2 a b) (fp : ∀ c ∈ [z, TI, TO, j1, j2], FpOk X pins H c) (st : ZSt H s.heap z TI TO j1 j2 a b i)
    (qa : SqT X.K H a xs) (qb : SqT X.K H b ys) (ex : xs[i]? = some x) (ey : ys[i]? = some y)
    (k : ∀ T h', H T = none → (∀ c ∈ [z, TI, TO, j1, j2], T ≠ c) → Inv X pins σ (upd H T (.tup [x, y])) { s with heap := h' } → ZSt (upd H T (.tup [x, y])) h' z TI TO j1 j2 a b (i + 1) → Q (some (.ref T)) { s with heap := h' }) :
    wpAny (model X.prog X.w) A (pyNext (.ref z)) Q E s := by
  obtain ⟨P1, t1, t2, ⟨o0, c0⟩, c4⟩ := st
  obtain ⟨us, rv, pa, _⟩ := I.tuple qa
  obtain ⟨ws, rw_, pb, _⟩ := I.tuple qb
  obtain ⟨u, hu, ru⟩ := rv.get ex
  obtain ⟨v, hv, rw2⟩ := rw_.get ey
  have fr : H s.heap.objs.size = none := I.hok.fresh (Nat.le_refl _)
  have made : ∀ h', IsPair h' s.heap.objs.size u v → (∀ c o, c ∉ [z, TI, TO, j1, j2] → s.heap.get? c = some o → h'.get? c = some o) → Inv X pins σ (upd H s.heap.objs.size (.tup [x, y])) { s with heap := h' } := fun h' e kp =>
    I.turnedNew (t' := s.toks) (ch := [z, TI, TO, j1, j2]) kp fp (Nat.le_refl _) ⟨by show 2 ≤ sizeLine; decide, [u, v], .cons ru (.cons rw2 .nil), ⟨_, e, rfl, _, rfl⟩⟩
  have lt : ∀ {c o}, s.heap.get? c = some o → s.heap.objs.size ≠ c := fun e => Nat.ne_of_gt (Heap.lt_size e)
  have lt1 : s.heap.objs.size ≠ j1 := let ⟨_, e, _⟩ := t1; lt e
  have lt2 : s.heap.objs.size ≠ j2 := let ⟨_, e, _⟩ := t2; lt e
  rcases c4 with ⟨Z, u0, v0, P2⟩ | ⟨T0, f, p, Z, hT0⟩
  · refine RZ.pyNext_zipT_item D Z P1 P2 t1 t2 pa pb (x := u) (y := v) (by simpa using hu) (by simpa using hv) fun h' Z' P2' t1' t2' e _ kp => ?_
    refine k s.heap.objs.size h' fr ?_ (made h' e fun c o hc => kp c o (fun w => hc (by simp [w])) (fun w => hc (by simp [w])) (fun w => hc (by simp [w])) fun w => hc (by simp [w])) ⟨kp _ _ D.TIz D.TITO D.TIi1 D.TIi2 P1, t1', t2', ⟨_, P2'⟩, .inr ⟨_, false, _, Z', upd_same⟩⟩
    intro c hc
    simp only [List.mem_cons, List.not_mem_nil, or_false] at hc
    rcases hc with e | e | e | e | e
    · rw [e]; exact lt Z
    · rw [e]; exact lt P1
    · rw [e]; exact lt P2
    · rw [e]; exact lt1
    · rw [e]; exact lt2
  · obtain ⟨_, _, ⟨oT, eT, _⟩, _⟩ := I.tuple (show SqT X.K H T0 p from SqT.of hT0)
    refine GZ.py_item D Z eT P1 t1 t2 pa pb (x := u) (y := v) (by simpa using hu) (by simpa using hv) fun h' Z' t1' t2' e kp => ?_
    refine k s.heap.objs.size h' fr ?_ (made h' e fun c o hc => kp c o (fun w => hc (by simp [w])) (fun w => hc (by simp [w])) fun w => hc (by simp [w])) ⟨kp _ _ D.TIz D.TIi1 D.TIi2 P1, t1', t2', ⟨o0, kp _ _ D.TOz D.TOi1 D.TOi2 c0⟩, .inr ⟨T0, true, p, Z', by rw [upd_ne (ne_of_none hT0 fr)]; exact hT0⟩⟩
    intro c hc
    simp only [List.mem_cons, List.not_mem_nil, or_false] at hc
    rcases hc with e | e | e | e | e
    · rw [e]; exact lt Z
    · rw [e]; exact lt P1
    · rw [e]; exact lt c0
    · rw [e]; exact lt1
    · rw [e]; exact lt2
theorem zip_stop {E : Value → Shared → Prop} {Q : Option Value → Shared → Prop} (hh : A.handled = none) (I : Inv X pins σ H s) (D : ZipApart z TI TO j1 j2 a b) (fp : ∀ c ∈ [z, TI, TO, j1, j2], FpOk X pins H c) (st : ZSt H s.heap z TI TO j1 j2 a b i)
    (qa : SqT X.K H a xs) (qb : SqT X.K H b ys) (ex : xs.length ≤ i) (k : ∀ h', Inv X pins σ H { s with heap := h' } → Q none { s with heap := h' }) : wpAny (model X.prog X.w) A (pyNext (.ref z)) Q E s := by
  obtain ⟨P1, t1, t2, ⟨o0, c0⟩, c4⟩ := st
  obtain ⟨us, rv, pa, _⟩ := I.tuple qa
  obtain ⟨ws, rw_, pb, _⟩ := I.tuple qb
  have el := rv.length
  have no : us.toArray[i]? = none := by simp; omega
  rcases c4 with ⟨Z, u0, v0, P2⟩ | ⟨T0, f, p, Z, hT0⟩
  · exact RZ.pyNext_zipT_end hh D Z P1 P2 t1 t2 pa pb (.inl no) fun h' kp => k h' (I.turnedL (t' := s.toks) (ch := [z, TI, TO, j1, j2]) (fun c o hc => kp c o (fun w => hc (by simp [w])) (fun w => hc (by simp [w])) (fun w => hc (by simp [w])) fun w => hc (by simp [w])) fp)
  · obtain ⟨_, _, ⟨oT, eT, _⟩, _⟩ := I.tuple (show SqT X.K H T0 p from SqT.of hT0)
    exact GZ.py_end hh D Z eT P1 t1 pa no fun h' kp => k h' (I.turnedL (t' := s.toks) (ch := [z, TI, TO, j1, j2]) (fun c o hc => kp c o (fun w => hc (by simp [w])) (fun w => hc (by simp [w])) fun w => hc (by simp [w])) fp)
/-- the pairs at ts are those of xs and ys, as far as they go -/
def Pairs (H : Hp) (xs ys : List V) (ts : List Addr) : Prop := ∀ (j : Nat) (T : Addr) (x y : V), ts[j]? = some T → xs[j]? = some x → ys[j]? = some y → H T = some (.tup [x, y])
theorem zl_loop {Rs : Result → Shared → Prop} {H0 : Hp} (hh : A.in1.handled = none) (D : ZipApart z TI TO j1 j2 a b) (el : xs.length = ys.length) (sz : xs.length ≤ sizeLine) (qa : SqT X.K H0 a xs) (qb : SqT X.K H0 b ys) (fq : H0 q = none)
    (done : ∀ (ts : List Addr) (H : Hp) (s : Shared), Inv X pins σ H s → Same H0 H → H q = some (.lst (ts.map V.ref)) → ts.length = xs.length → Pairs H xs ys ts → Rs (.ok (.ret .none)) s) (err : ∀ e s, X.xe e s → Rs (.error e) s) :
    ∀ (m i : Nat) (ts : List Addr) (H : Hp) (s : Shared), m + i = xs.length → Inv X pins σ H s → (∀ c ∈ [z, TI, TO, j1, j2], FpOk X pins H c ∧ c ≠ q) → ZSt H s.heap z TI TO j1 j2 a b i → Same H0 H → H q = some (.lst (ts.map V.ref)) → ts.length = i → Pairs H xs ys ts →
      codeAny (model X.prog X.w) A (.builtin "list.extend.loop" ⟨[.ref q, .ref z, .none], []⟩) Rs s := by
  intro m
  induction m with
  | zero =>
    intro i ts H s hm I fp st sm hq hl hp
    refine codeAny_builtin PySem.F.entry_extend_loop ?_
    rw [Around.under_plainId PySem.F.plain_extend_loop]
    show wpAny (model X.prog X.w) A.in1 (pyNext (.ref z) >>= _) _ _ s
    refine wpAny_bind (zip_stop hh I D (fun c hc => (fp c hc).1) st (sm.seqT qa) (sm.seqT qb) (by omega) fun h' I' => wpAny_pure ?_)
    exact done ts H _ I' sm hq (by omega) hp
  | succ m ih =>
    intro i ts H s hm I fp st sm hq hl hp
    refine codeAny_builtin PySem.F.entry_extend_loop ?_
    rw [Around.under_plainId PySem.F.plain_extend_loop]
    show wpAny (model X.prog X.w) A.in1 (pyNext (.ref z) >>= _) _ _ s
    obtain ⟨x, ex⟩ : ∃ x, xs[i]? = some x := ⟨_, List.getElem?_eq_getElem (by omega)⟩
    obtain ⟨y, ey⟩ : ∃ y, ys[i]? = some y := ⟨_, List.getElem?_eq_getElem (by omega)⟩
    refine wpAny_bind (zip_turn I D (fun c hc => (fp c hc).1) st (sm.seqT qa) (sm.seqT qb) ex ey fun T h' fT nT I' st' => ?_)
    show wpAny (model X.prog X.w) A.in1 (updateSeq q (·.push (.ref T)) >>= _) _ _ _
    have nTq : q ≠ T := fun w => by rw [w, fT] at hq; cases hq
    have hq' : upd H T (.tup [x, y]) q = some (.lst (ts.map V.ref)) := by rw [upd_ne nTq]; exact hq
    obtain ⟨z0, its, n, r2, hl2, e⟩ := I'.lstM hq'
    rw [List.length_map] at hl2 z0
    have big : its.toArray.size < sizeLine := by rw [List.size_toArray]; omega
    refine wpAny_bind (wpAny_updateSeq e rfl (wpAny_pure ⟨plainId_quiet PySem.F.plain_extend_loop _, ?_⟩) (Nat.le_of_lt big) (by rw [Array.size_push]; omega))
    have I2 := I'.lset (its' := its ++ [.ref T]) (ys := (ts ++ [T]).map V.ref) (t' := s.toks) hq' e (f := (·.push (.ref T))) (by simp) (by rw [List.map_append]; exact r2.append (.cons rfl .nil)) (by rw [List.length_map, List.length_append, List.length_singleton]; omega)
    have sm1 : Same H (upd H T (.tup [x, y])) := same_new fT
    have sm2 : Same H0 (upd (upd H T (.tup [x, y])) q (.lst ((ts ++ [T]).map V.ref))) := same_put (sm.trans sm1) fq
    have keepT : ∀ T' p, H T' = some (.tup p) → upd (upd H T (.tup [x, y])) q (.lst ((ts ++ [T]).map V.ref)) T' = some (.tup p) := fun T' p e' => by
      rw [upd_ne (fun w => by rw [w, hq] at e'; cases e')]
      exact sm1 _ _ e'
    refine ih (i + 1) (ts ++ [T]) _ _ (by omega) I2 ?_ ?_ sm2 upd_same (by rw [List.length_append, hl]; rfl) ?_
    · intro c hc
      obtain ⟨⟨f1, f2⟩, nc⟩ := fp c hc
      exact ⟨⟨by rw [upd_ne nc, upd_ne (nT c hc).symm]; exact f1, f2⟩, nc⟩
    · refine st'.keep (fun c hc o e' => ?_) fun T' p e' => ?_
      · exact (Heap.get?_update_other _ _ (fp c hc).2.symm).trans e'
      · rw [upd_ne (fun w => by rw [w, hq'] at e'; cases e')]; exact e'
    · intro j T' x' y' h1 h2 h3
      by_cases hj : j < i
      · rw [List.getElem?_append_left (by omega)] at h1
        exact keepT _ _ (hp j T' x' y' h1 h2 h3)
      · have hj' : j = ts.length := by
          have := (List.getElem?_eq_some_iff.mp h1).1
          rw [List.length_append] at this
          simp at this
          omega
        rw [hj', List.getElem?_append_right (Nat.le_refl _), Nat.sub_self] at h1
        cases h1
        rw [hj', hl] at h2 h3
        rw [ex] at h2; rw [ey] at h3
        cases h2; cases h3
        rw [upd_ne nTq.symm]; exact upd_same
/-- list(z) of a zip that has not begun -/
theorem zip_list {Q : VK} (hh : X.A.handled = none) (I : Inv X pins σ H s) (D : ZipApart z TI TO j1 j2 a b) (fp : ∀ c ∈ [z, TI, TO, j1, j2], FpOk X pins H c) (st : ZSt H s.heap z TI TO j1 j2 a b 0) (Z : IsZip s.heap z TI TO .none)
    (qa : SqT X.K H a xs) (qb : SqT X.K H b ys) (el : xs.length = ys.length)
    (k : ∀ (q : Addr) (ts : List Addr) (H' : Hp), H q = none → Same H H' → H' q = some (.lst (ts.map V.ref)) → ts.length = xs.length → Pairs H' xs ys ts → Q (.ref q) H') :
    wpAny (model X.prog X.w) X.A (call (.type "list") [.ref z]) (EP X pins σ Q) X.xe s := by
  obtain ⟨_, _, _, sz⟩ := I.tuple qa
  have fr : H s.heap.objs.size = none := I.hok.fresh (Nat.le_refl _)
  have nq : ∀ c ∈ [z, TI, TO, j1, j2], c ≠ s.heap.objs.size := by
    obtain ⟨P1, ⟨_, t1, _⟩, ⟨_, t2, _⟩, ⟨o0, c0⟩, _⟩ := st
    intro c hc
    simp only [List.mem_cons, List.not_mem_nil, or_false] at hc
    rcases hc with e | e | e | e | e
    · rw [e]; exact Nat.ne_of_lt (Heap.lt_size Z)
    · rw [e]; exact Nat.ne_of_lt (Heap.lt_size P1)
    · rw [e]; exact Nat.ne_of_lt (Heap.lt_size c0)
    · rw [e]; exact Nat.ne_of_lt (Heap.lt_size t1)
    · rw [e]; exact Nat.ne_of_lt (Heap.lt_size t2)
  refine callType_codes (Q₁ := fun obj s1 => obj = .ref s.heap.objs.size ∧ s1 = { s with heap := s.heap.push { cls := .type "list", data := .seq #[] } }) PySem.F.called_list (PySem.F.typeCall_list_1 _) PySem.F.entry_list_init (code_list_new _ ⟨rfl, rfl⟩) fun obj s1 h1 => ?_
  obtain ⟨rfl, rfl⟩ := h1
  have eS : (s.heap.push { cls := .type "list", data := .seq #[] }).get? s.heap.objs.size = some { cls := .type "list", data := .seq #[] } := Heap.get?_push_size _ rfl
  refine ⟨⟨_, eS, rfl⟩, PySem.F.args_list_init_2 _ _, ?_⟩
  have I1 : Inv X pins σ (upd H s.heap.objs.size (.lst [])) { s with heap := s.heap.push { cls := .type "list", data := .seq #[] } } := I.lnew (its := []) (t' := s.toks) .nil (Nat.zero_le _)
  show wpAny (model X.prog X.w) _ (do let old ← Builtin.List.listItems (.ref s.heap.objs.size); Builtin.List.listUpdate (.ref s.heap.objs.size) (fun _ => #[]); letGo old.toList.reverse; Builtin.List.listExtendWith (.ref s.heap.objs.size) (.ref z) .none) _ _ _
  refine wpAny_bind ?_
  unfold Builtin.List.listItems
  refine wpAny_bind (wpAny_seqItems eS rfl (wpAny_pure ?_))
  show wpAny (model X.prog X.w) _ (updateSeq s.heap.objs.size (fun _ => #[]) >>= fun _ => letGo (#[] : Array Value).toList.reverse >>= fun _ => Builtin.List.listExtendWith (.ref s.heap.objs.size) (.ref z) .none) _ _ _
  refine wpAny_bind (wpAny_updateSeq eS rfl (wpAny_bind (wpAny_letGo ?_)))
  have I2 := I1.lset (f := fun _ => #[]) (its := []) (its' := []) (ys := []) (t' := s.toks) upd_same eS rfl .nil (Nat.zero_le _)
  rw [upd_upd] at I2
  have hq : upd H s.heap.objs.size (.lst []) s.heap.objs.size = some (.lst (([] : List Addr).map V.ref)) := upd_same
  have s0 : Same H (upd H s.heap.objs.size (.lst [])) := same_new fr
  have fp2 : ∀ c ∈ [z, TI, TO, j1, j2], FpOk X pins (upd H s.heap.objs.size (.lst [])) c ∧ c ≠ s.heap.objs.size := fun c hc => ⟨⟨by rw [upd_ne (nq c hc)]; exact (fp c hc).1, (fp c hc).2⟩, nq c hc⟩
  have st2 : ∀ h', (∀ c ∈ [z, TI, TO, j1, j2], ∀ o, s.heap.get? c = some o → h'.get? c = some o) → ZSt (upd H s.heap.objs.size (.lst [])) h' z TI TO j1 j2 a b 0 := fun h' kp => st.keep kp fun T p e => s0 _ _ e
  have kp2 : ∀ c ∈ [z, TI, TO, j1, j2], ∀ o, s.heap.get? c = some o → ((s.heap.push { cls := .type "list", data := .seq #[] }).update s.heap.objs.size (Obj.mapSeq fun _ => #[])).get? c = some o := fun c hc o e =>
    (Heap.get?_update_other _ _ (nq c hc).symm).trans (Heap.get?_push_of_some _ e)
  have Z2 := kp2 z (by simp) _ Z
  have ne : s.heap.objs.size ≠ z := (nq z (by simp)).symm
  have ty : ∀ tk, ({ s with heap := (s.heap.push { cls := .type "list", data := .seq #[] }).update s.heap.objs.size (Obj.mapSeq fun _ => #[]), toks := tk } : Shared).TypeIs (.ref z) "zip" := fun tk => ⟨_, Z2, rfl⟩
  have go : ∀ (h' : Heap) (t' : Nat), Inv X pins σ (upd H s.heap.objs.size (.lst [])) { s with heap := h', toks := t' } → (∀ c ∈ [z, TI, TO, j1, j2], ∀ o, s.heap.get? c = some o → h'.get? c = some o) →
      codeAny (model X.prog X.w) X.A.in1 (.builtin "list.extend.loop" ⟨[.ref s.heap.objs.size, .ref z, .none], []⟩) (wants (fun r s2 => r = .none ∧ EP X pins σ Q (.ref s.heap.objs.size) s2) X.xe) { s with heap := h', toks := t' } := fun h' t' I' kp =>
    zl_loop (A := X.A.in1) (H0 := H) (q := s.heap.objs.size) hh D el sz qa qb fr (fun ts H' s' I' sm hq' hl hp => ⟨rfl, .ref s.heap.objs.size, H', I', rfl, k _ ts H' fr sm hq' hl hp⟩) (fun e s' he => he) xs.length 0 [] _ _ (by omega) I' fp2 (st2 h' kp) s0 hq rfl (fun j T x y h => by cases h)
  unfold Builtin.List.listExtendWith
  refine wpAny_bind (wpAny_typeOf (ty s.toks) ?_)
  have n1 : Builtin.List.listSameRef (.ref s.heap.objs.size) (.ref z) = false := by simp [Builtin.List.listSameRef, ne]
  have n2 : (Value.type "zip" == Value.type "list") = false := by decide
  have n3 : (Value.type "zip" == Value.type "tuple") = false := by decide
  simp only [n1, n2, n3, Bool.or_false, Bool.false_eq_true, if_false]
  refine wpAny_bind (wpAny_pyIter_zip Z2 (wpAny_bind (wpAny_holding (GZ.zip_hint (ty s.toks) ?_))))
  refine wpAny_ite_split (fun _ => ?_) (fun w => absurd rfl w)
  obtain ⟨z0, its, n, r3, hl3, e3⟩ := I2.lstM upd_same
  cases r3
  refine wpAny_bind (wpAny_rule (wpAny_bind ?_))
  show wpAny (model X.prog X.w) _ (updateSeq s.heap.objs.size (·.push .none) >>= fun _ => updateSeq s.heap.objs.size (·.pop)) _ _ _
  refine wpAny_bind (wpAny_updateSeq e3 rfl ?_)
  have I3 := I2.lset (f := (·.push Value.none)) (its' := [Value.none]) (ys := [.non]) (t' := s.toks) upd_same e3 (by simp) (.cons rfl .nil) (by rw [List.length_singleton, sizeLine_eq]; decide)
  obtain ⟨z4, its4, n4, r4, hl4, e4⟩ := I3.lstM upd_same
  obtain ⟨u4, rfl, ru4⟩ := r4.one
  refine wpAny_updateSeq e4 rfl ?_ (by show 1 ≤ sizeLine; rw [sizeLine_eq]; decide) (by show 0 ≤ sizeLine + 1; exact Nat.zero_le _)
  have I4 := I3.lset (f := (·.pop)) (its := [u4]) (its' := []) (ys := []) (t' := s.toks) upd_same e4 (by rfl) .nil (Nat.zero_le _)
  rw [upd_upd, upd_upd] at I4
  refine wpAny_pure ⟨plainId_quiet PySem.F.plain_extend_loop _, go _ _ I4 fun c hc o e => ?_⟩
  have nc := (nq c hc).symm
  exact (Heap.get?_update_other _ _ nc).trans ((Heap.get?_update_other _ _ nc).trans (kp2 c hc o e))
end
/-- list(zip(a, b)) -/
def tLz (K : PySem.W.Frag) (ta : TA) : TE := fun σ H Q => ta σ H fun vs H1 => ∃ a b xs ys, vs = [.ref a, .ref b] ∧ SqT K H1 a xs ∧ SqT K H1 b ys ∧ xs.length = ys.length ∧
  ∀ (q : Addr) (ts : List Addr) (H' : Hp), H1 q = none → Same H1 H' → H' q = some (.lst (ts.map V.ref)) → ts.length = xs.length → Pairs H' xs ys ts → Q (.ref q) H'
theorem pe_listZip {X : Cx} {e e2 : Expr} {ta : TA} {p p2 pos pos2 : Pos} (hc : X.calm = true) (hg : Gl X "list") (hm : X.mg "list" = none) (hg2 : Gl X "zip") (hm2 : X.mg "zip" = none) (ha : PA X [e, e2] ta)
    (hs : starEach [e, e2] X.env = (false, eval e X.env) :: starEach [e2] X.env := by rfl) (hpl : (backTo pos2 (starEach [e2] X.env)).any (·.1) = false := by rfl)
    (na : starEach [.Call (.Name "zip" p2) [e, e2] [] pos2] X.env = (false, eval (.Call (.Name "zip" p2) [e, e2] [] pos2) X.env) :: starEach [] X.env := by rfl) :
    PE X (.Call (.Name "list" p) [.Call (.Name "zip" p2) [e, e2] [] pos2] [] pos) (tLz X.K ta) := by
  refine ⟨fun pins s σ H Q I h => ?_⟩
  refine Call_ (ld_blt I hg hm boot_list (PyProof.Rows.callWith_type1 (args_cons (Call_ (ld_blt I hg2 hm2 PyProof.Rows.boot_zip (PyProof.Rows.callWith_type1 (thn (ha.run pos2 pins s σ H _ I h) fun us s1 ⟨vs, H1, I1, r1, q1⟩ => ?_) hs hpl))) na) na))
  obtain ⟨a, b, xs, ys, ex, qa, qb, el, k⟩ := q1
  subst ex
  cases r1 with
  | cons ra rr =>
    cases rr with
    | cons rb rr =>
      cases rr
      cases ra
      cases rb
      obtain ⟨its, rv, p1, _⟩ := I1.tuple qa
      obtain ⟨its2, rv2, p3, _⟩ := I1.tuple qb
      obtain ⟨o1, ho1, _⟩ := id p1
      obtain ⟨o2, ho2, _⟩ := id p3
      refine RZ.call_zipT (show s1.heap.IsTuple a its.toArray from p1) (show s1.heap.IsTuple b its2.toArray from p3) fun h' Z P1 P2 t1 t2 _ kp => args_nil ?_
      have I2 : Inv X pins σ H1 { s1 with heap := h' } := I1.kept (t' := s1.toks) kp
      refine zip_list (I2.ok.hd hc) I2 (PySem.W.ktu_apart s1.heap.objs.size a b (Heap.lt_size ho1) (Heap.lt_size ho2)) (fun c hcm => ?_) ⟨P1, t1, t2, ⟨_, P2⟩, .inl ⟨Z, _, _, P2⟩⟩ Z qa qb el k
      have hle : s1.heap.objs.size ≤ c := by
        simp only [List.mem_cons, List.not_mem_nil, or_false] at hcm
        rcases hcm with w | w | w | w | w
        · rw [w]; exact Nat.le_add_right _ _
        · rw [w]; exact Nat.le_add_right _ _
        · rw [w]; exact Nat.le_add_right _ _
        · rw [w]; exact Nat.le_refl _
        · rw [w]; exact Nat.le_add_right _ _
      exact I1.fpOk hle (I1.hok.fresh hle)
end L2
namespace L2
open PySem PySem.Spec PyProof.Rows StX
/-- text * n -/
def rMulS : R2 := fun x y H Q => ∃ z n, x = .str z ∧ y = .int n ∧ MulOk z n ∧ Q (.str (Txt.mul z n)) H
theorem op_mul_str {X : Cx} : OpR X (binaryOp .Mult) rMulS := by
  intro pins s σ H x y v u Q I rx ry h
  obtain ⟨z, n, rfl, rfl, ok, q⟩ := h
  obtain ⟨t, rfl⟩ := rx
  obtain ⟨t', rfl⟩ := ry
  exact SB.mul ok fun t' tk => ⟨.str (Txt.mul z n), H, I.tok _, ⟨_, rfl⟩, q⟩
/-- str(x) of an integer or a text -/
def rStr2 : List V → Hp → VK → Prop := fun xs H Q => (∃ i, xs = [.int i] ∧ i.natAbs.log2 < 1920 ∧ Q (.str (toString i)) H) ∨ ∃ a, xs = [.str a] ∧ Q (.str a) H
theorem call_str2 {X : Cx} : CallR X (.type "str") rStr2 := by
  intro pins s σ H xs us Q I r h
  rcases h with h | h
  · exact call_str_int _ _ _ _ _ _ _ I r h
  · exact SkE.call_str_str _ _ _ _ _ _ _ I r h
end L2
namespace GN
open PySem TL L2
/-! ### notes in memory -/
mutual
def NoteAt (H : Hp) : N → V → Prop
  | .non, v => v = .non
  | .wrd w, v => v = .str ⟨w.toArray⟩
  | .num i, v => v = .int i
  | .tup ns, v => ∃ (a : Addr) (vs : List V), v = .ref a ∧ H a = some (.tup vs) ∧ NotesAt H ns vs
def NotesAt (H : Hp) : List N → List V → Prop
  | [], vs => vs = []
  | n :: ns, vs => ∃ v r, vs = v :: r ∧ NoteAt H n v ∧ NotesAt H ns r
end
def Tups (H H' : Hp) : Prop := ∀ (a : Addr) xs, H a = some (.tup xs) → H' a = some (.tup xs)
theorem Tups.refl {H : Hp} : Tups H H := fun _ _ h => h
theorem Tups.trans {H H1 H2 : Hp} (a : Tups H H1) (b : Tups H1 H2) : Tups H H2 := fun x y h => b x y (a x y h)
theorem tups_same {H H' : Hp} (s : Same H H') : Tups H H' := fun a xs h => s a _ h
theorem tups_put {H H' : Hp} {l : Addr} {xs ys : List V} (t : Tups H H') (h : H' l = some (.lst xs)) : Tups H (upd H' l (.lst ys)) := fun a zs e => by
  have e' := t a zs e
  rw [upd_ne (fun z => by rw [z, h] at e'; cases e')]
  exact e'
theorem tups_nw {H H' : Hp} {l : Addr} {o : HO} (t : Tups H H') (h : H' l = none) : Tups H (upd H' l o) := t.trans (tups_same (same_new h))
theorem tups_but {H H' : Hp} {p : Addr} {xs : List V} (s : SameBut p H H') (h : H p = some (.lst xs)) : Tups H H' := fun a ys e => s a _ (fun z => by rw [z, h] at e; cases e) e
mutual
theorem NoteAt.mono {H H' : Hp} (t : Tups H H') : ∀ {n : N} {v : V}, NoteAt H n v → NoteAt H' n v
  | .non, _, h => h
  | .wrd _, _, h => h
  | .num _, _, h => h
  | .tup ns, _, h => by
    obtain ⟨a, vs, e, ha, hs⟩ := h
    exact ⟨a, vs, e, t a vs ha, NotesAt.mono t hs⟩
theorem NotesAt.mono {H H' : Hp} (t : Tups H H') : ∀ {ns : List N} {vs : List V}, NotesAt H ns vs → NotesAt H' ns vs
  | [], _, h => h
  | n :: ns, _, h => by
    obtain ⟨v, r, e, h1, h2⟩ := h
    exact ⟨v, r, e, NoteAt.mono t h1, NotesAt.mono t h2⟩
end
theorem NotesAt.len {H : Hp} : ∀ {ns : List N} {vs : List V}, NotesAt H ns vs → vs.length = ns.length
  | [], _, h => by rw [(show _ = [] from h)]; rfl
  | n :: ns, _, h => by
    obtain ⟨v, r, e, _, h2⟩ := h
    rw [e, List.length_cons, List.length_cons, NotesAt.len h2]
theorem NotesAt.get {H : Hp} : ∀ {ns : List N} {vs : List V} {i : Nat} {v : V}, NotesAt H ns vs → vs[i]? = some v → ∃ n, ns[i]? = some n ∧ NoteAt H n v
  | [], _, _, _, h, e => by rw [(show _ = [] from h)] at e; cases e
  | n :: ns, _, 0, _, h, e => by
    obtain ⟨u, r, rfl, h1, _⟩ := h
    cases e
    exact ⟨n, rfl, h1⟩
  | n :: ns, _, i + 1, _, h, e => by
    obtain ⟨u, r, rfl, _, h2⟩ := h
    have ih := NotesAt.get (i := i) h2 (show r[i]? = some _ from e)
    exact ih
theorem NotesAt.snoc {H : Hp} {n : N} {v : V} (hv : NoteAt H n v) : ∀ {ns : List N} {vs : List V}, NotesAt H ns vs → NotesAt H (ns ++ [n]) (vs ++ [v])
  | [], _, h => by rw [(show _ = [] from h)]; exact ⟨v, [], rfl, hv, rfl⟩
  | m :: ns, _, h => by
    obtain ⟨u, r, rfl, h1, h2⟩ := h
    exact ⟨u, r ++ [v], rfl, h1, NotesAt.snoc hv h2⟩
end GN
namespace GN
open PySem TL L2
/-! ### pairs of two notes that are alike -/
def PairAt (H : Hp) (n : N) (v : V) : Prop := ∃ (T : Addr) (x y : V), v = .ref T ∧ H T = some (.tup [x, y]) ∧ NoteAt H n x ∧ NoteAt H n y
def PrsAt (H : Hp) : List N → List V → Prop
  | [], vs => vs = []
  | n :: ns, vs => ∃ v r, vs = v :: r ∧ PairAt H n v ∧ PrsAt H ns r
theorem PairAt.mono {H H' : Hp} (t : Tups H H') {n : N} {v : V} (h : PairAt H n v) : PairAt H' n v := by
  obtain ⟨T, x, y, e, hT, hx, hy⟩ := h
  exact ⟨T, x, y, e, t _ _ hT, hx.mono t, hy.mono t⟩
theorem PrsAt.mono {H H' : Hp} (t : Tups H H') : ∀ {ns : List N} {vs : List V}, PrsAt H ns vs → PrsAt H' ns vs
  | [], _, h => h
  | _ :: _, _, h => by
    obtain ⟨v, r, e, h1, h2⟩ := h
    exact ⟨v, r, e, h1.mono t, PrsAt.mono t h2⟩
theorem PrsAt.app {H : Hp} {ms : List N} {us : List V} (hu : PrsAt H ms us) : ∀ {ns : List N} {vs : List V}, PrsAt H ns vs → PrsAt H (ns ++ ms) (vs ++ us)
  | [], _, h => by rw [(show _ = [] from h)]; exact hu
  | n :: ns, _, h => by
    obtain ⟨v, r, rfl, h1, h2⟩ := h
    exact ⟨v, r ++ us, rfl, h1, PrsAt.app hu h2⟩
theorem PrsAt.last {H : Hp} {v : V} : ∀ {ns : List N} {r : List V}, PrsAt H ns (r ++ [v]) → ∃ ns' n, ns = ns' ++ [n] ∧ PrsAt H ns' r ∧ PairAt H n v
  | [], r, h => absurd (show r ++ [v] = [] from h) (by simp)
  | n :: ns, [], h => by
    obtain ⟨u, q, e, h1, h2⟩ := h
    injection e with e1 e2
    subst e1 e2
    cases ns with
    | nil => exact ⟨[], n, rfl, rfl, h1⟩
    | cons m ms => obtain ⟨_, _, e, _⟩ := h2; cases e
  | n :: ns, w :: r, h => by
    obtain ⟨u, q, e, h1, h2⟩ := h
    injection e with e1 e2
    subst e1 e2
    obtain ⟨ns', m, e, h3, h4⟩ := PrsAt.last h2
    exact ⟨n :: ns', m, by rw [e]; rfl, ⟨w, r, rfl, h1, h3⟩, h4⟩
theorem PrsAt.len {H : Hp} : ∀ {ns : List N} {vs : List V}, PrsAt H ns vs → vs.length = ns.length
  | [], _, h => by rw [(show _ = [] from h)]; rfl
  | n :: ns, _, h => by
    obtain ⟨v, r, e, _, h2⟩ := h
    rw [e, List.length_cons, List.length_cons, PrsAt.len h2]
theorem szs_app : ∀ (a b : List N), N.szs (a ++ b) = N.szs a + N.szs b
  | [], b => by simp [N.szs]
  | n :: a, b => by simp only [List.cons_append, N.szs, szs_app a b]; omega
theorem sz_pos : ∀ n : N, 1 ≤ n.sz
  | .non => Nat.le_refl _
  | .wrd _ => Nat.le_refl _
  | .num _ => Nat.le_refl _
  | .tup ns => by simp only [N.sz]; omega
theorem len_szs : ∀ ns : List N, ns.length ≤ N.szs ns
  | [] => Nat.le_refl _
  | n :: ns => by
    have := len_szs ns
    have := sz_pos n
    simp only [N.szs, List.length_cons]; omega
theorem prs_of {H : Hp} : ∀ {ns : List N} {xs ys : List V} {ts : List Addr}, NotesAt H ns xs → NotesAt H ns ys → ts.length = xs.length → Pairs H xs ys ts → PrsAt H ns (ts.map V.ref)
  | [], xs, _, ts, hx, _, hl, _ => by
    rw [(show xs = [] from hx)] at hl
    rw [List.length_eq_zero_iff.mp hl]; rfl
  | n :: ns, _, _, ts, hx, hy, hl, hp => by
    obtain ⟨x, xr, rfl, hx1, hx2⟩ := hx
    obtain ⟨y, yr, rfl, hy1, hy2⟩ := hy
    cases ts with
    | nil => simp at hl
    | cons T ts =>
      refine ⟨.ref T, ts.map V.ref, rfl, ⟨T, x, y, rfl, hp 0 T x y rfl rfl rfl, hx1, hy1⟩, ?_⟩
      exact prs_of hx2 hy2 (by simpa using hl) fun j T' x' y' h1 h2 h3 => hp (j + 1) T' x' y' h1 h2 h3
end GN
/-! a classmethod: called off its class (in a try's body too), and the class made by the name that holds it; f'..' -/
namespace L2
open PySem PySem.Spec PyProof.Rows StX
section
variable {P : Program} {w : World} {K : PySem.W.Frag} {mg : Str → Option Value} {base : Heap} {CX : CXT} {k : Nat} {f : Addr} {sp : Sp}
theorem FnOk.toR {fd : FuncData} {ps : List Str} (F : FnOk P w K mg base CX k f fd ps sp) (hb : Binds K fd ps []) : FnR P w K mg base CX k f sp :=
  (F.raw hb .nil).imp fun vs H Q E h => by rw [List.append_nil]; exact h
end
section
variable {X : Cx} {CX : CXT} {k i : Nat} {f C p g q : Addr} {mc : Value} {fd : FuncData} {ps : List Str} {sp : Sp} {dvs : List V} {ds : List Value} {x m : Str} {pos apos xp : Pos} {e o : Expr} {es : List Expr} {ta : TE} {t : TA} {pl : Sem Bool}
/-- cls(..): the i-th slot holds the class at C -/
def tMakeL (i : Nat) (C : Addr) (sp : Sp) (dvs : List V) (E : XK) (t : TA) : TE := fun σ H Q => σ[i]? = some (some (.ref C)) ∧ tMake C sp dvs E t σ H Q
theorem pe_mkL {E : XK} (hN : X.N[i]? = some x) (hv : Vis X.env.scope x) (M : Mk X.K C f) (F : FnOk X.prog X.w X.K X.mg X.base CX k f fd ps sp) (hr : Room (k + 1) X.A) (hb : Binds X.K fd ps ds) (hd : Vals dvs ds) (hx : Passes CX X E) (ha : PA X (e :: es) t)
    (hdb : (x == ("__debug__" : Str)) = false := by decide) (hcd : (x == ("__classdict__" : Str)) = false := by decide)
    (he : starEach (e :: es) X.env = (false, eval e X.env) :: starEach es X.env := by rfl) (hpl : (backTo pos (starEach es X.env)).any (·.1) = false := by rfl) : PE X (.Call (.Name x xp) (e :: es) [] pos) (tMakeL i C sp dvs E t) := by
  refine ⟨fun pins s σ H Q I h => ?_⟩
  obtain ⟨hs, ht⟩ := h
  refine wpAny_Call_Name_kw (thn ((pe_var (pos := xp) hN hv hdb hcd).run pins s σ H (fun v H1 => v = .ref C ∧ H1 = H) I ⟨.ref C, hs, rfl, rfl⟩) fun u s1 ⟨v, H1, I1, r1, q1⟩ => ?_)
  obtain ⟨rfl, rfl⟩ := q1
  cases r1
  refine PySem.W.callWith_K (h₀ := X.base) I1.ok.mod.kin M.kp (thn (ha.run pos pins s1 σ _ _ I1 ht) fun us s2 ⟨vs, H2, I2, r, q⟩ => ⟨I2.kIn, ?_⟩) he hpl
  exact run_make M F hr hb hd hx I2 r q
theorem run_fnRT {pins : List (Addr × Obj)} {σ : St} {H : Hp} {s : Shared} {E : XK} {Q : VK} {us : List Value} {vs : List V} (F : FnR X.prog X.w X.K X.mg X.base CX k f sp) (hr : Room k X.A) (hx : PassesAt CX X σ E) (I : Inv X pins σ H s) (r : Vals vs us) (h : sp vs H Q E) :
    codeAny (model X.prog X.w) X.A (.call (.ref f) ⟨us, []⟩) (fun r s' => match r with | .ok (.ret v) => EP X pins σ Q v s' | .ok _ => False | .error e => X.xe e s') s := by
  refine codeAny_mono (F X.A X.stack s H us vs Q E hr I.env0 r h) fun r s' hq => ?_
  cases r with
  | error e => exact hx pins H s e s' I hq
  | ok fl =>
    cases fl with
    | ret u => exact I.after hq
    | next => exact False.elim hq
    | brk => exact False.elim hq
    | cont => exact False.elim hq
theorem run_cmT {pins : List (Addr × Obj)} {σ : St} {H : Hp} {s : Shared} {E : XK} {Q : VK} {us : List Value} {vs : List V} (F : FnR X.prog X.w X.K X.mg X.base CX k g sp) (hr : Room k X.A) (hx : PassesAt CX X σ E) (I : Inv X ((q, PySem.W.methodObj (.ref g) (.ref C)) :: pins) σ H s)
    (r : Vals vs us) (h : sp (.ref C :: vs) H Q E) : wpAny (model X.prog X.w) X.A (call (.ref q) us) (EP X pins σ Q) X.xe s := by
  have z : wpAny (model X.prog X.w) X.A (call (.ref q) us) (EP X ((q, PySem.W.methodObj (.ref g) (.ref C)) :: pins) σ Q) X.xe s :=
    wpAny_call (PySem.W.method_call (ClX.pin_at I) (run_fnRT (us := .ref C :: us) (vs := .ref C :: vs) F hr hx I (.cons rfl r) h))
  exact thn z fun _ _ y => ClX.unpinE y
/-- e.m(..) in a try's body, e the class at C, m a classmethod -/
def tCMethT (C : Addr) (sp : Sp) (E : St → XK) (ta : TE) (t : TA) : TE := fun σ H Q => ta σ H fun x H1 => x = .ref C ∧ t σ H1 fun vs H2 => sp (.ref C :: vs) H2 Q (E σ)
theorem pe_cmethT {E : St → XK} (he : PE X o ta) (r : ClX.CRead X.K C mc) (c : ClX.CMet X.K C mc m p g) (F : FnR X.prog X.w X.K X.mg X.base CX k g sp) (hr : Room k X.A) (hx : ∀ σ, PassesAt CX X σ (E σ)) (ha : PA X (e :: es) t)
    (hst : starEach (e :: es) X.env = (false, eval e X.env) :: starEach es X.env := by rfl) (hpl : (backTo pos (starEach es X.env)).any (·.1) = false := by rfl)
    (ht : eval (.Call (.Attribute o m apos) (e :: es) [] pos) X.env = (do
      let ov ← eval o X.env
      standAt apos.atName
      let (f, first) ← holding [ov] (getMethod ov m pl)
      callWith pos f first (backTo pos (starEach (e :: es) X.env)) (backToKw pos (keywordEach [] X.env))) := by rfl) :
    PE X (.Call (.Attribute o m apos) (e :: es) [] pos) (tCMethT C sp E ta t) := by
  refine ⟨fun pins s σ H Q I h => ?_⟩
  refine PySem.W.methodCall_KW (pl := pl) (thn (he.run pins s σ H _ I h) fun u s1 ⟨x, H1, I1, rx, ex, q⟩ => ?_) ht
  subst ex
  obtain rfl : u = Value.ref C := rx
  refine ClX.getmethcm_ok I1 r c fun s2 I2 => ?_
  refine ClX.callwith_cm I2 (ClX.base_none I1 (Nat.le_refl _)) c.fi (thn (ha.run pos _ s2 σ H1 _ I2 q) fun us s3 ⟨vs, H2, I3, rv, q2⟩ => ⟨⟨ClX.pin_at I3, I3.kIn⟩, ?_⟩) hst hpl
  exact run_cmT F hr (hx σ) I3 rv q2
end
end L2
namespace L2
open PySem PySem.Spec PyProof.Rows StX
theorem for_txt {t : List Nat} {g : TG} {tb : TS} {D : Ends} {σ : St} {H : Hp} (Pv : Nat → St → Hp → Prop) (h0 : Pv 0 σ H)
    (hs : ∀ (i c : Nat) σ H, t[i]? = some c → Pv i σ H → g (.str ⟨#[c]⟩) σ H fun σ2 H2 => tb { D with nx := Pv (i + 1), ct := Pv (i + 1), bk := D.nx } σ2 H2) (hd : ∀ σ H, Pv t.length σ H → D.nx σ H) :
    ∃ W : Nat → Nat → St → Hp → Prop, (∃ m, W 0 m σ H) ∧ ∀ i m σ H, W i m σ H →
      ((Its (SX.S t)).stop i H ∧ D.nx σ H) ∨ ((Its (SX.S t)).go i H ∧ ∃ N : St → Hp → Prop, (∀ σ' H', N σ' H' → ∃ m', m' < m ∧ W (i + 1) m' σ' H') ∧ ∀ v H', (Its (SX.S t)).yld i H v H' → g v σ H' fun σ2 H2 => tb { D with nx := N, ct := N, bk := D.nx } σ2 H2) := by
  have hsz : (SX.S t).cps.size = t.length := by simp
  refine ⟨fun i m σ H => m = t.length - i ∧ i ≤ t.length ∧ Pv i σ H, ⟨t.length, by simp, Nat.zero_le _, h0⟩, ?_⟩
  rintro i m σ H ⟨rfl, hi, hP⟩
  by_cases h : i < t.length
  · refine .inr ⟨(show i < (SX.S t).cps.size by rw [hsz]; exact h), Pv (i + 1), fun σ' H' hN => ⟨t.length - (i + 1), by omega, rfl, by omega, hN⟩, ?_⟩
    rintro v H' ⟨rfl, c, hc, rfl⟩
    exact hs i c σ H' (by simpa using hc) hP
  · have e : i = t.length := by omega
    subst e
    exact .inl ⟨(show (SX.S t).cps.size ≤ t.length by rw [hsz]; exact Nat.le_refl _), hd σ H hP⟩
theorem lc_txt {t : List Nat} {g : TG} {tt : TT} {te : TE} {vs : List Nat} {σ : St} {H1 : Hp} {D : Addr} {Qd : Hp → Prop} (Pv : Nat → Hp → Prop) (h0 : Pv 0 (upd H1 D (.lst [])))
    (hs : ∀ i c H, t[i]? = some c → Pv i H → g (.str ⟨#[c]⟩) (wipe σ vs) H fun σ2 H2 => wipe σ2 vs = wipe σ vs ∧ tt σ2 H2 fun b H3 =>
      if b = true then te σ2 H3 fun y H4 => ∃ acc, H4 D = some (.lst acc) ∧ acc.length < sizeLine ∧ Pv (i + 1) (upd H4 D (.lst (acc ++ [y]))) else Pv (i + 1) H3) (hd : ∀ H, Pv t.length H → Qd H) :
    ∃ W : Nat → Nat → Hp → Prop, (∃ m, W 0 m (upd H1 D (.lst []))) ∧ ∀ i m H, W i m H →
      ((Its (SX.S t)).stop i H ∧ Qd H) ∨ ((Its (SX.S t)).go i H ∧ ∃ Nx : Hp → Prop, (∀ H', Nx H' → ∃ m', m' < m ∧ W (i + 1) m' H') ∧ ∀ x H', (Its (SX.S t)).yld i H x H' → g x (wipe σ vs) H' fun σ2 H2 => wipe σ2 vs = wipe σ vs ∧ tt σ2 H2 fun b H3 =>
        if b = true then te σ2 H3 fun y H4 => ∃ acc, H4 D = some (.lst acc) ∧ acc.length < sizeLine ∧ Nx (upd H4 D (.lst (acc ++ [y]))) else Nx H3) := by
  have hsz : (SX.S t).cps.size = t.length := by simp
  refine ⟨fun i m H => m = t.length - i ∧ i ≤ t.length ∧ Pv i H, ⟨t.length, by simp, Nat.zero_le _, h0⟩, ?_⟩
  rintro i m H ⟨rfl, hi, hP⟩
  by_cases h : i < t.length
  · refine .inr ⟨(show i < (SX.S t).cps.size by rw [hsz]; exact h), Pv (i + 1), fun H' hN => ⟨t.length - (i + 1), by omega, rfl, by omega, hN⟩, ?_⟩
    rintro v H' ⟨rfl, c, hc, rfl⟩
    exact hs i c H' (by simpa using hc) hP
  · have e : i = t.length := by omega
    subst e
    exact .inl ⟨(show (SX.S t).cps.size ≤ t.length by rw [hsz]; exact Nat.le_refl _), hd H hP⟩
end L2
namespace GR
open PySem TL GN SX NumText
/-- the text of a share -/
def txt (a b : Int) : List Nat := if b = 1 then numT a else numT a ++ 47 :: numT b
structure Canon (t : List Nat) (a b : Int) : Prop where
  e : t = txt a b
  pos : 1 ≤ b
  cop : Nat.gcd a.natAbs b.natAbs = 1
def isD (w : List Nat) : Bool := decide (w ≠ []) && w.all fun c => decide (c ∈ digs)
def lead (w : List Nat) : Bool := isD w && !(decide (1 < w.length) && decide (w[0]? = some 48))
theorem isD_iff {w : List Nat} : isD w = true ↔ w ≠ [] ∧ AllDigits w := by
  unfold isD
  rw [Bool.and_eq_true, decide_eq_true_iff, List.all_eq_true]
  exact and_congr Iff.rfl ⟨fun h c hc => digs_range (of_decide_eq_true (h c hc)), fun h c hc => decide_eq_true (digs_of (h c hc))⟩
theorem isD_num (m : Nat) : isD (numL m) = true := isD_iff.mpr ⟨numL_ne m, numL_digits m⟩
theorem lead_num (m : Nat) : lead (numL m) = true := by
  unfold lead
  rw [isD_num]
  by_cases h : m = 0
  · subst h; rw [numL_zero]; decide
  · obtain ⟨c, r, e, h1, h2⟩ := numL_head m (by omega)
    rw [e]
    have : ¬ (c :: r)[0]? = some 48 := by simp; omega
    rw [decide_eq_false this]; simp
theorem lead_back {w : List Nat} (h : lead w = true) : isD w = true ∧ numL (digitsVal w) = w := by
  unfold lead at h
  rw [Bool.and_eq_true] at h
  obtain ⟨hd, hz⟩ := h
  obtain ⟨hne, hall⟩ := isD_iff.mp hd
  refine ⟨hd, ?_⟩
  cases w with
  | nil => exact absurd rfl hne
  | cons c r =>
    have hr := hall.head
    have q : r.length = 0 ∨ ∃ c' r', c :: r = c' :: r' ∧ 49 ≤ c' := by
      by_cases hl : r.length = 0
      · exact .inl hl
      · right
        refine ⟨c, r, rfl, ?_⟩
        have hn : ¬ (c :: r)[0]? = some 48 := fun e => by
          rw [decide_eq_true e, decide_eq_true (show 1 < (c :: r).length by simp only [List.length_cons]; omega)] at hz
          cases hz
        have hc : c ≠ 48 := fun e => hn (by simp [e])
        omega
    unfold numL
    rw [toDigits_digitsVal r.length (c :: r) rfl hall q, List.map_map]
    have : ∀ l : List Nat, AllDigits l → l.map (Char.toNat ∘ Char.ofNat) = l := by
      intro l hl
      induction l with
      | nil => rfl
      | cons d l ih =>
        have hd := hl.head
        rw [List.map_cons, ih hl.tail]
        congr 1
        have : ∀ k : Fin 10, (Char.toNat ∘ Char.ofNat) (48 + k.val) = 48 + k.val := by decide
        have e := this ⟨d - 48, by omega⟩
        have z : 48 + (d - 48) = d := by omega
        rw [z] at e
        exact e
    exact this _ hall
theorem numT_pos {a : Int} (h : 0 ≤ a) : numT a = numL a.natAbs := by
  obtain ⟨m, rfl⟩ : ∃ m : Nat, a = (m : Int) := ⟨a.natAbs, by omega⟩
  rw [numT_nat]; rfl
theorem numT_ng {a : Int} (h : a < 0) : numT a = 45 :: numL a.natAbs := by
  obtain ⟨m, rfl⟩ : ∃ m : Nat, a = -(m : Int) := ⟨a.natAbs, by omega⟩
  rw [numT_neg m (by omega), Int.natAbs_neg]; rfl
theorem numT_free (a : Int) : 47 ∉ numT a := by
  rcases Int.lt_or_le a 0 with h | h
  · rw [numT_ng h]
    intro hm
    rcases List.mem_cons.mp hm with e | hm
    · exact absurd e (by decide)
    · exact numL_free (by decide) hm
  · rw [numT_pos h]; exact numL_free (by decide)
/-- the text without a sign at its head -/
def body (t : List Nat) : List Nat := if t[0]? = some 45 then t.drop 1 else t
theorem body_num (a : Int) (r : List Nat) : body (numT a ++ r) = numL a.natAbs ++ r ∧ ((numT a ++ r)[0]? = some 45 ↔ a < 0) := by
  rcases Int.lt_or_le a 0 with h | h
  · rw [numT_ng h]
    exact ⟨rfl, by simp [h]⟩
  · rw [numT_pos h]
    have hh : ¬ (numL a.natAbs ++ r)[0]? = some 45 := by
      by_cases h0 : a.natAbs = 0
      · rw [h0, numL_zero]; simp
      · obtain ⟨c, s, e, h1, h2⟩ := numL_head a.natAbs (by omega)
        rw [e]; simp; omega
    refine ⟨?_, ?_⟩
    · unfold body; rw [if_neg hh]
    · constructor
      · intro e; exact absurd e hh
      · intro e; omega
theorem body_num0 (a : Int) : body (numT a) = numL a.natAbs := by have := (body_num a []).1; simpa using this
theorem minus : Str.ofString "-" = S [45] := by decide +kernel
theorem slash : Str.ofString "/" = S [47] := by decide +kernel
theorem rmp (t : List Nat) : Txt.removeprefix (S t) (Str.ofString "-") = S (body t) := by
  have e := StrLaws.removeprefix_eq (S t) (S [45])
  rw [minus, e]
  have key : (decide (0 + (S [45]).length ≤ (S t).length) && Builtin.Str.subAt (S t) (S [45]) 0) = decide (t[0]? = some 45) := by
    have h := TL.at_iff (x := S t) (y := S [45]) (by simp [TL.tl]) 0
    unfold StrLaws.At at h
    cases t with
    | nil => rfl
    | cons c r =>
      have h2 : (0 + (S [45]).length ≤ (S (c :: r)).length ∧ Builtin.Str.subAt (S (c :: r)) (S [45]) 0 = true) ↔ c = 45 := by
        rw [h]
        show ((c :: r).take 1 == [45]) = true ↔ _
        simp
      by_cases hc : c = 45
      · obtain ⟨p, q⟩ := h2.mpr hc
        rw [q, decide_eq_true p, hc]; rfl
      · rw [decide_eq_false (show ¬ (c :: r)[0]? = some 45 by simp [hc])]
        rw [Bool.and_eq_false_iff]
        by_cases p : 0 + (S [45]).length ≤ (S (c :: r)).length
        · right
          cases q : Builtin.Str.subAt (S (c :: r)) (S [45]) 0
          · rfl
          · exact absurd (h2.mp ⟨p, q⟩) hc
        · left; exact decide_eq_false p
  rw [key]
  unfold body
  by_cases h : t[0]? = some 45
  · rw [if_pos (decide_eq_true h), if_pos h]
    have l1 : (S [45]).length = 1 := rfl
    rw [l1, S_len]
    show S ((t.drop 1).take (t.length - 1)) = _
    rw [List.take_of_length_le (by rw [List.length_drop]; omega)]
  · rw [if_neg (by simpa using h), if_neg h]
theorem int_dig {w : List Nat} (h : isD w = true) (hl : w.length ≤ 600) : intText? (S w) = some ((digitsVal w : Nat) : Int) := by
  obtain ⟨h1, h2⟩ := isD_iff.mp h
  exact intText_digits (x := S w) h2 h1 (by rw [S_len]; omega)
/-- the integer of a sign and digits -/
def sval (t : List Nat) : Int := if t[0]? = some 45 then -((digitsVal (t.drop 1) : Nat) : Int) else ((digitsVal t : Nat) : Int)
theorem int_sdig {t : List Nat} (h : isD (body t) = true) (hl : t.length ≤ 600) : intText? (S t) = some (sval t) := by
  unfold body at h
  unfold sval
  by_cases c : t[0]? = some 45
  · rw [if_pos c] at h ⊢
    obtain ⟨h1, h2⟩ := isD_iff.mp h
    cases t with
    | nil => cases c
    | cons d r =>
      have : d = 45 := by simpa using c
      subst this
      exact intText_neg (x := S (45 :: r)) rfl h2 h1 (by rw [S_len]; omega)
  · rw [if_neg c] at h ⊢
    exact int_dig h hl
theorem body_le (t : List Nat) : (body t).length ≤ t.length := by
  unfold body; split
  · rw [List.length_drop]; omega
  · exact Nat.le_refl _
theorem sval_abs (t : List Nat) : (sval t).natAbs = digitsVal (body t) := by
  unfold sval body
  split
  · rw [Int.natAbs_neg]; rfl
  · rfl
theorem sval_num (a : Int) : sval (numT a) = a := by
  unfold sval
  rcases Int.lt_or_le a 0 with h | h
  · rw [numT_ng h, if_pos (show (45 :: numL a.natAbs)[0]? = some 45 from rfl)]
    show -((digitsVal (numL a.natAbs) : Nat) : Int) = a
    rw [numL_val]; omega
  · have := (body_num a []).2
    rw [List.append_nil] at this
    rw [if_neg (fun e => by have := this.mp e; omega), numT_pos h, numL_val]; omega
theorem dig_lt {w : List Nat} (h : isD w = true) : digitsVal w < 10 ^ w.length := digits_lt (isD_iff.mp h).2
theorem bits70 {w : List Nat} (h : isD w = true) (hl : w.length ≤ 70) : digitsVal w < 2 ^ 240 :=
  Nat.lt_of_lt_of_le (dig_lt h) (Nat.le_trans (Nat.pow_le_pow_right (by decide) hl) (by decide +kernel))
theorem num_len {a : Int} {n k : Nat} (h : a.natAbs < 2 ^ n) (hk : 0 < k) (e : 2 ^ n ≤ 10 ^ k) : (numT a).length ≤ k + 1 := by
  have hl := numL_len (n := a.natAbs) (k := k) hk (Nat.lt_of_lt_of_le h e)
  rcases Int.lt_or_le a 0 with c | c
  · rw [numT_ng c, List.length_cons]; omega
  · rw [numT_pos c]; omega
theorem txt_len {a b : Int} {n k : Nat} (ha : a.natAbs < 2 ^ n) (hb : b.natAbs < 2 ^ n) (hk : 0 < k) (e : 2 ^ n ≤ 10 ^ k) : (txt a b).length ≤ 2 * k + 3 := by
  have h1 := num_len ha hk e
  have h2 := num_len hb hk e
  unfold txt
  split
  · omega
  · rw [List.length_append, List.length_cons]; omega
/-! ### partition and split -/
theorem part_num {a b : Int} (h : b ≠ 1) : Txt.partition (S (txt a b)) (Str.ofString "/") = (S (numT a), S [47], S (numT b)) := by
  rw [slash]
  unfold txt
  rw [if_neg h]
  exact partition_some (by simp) (by have := par_head (c := 47) (sep := []) (numT b) (numT_free a); simpa using this)
theorem part_one (a : Int) : Txt.partition (S (txt a 1)) (Str.ofString "/") = (S (numT a), S [], S []) := by
  rw [slash]
  unfold txt
  rw [if_pos rfl]
  exact partition_none (by simp) (par_head_none (numT_free a))
theorem part_any (t : List Nat) : ∃ p s q, Txt.partition (S t) (Str.ofString "/") = (S p, S s, S q) ∧ p.length ≤ t.length ∧ q.length ≤ t.length := by
  have h := PyProof.Rows.fact_partition (S t) (Str.ofString "/")
  refine ⟨tl (Txt.partition (S t) (Str.ofString "/")).1, tl (Txt.partition (S t) (Str.ofString "/")).2.1, tl (Txt.partition (S t) (Str.ofString "/")).2.2, ?_, ?_, ?_⟩
  · show _ = ((⟨(tl _).toArray⟩ : Str), (⟨(tl _).toArray⟩ : Str), (⟨(tl _).toArray⟩ : Str))
    rw [mk_tl, mk_tl, mk_tl]
  · rw [← len_tl]; have := h.1; rw [S_len] at this; exact this
  · rw [← len_tl]; have := h.2.2; rw [S_len] at this; exact this
theorem split_any (t : List Nat) : ∃ ps : List (List Nat), Txt.split (S t) (Str.ofString "/") = ps.map S ∧ ps ≠ [] ∧ joinL [47] ps = t := by
  have e := split_S (a := t) (b := [47]) (by simp) (by decide)
  rw [← slash] at e
  have j := StrLaws.join_split (S t) (Str.ofString "/")
  refine ⟨spl [47] 0 [] t, e, ?_, ?_⟩
  · intro z
    have := PyProof.Rows.split_pos (S t) (Str.ofString "/")
    rw [e, z] at this
    exact absurd this (by decide)
  · have k := congrArg tl j
    rw [e, tl_join, map_S_tl] at k
    have s1 : tl (Str.ofString "/") = [47] := by rw [slash]
    rw [s1] at k
    exact k
theorem split_num {m n : Nat} : Txt.split (S (numL m ++ 47 :: numL n)) (Str.ofString "/") = [numL m, numL n].map S ∧ Txt.split (S (numL m)) (Str.ofString "/") = [numL m].map S := by
  have f : ∀ k, 47 ∉ numL k := fun k => numL_free (by decide)
  rw [slash]
  constructor
  · rw [split_S (by simp) (by decide)]
    have := spl_join (c := 47) (sep := []) (parts := [numL m, numL n]) (by simp) (by intro p hp; rcases List.mem_cons.mp hp with e | hp; (rw [e]; exact f m); (rw [List.mem_singleton.mp hp]; exact f n))
    exact congrArg (List.map S) this
  · rw [split_S (by simp) (by decide)]
    have := spl_join (c := 47) (sep := []) (parts := [numL m]) (by simp) (by intro p hp; rw [List.mem_singleton.mp hp]; exact f m)
    exact congrArg (List.map S) this
/-! ### Euclid's steps, of numbers of fewer than 240 bits -/
def Eu (a b i : Nat) : Prop := (i = 0 ∧ b < 2 ^ 240) ∨ (1 ≤ i ∧ b < a ∧ a * b * 2 ^ (i - 1) ≤ 2 ^ 480)
theorem Eu.turn {a b i : Nat} (h : Eu a b i) (hb : b ≠ 0) : Eu b (a % b) (i + 1) ∧ i ≤ 481 := by
  have hm : a % b < b := Nat.mod_lt _ (Nat.pos_of_ne_zero hb)
  rcases h with ⟨rfl, h⟩ | ⟨h1, h2, h3⟩
  · refine ⟨.inr ⟨Nat.le_refl _, hm, ?_⟩, Nat.zero_le _⟩
    show b * (a % b) * 2 ^ 0 ≤ 2 ^ 480
    have : b * (a % b) ≤ 2 ^ 240 * 2 ^ 240 := Nat.mul_le_mul (Nat.le_of_lt h) (Nat.le_of_lt (Nat.lt_trans hm h))
    rw [Nat.pow_zero, Nat.mul_one]
    rw [← Nat.pow_add] at this
    exact this
  · refine ⟨.inr ⟨by omega, hm, ?_⟩, ?_⟩
    · obtain ⟨j, rfl⟩ : ∃ j, i = j + 1 := ⟨i - 1, by omega⟩
      show b * (a % b) * 2 ^ (j + 1) ≤ 2 ^ 480
      have h2' : 2 * (a % b) ≤ a := by
        have e := Nat.div_add_mod a b
        have q : 1 ≤ a / b := Nat.div_pos (Nat.le_of_lt h2) (Nat.pos_of_ne_zero hb)
        have : b * 1 ≤ b * (a / b) := Nat.mul_le_mul_left _ q
        omega
      have e : b * (a % b) * 2 ^ (j + 1) = (b * (2 * (a % b))) * 2 ^ j := by
        rw [Nat.pow_succ, Nat.mul_comm (2 ^ j) 2, ← Nat.mul_assoc, Nat.mul_assoc b, Nat.mul_comm (a % b) 2]
      rw [e]
      refine Nat.le_trans (Nat.mul_le_mul_right _ (Nat.mul_le_mul_left b h2')) ?_
      rw [Nat.mul_comm b a]
      exact h3
    · have : 1 * 1 * 2 ^ (i - 1) ≤ a * b * 2 ^ (i - 1) := Nat.mul_le_mul_right _ (Nat.mul_le_mul (by omega) (by omega))
      simp only [Nat.one_mul] at this
      have q : i - 1 ≤ 480 := (Nat.pow_le_pow_iff_right (by decide)).mp (Nat.le_trans this h3)
      omega
end GR
/-! where a text first is no note: a walk sign by sign, and what the reader from the left finds -/
namespace GN
open PySem TL
/-- the state behind a sign: none is wrong -/
def nx (m s d c : Nat) : Option Nat :=
  if m < 2 then
    if c = 40 ∧ d < 100 then some 1 else if c = 41 ∧ m = 1 then some 6 else if c = 45 then some 2 else if c = 48 then some 3
    else if 49 ≤ c ∧ c ≤ 57 then some 4 else if c ∈ lets then some 5 else none
  else if 0 < d ∧ c = 32 then some 0 else if 0 < d ∧ c = 41 then some 6
  else if m = 2 ∧ 49 ≤ c ∧ c ≤ 57 then some 4 else if m = 4 ∧ s < 200 ∧ c ∈ digs then some 4
  else if m = 5 ∧ s < 24 ∧ c ∈ wcs then some 5 else none
def dnx (d c : Nat) : Nat := if c = 40 then d + 1 else if c = 41 then d - 1 else d
def snx (m m' s : Nat) : Nat := if m' = m then s + 1 else 1
def aut : List Nat → Nat → Nat → Nat → Nat → Option Nat
  | [], m, _, d, i => if d = 0 ∧ 1 < m then none else some i
  | c :: l, m, s, d, i => match nx m s d c with
    | none => some i
    | some m' => aut l m' (snx m m' s) (dnx d c) (i + 1)
/-- the walk over t from i on -/
def walk (t : List Nat) (i m s d : Nat) : Option Nat := aut (t.drop i) m s d i
theorem walk_at {t : List Nat} {i c m s d : Nat} (h : t[i]? = some c) : walk t i m s d = match nx m s d c with | none => some i | some m' => walk t (i + 1) m' (snx m m' s) (dnx d c) := by
  obtain ⟨hlt, e⟩ := List.getElem?_eq_some_iff.mp h
  unfold walk
  rw [List.drop_eq_getElem_cons hlt, e]
  rfl
theorem walk_end {t : List Nat} {i m s d : Nat} (h : t[i]? = none) : walk t i m s d = if d = 0 ∧ 1 < m then none else some i := by
  unfold walk
  rw [List.drop_eq_nil_of_le (List.getElem?_eq_none_iff.mp h)]
  rfl
theorem walk_bad {t : List Nat} {i c m s d : Nat} (h : t[i]? = some c) (e : nx m s d c = none) : walk t i m s d = some i := by rw [walk_at h, e]
theorem walk_go {t : List Nat} {i c m s d m' : Nat} (h : t[i]? = some c) (e : nx m s d c = some m') : walk t i m s d = walk t (i + 1) m' (snx m m' s) (dnx d c) := by rw [walk_at h, e]
/-- behind a part: nothing but what parts it from the next -/
def Shut (t : List Nat) (j m s d : Nat) : Prop := 1 < m ∧ ∀ c, t[j]? = some c → nx m s d c = if 0 < d ∧ c = 32 then some 0 else if 0 < d ∧ c = 41 then some 6 else none
theorem shut_of {t : List Nat} {j m s d : Nat} (hm : 1 < m) (h2 : ∀ c, t[j]? = some c → m = 2 → ¬ (49 ≤ c ∧ c ≤ 57)) (h4 : ∀ c, t[j]? = some c → m = 4 → s < 200 → c ∉ digs) (h5 : ∀ c, t[j]? = some c → m = 5 → s < 24 → c ∉ wcs) : Shut t j m s d := by
  refine ⟨hm, fun c hc => ?_⟩
  unfold nx
  rw [if_neg (by omega)]
  split
  · rfl
  split
  · rfl
  rw [if_neg (fun z => h2 c hc z.1 z.2), if_neg (fun z => h4 c hc z.1 z.2.1 z.2.2), if_neg (fun z => h5 c hc z.1 z.2.1 z.2.2)]
theorem digs_out {c : Nat} (h : c ∈ digs) : c ≠ 32 ∧ c ≠ 41 ∧ c ≠ 40 := by have := digs_range h; omega
theorem wcs_out {c : Nat} (h : c ∈ wcs) : c ≠ 32 ∧ c ≠ 41 ∧ c ≠ 40 := by
  have : ∀ c ∈ wcs, c ≠ 32 ∧ c ≠ 41 ∧ c ≠ 40 := by decide +kernel
  exact this c h
theorem dnx_same {d c : Nat} (h : c ≠ 32 ∧ c ≠ 41 ∧ c ≠ 40) : dnx d c = d := by
  unfold dnx; rw [if_neg h.2.2, if_neg h.2.1]
/-- a run of signs of one kind -/
theorem walk_run {cs : List Nat} {most M d : Nat} (hgo : ∀ s c, s < most → c ∈ cs → nx M s d c = some M) (hout : ∀ c ∈ cs, c ≠ 32 ∧ c ≠ 41 ∧ c ≠ 40) : ∀ (l : List Nat) (s i : Nat), s ≤ most →
    aut l M s d i = aut (l.drop (((l.take (most - s)).takeWhile fun c => decide (c ∈ cs)).length)) M (s + ((l.take (most - s)).takeWhile fun c => decide (c ∈ cs)).length) d (i + ((l.take (most - s)).takeWhile fun c => decide (c ∈ cs)).length)
      ∧ (s + ((l.take (most - s)).takeWhile fun c => decide (c ∈ cs)).length < most → ∀ c, l[((l.take (most - s)).takeWhile fun c => decide (c ∈ cs)).length]? = some c → c ∉ cs)
  | [], s, i, hs => by
    rw [List.take_nil, List.takeWhile_nil]
    exact ⟨rfl, fun _ c h => by cases h⟩
  | c :: l, s, i, hs => by
    by_cases hm : s = most
    · subst hm
      rw [Nat.sub_self, List.take_zero, List.takeWhile_nil]
      exact ⟨rfl, fun h => absurd h (Nat.lt_irrefl _)⟩
    · have e : most - s = (most - (s + 1)) + 1 := by omega
      rw [e, List.take_succ_cons, List.takeWhile_cons]
      by_cases hc : c ∈ cs
      · rw [if_pos (decide_eq_true hc), List.length_cons]
        obtain ⟨h1, h2⟩ := walk_run hgo hout l (s + 1) (i + 1) (by omega)
        generalize ((l.take (most - (s + 1))).takeWhile fun c => decide (c ∈ cs)).length = w at h1 h2 ⊢
        refine ⟨?_, fun h d hd => h2 (by omega) d hd⟩
        show (match nx M s d c with | none => some i | some m' => aut l m' (snx M m' s) (dnx d c) (i + 1)) = _
        rw [hgo s c (by omega) hc, dnx_same (hout c hc)]
        show aut l M (snx M M s) d (i + 1) = _
        have e2 : snx M M s = s + 1 := if_pos rfl
        rw [e2, h1, List.drop_succ_cons]
        congr 1 <;> omega
      · rw [if_neg (by rw [decide_eq_false hc]; exact Bool.false_ne_true)]
        refine ⟨rfl, fun _ d hd => ?_⟩
        cases hd
        exact hc
theorem run_step {cs : List Nat} {most : Nat} {t : List Nat} {i c : Nat} (h : t[i]? = some c) (hc : c ∈ cs) (hm : 0 < most) : run cs most t i = i + 1 + (((t.drop (i + 1)).take (most - 1)).takeWhile fun c => decide (c ∈ cs)).length := by
  obtain ⟨hlt, e⟩ := List.getElem?_eq_some_iff.mp h
  obtain ⟨m, rfl⟩ : ∃ m, most = m + 1 := ⟨most - 1, by omega⟩
  unfold run
  rw [List.drop_eq_getElem_cons hlt, e, List.take_succ_cons, List.takeWhile_cons, if_pos (decide_eq_true hc), List.length_cons, Nat.add_sub_cancel]
  omega
theorem walk_run' {cs : List Nat} {most M d i c : Nat} {t : List Nat} (hgo : ∀ s c, s < most → c ∈ cs → nx M s d c = some M) (hout : ∀ c ∈ cs, c ≠ 32 ∧ c ≠ 41 ∧ c ≠ 40) (h : t[i]? = some c) (hc : c ∈ cs) (hm : 0 < most) :
    ∃ s, walk t (i + 1) M 1 d = walk t (run cs most t i) M s d ∧ (s < most → ∀ c, t[run cs most t i]? = some c → c ∉ cs) := by
  obtain ⟨h1, h2⟩ := walk_run hgo hout (t.drop (i + 1)) 1 (i + 1) (by omega)
  rw [run_step h hc hm]
  generalize (((t.drop (i + 1)).take (most - 1)).takeWhile fun c => decide (c ∈ cs)).length = w at h1 h2 ⊢
  refine ⟨1 + w, ?_, fun hs c hc => h2 hs c (by rw [List.getElem?_drop]; exact hc)⟩
  unfold walk
  rw [h1, List.drop_drop]
theorem nx4 {d s c : Nat} (hs : s < 200) (hc : c ∈ digs) : nx 4 s d c = some 4 := by
  have := digs_out hc
  unfold nx
  rw [if_neg (by omega), if_neg (by omega), if_neg (by omega), if_neg (by omega), if_pos ⟨rfl, hs, hc⟩]
theorem nx5 {d s c : Nat} (hs : s < 24) (hc : c ∈ wcs) : nx 5 s d c = some 5 := by
  have := wcs_out hc
  unfold nx
  rw [if_neg (by omega), if_neg (by omega), if_neg (by omega), if_neg (by omega), if_neg (by omega), if_pos ⟨rfl, hs, hc⟩]
/-- what the walk does where the reader reads -/
def Agrees (t : List Nat) (i m s d : Nat) : R → Prop
  | .bad b => walk t i m s d = some b
  | .got _ j => ∃ m' s', walk t i m s d = walk t j m' s' d ∧ Shut t j m' s' d
theorem shut4 {t : List Nat} {j s d : Nat} (h : s < 200 → ∀ c, t[j]? = some c → c ∉ digs) : Shut t j 4 s d := shut_of (by decide) (fun _ _ z => absurd z (by decide)) (fun c hc _ hs => h hs c hc) (fun _ _ z => absurd z (by decide))
theorem shut5 {t : List Nat} {j s d : Nat} (h : s < 24 → ∀ c, t[j]? = some c → c ∉ wcs) : Shut t j 5 s d := shut_of (by decide) (fun _ _ z => absurd z (by decide)) (fun _ _ z => absurd z (by decide)) (fun c hc _ hs => h hs c hc)
theorem shutE {t : List Nat} {j s d m : Nat} (h : m = 3 ∨ m = 6) : Shut t j m s d := shut_of (by omega) (fun _ _ z => by omega) (fun _ _ z => by omega) (fun _ _ z => by omega)
theorem isN_of {t : List Nat} {i c : Nat} (h : t[i]? = some c) : isN t i = decide (49 ≤ c ∧ c ≤ 57) := by unfold isN; rw [h]
theorem agree_leaf {t : List Nat} {i m s d : Nat} (hm : m < 2) (h40 : t[i]? ≠ some 40) (h41 : m = 1 → t[i]? ≠ some 41) : Agrees t i m s d (rleaf t i) := by
  unfold rleaf
  cases hc : t[i]? with
  | none => show walk t i m s d = some i; rw [walk_end hc, if_neg (by omega)]
  | some c =>
    have n40 : c ≠ 40 := fun e => h40 (by rw [hc, e])
    have n41 : ¬ (c = 41 ∧ m = 1) := fun e => h41 e.2 (by rw [hc, e.1])
    have nxe : nx m s d c = if c = 45 then some 2 else if c = 48 then some 3 else if 49 ≤ c ∧ c ≤ 57 then some 4 else if c ∈ lets then some 5 else none := by
      unfold nx
      rw [if_pos hm, if_neg (fun z => n40 z.1), if_neg n41]
    show Agrees t i m s d (if c ∈ lets then _ else if c = 45 ∧ isN t (i + 1) = false then _ else rnum t i)
    by_cases hL : c ∈ lets
    · have r := lets_range hL
      have o := wcs_out (lets_wcs hL)
      rw [if_pos hL]
      rw [if_neg (by omega), if_neg (by omega), if_neg (by omega), if_pos hL] at nxe
      obtain ⟨s', e1, e2⟩ := walk_run' (M := 5) (d := d) (fun s c => nx5) (fun c => wcs_out) hc (lets_wcs hL) (show 0 < 24 by decide)
      refine ⟨5, s', ?_, shut5 e2⟩
      rw [walk_go hc nxe, dnx_same o, show snx m 5 s = 1 from if_neg (by omega)]
      exact e1
    rw [if_neg hL]
    by_cases h45 : c = 45
    · have g : walk t i m s d = walk t (i + 1) 2 1 d := by
        rw [walk_go hc (nxe.trans (if_pos h45)), dnx_same (by omega), show snx m 2 s = 1 from if_neg (by omega)]
      cases hN : isN t (i + 1) with
      | false =>
        rw [if_pos ⟨h45, rfl⟩]
        refine ⟨2, 1, g, shut_of (by decide) (fun c2 hc2 _ z => ?_) (fun _ _ z => by omega) (fun _ _ z => by omega)⟩
        rw [isN_of hc2, decide_eq_true z] at hN
        cases hN
      | true =>
        rw [if_neg (fun z => by cases z.2)]
        have hF : rnumF t i = i + 1 := by unfold rnumF; rw [if_pos (by rw [hc, h45])]
        unfold rnum
        rw [if_neg (by rw [hc]; intro z; injection z; omega), hF, if_pos hN]
        obtain ⟨c2, hc2, a1, a2⟩ := isN_at hN
        have hd := digs_of (c := c2) ⟨by omega, a2⟩
        obtain ⟨s', e1, e2⟩ := walk_run' (M := 4) (d := d) (fun s c => nx4) (fun c => digs_out) hc2 hd (show 0 < 200 by decide)
        refine ⟨4, s', ?_, shut4 e2⟩
        have n2 : nx 2 1 d c2 = some 4 := by
          unfold nx
          rw [if_neg (by omega), if_neg (by omega), if_neg (by omega), if_pos ⟨rfl, a1, a2⟩]
        rw [g, walk_go hc2 n2, dnx_same (digs_out hd), show snx 2 4 1 = 1 from rfl]
        exact e1
    · rw [if_neg (fun z => h45 z.1)]
      unfold rnum
      rw [if_neg h45] at nxe
      by_cases h48 : c = 48
      · rw [if_pos (by rw [hc, h48])]
        refine ⟨3, 1, ?_, shutE (.inl rfl)⟩
        rw [walk_go hc (nxe.trans (if_pos h48)), dnx_same (by omega), show snx m 3 s = 1 from if_neg (by omega)]
      · have hF : rnumF t i = i := by unfold rnumF; rw [if_neg (by rw [hc]; intro z; injection z; omega)]
        rw [if_neg (by rw [hc]; intro z; injection z; omega), hF, isN_of hc]
        rw [if_neg h48] at nxe
        by_cases hr : 49 ≤ c ∧ c ≤ 57
        · rw [if_pos (decide_eq_true hr)]
          have hd := digs_of (c := c) ⟨by omega, hr.2⟩
          obtain ⟨s', e1, e2⟩ := walk_run' (M := 4) (d := d) (fun s c => nx4) (fun c => digs_out) hc hd (show 0 < 200 by decide)
          refine ⟨4, s', ?_, shut4 e2⟩
          rw [walk_go hc (nxe.trans (if_pos hr)), dnx_same (digs_out hd), show snx m 4 s = 1 from if_neg (by omega)]
          exact e1
        · rw [if_neg (by rw [decide_eq_false hr]; exact Bool.false_ne_true)]
          rw [if_neg hr, if_neg hL] at nxe
          exact walk_bad hc nxe
theorem Agrees.of {t : List Nat} {i m s d i2 m2 s2 : Nat} {r : R} (h : Agrees t i2 m2 s2 d r) (e : walk t i m s d = walk t i2 m2 s2 d) : Agrees t i m s d r := by
  cases r with
  | bad b => exact e.trans h
  | got n j => obtain ⟨m', s', h1, h2⟩ := h; exact ⟨m', s', e.trans h1, h2⟩
theorem agree_loop {f : Nat → R} {t : List Nat} {d : Nat} (hd : 0 < d) (hpos : ∀ i n j, f i = .got n j → i < j ∧ j ≤ t.length)
    (hf : ∀ i m s, i ≤ t.length → m < 2 → (m = 1 → t[i]? ≠ some 41) → Agrees t i m s d (f i)) : ∀ (k i : Nat) (acc : List N) (m s : Nat), i < t.length → t.length - i ≤ k → m < 2 → (m = 1 → t[i + 1]? ≠ some 41) →
    match rloop f t k i acc with
    | .bad b => walk t (i + 1) m s d = some b
    | .got _ j => ∃ s', walk t (i + 1) m s d = walk t j 6 s' (d - 1)
  | 0, i, acc, m, s, hi, hk, _, _ => absurd hi (by omega)
  | k + 1, i, acc, m, s, hi, hk, hm, h41 => by
    have h := hf (i + 1) m s hi hm h41
    unfold rloop
    cases e : f (i + 1) with
    | bad b => rw [e] at h; exact h
    | got n j =>
      rw [e] at h
      obtain ⟨m', s', h1, hm', h2⟩ := h
      obtain ⟨p1, p2⟩ := hpos _ _ _ e
      show (match (if t[j]? = some 32 then rloop f t k j (acc ++ [n]) else if t[j]? = some 41 then R.got (.tup (acc ++ [n])) (j + 1) else .bad j) with | .bad b => walk t (i + 1) m s d = some b | .got _ j => ∃ s', walk t (i + 1) m s d = walk t j 6 s' (d - 1))
      rw [h1]
      by_cases h32 : t[j]? = some 32
      · rw [if_pos h32]
        have e0 : nx m' s' d 32 = some 0 := by rw [h2 32 h32, if_pos ⟨hd, rfl⟩]
        rw [walk_go h32 e0]
        exact agree_loop hd hpos hf k j (acc ++ [n]) 0 _ (List.getElem?_eq_some_iff.mp h32).1 (by omega) (by decide) (fun z => by cases z)
      · rw [if_neg h32]
        by_cases h41' : t[j]? = some 41
        · rw [if_pos h41']
          have e0 : nx m' s' d 41 = some 6 := by rw [h2 41 h41', if_neg (by omega), if_pos ⟨hd, rfl⟩]
          exact ⟨_, walk_go h41' e0⟩
        · rw [if_neg h41']
          show walk t j m' s' d = some j
          cases hj : t[j]? with
          | none => rw [walk_end hj, if_neg (by omega)]
          | some c =>
            have e0 : nx m' s' d c = none := by rw [h2 c hj, if_neg (fun z => h32 (by rw [hj, z.2])), if_neg (fun z => h41' (by rw [hj, z.2]))]
            exact walk_bad hj e0
theorem agree_part {t : List Nat} : ∀ (r i m s d : Nat), d + r = 100 → i ≤ t.length → m < 2 → (m = 1 → t[i]? ≠ some 41) → Agrees t i m s d (rpart t r i)
  | 0, i, m, s, d, hd, hi, hm, h41 => by
    rw [rpart_eq]
    by_cases h40 : t[i]? = some 40
    · rw [if_pos h40]
      refine walk_bad h40 ?_
      unfold nx
      rw [if_pos hm, if_neg (by omega), if_neg (by omega), if_neg (by omega), if_neg (by omega), if_neg (by omega), if_neg (fun z => by have := lets_range z; omega)]
    · rw [if_neg h40]
      exact agree_leaf hm h40 h41
  | r + 1, i, m, s, d, hd, hi, hm, h41 => by
    rw [rpart_eq]
    by_cases h40 : t[i]? = some 40
    · rw [if_pos h40]
      have e1 : nx m s d 40 = some 1 := by unfold nx; rw [if_pos hm, if_pos ⟨rfl, by omega⟩]
      have g := walk_go (s := s) h40 e1
      rw [show dnx d 40 = d + 1 from rfl] at g
      have hlt := (List.getElem?_eq_some_iff.mp h40).1
      show Agrees t i m s d (rtup t r i)
      unfold rtup
      by_cases h : t[i + 1]? = some 41
      · rw [if_pos h]
        have e2 : ∀ s, nx 1 s (d + 1) 41 = some 6 := fun s => by unfold nx; rw [if_pos (by decide), if_neg (by omega), if_pos ⟨rfl, rfl⟩]
        refine ⟨6, 1, ?_, shutE (.inr rfl)⟩
        rw [g, walk_go h (e2 _)]
        rfl
      · rw [if_neg h]
        have hl := agree_loop (t := t) (f := rpart t r) (d := d + 1) (by omega) (rpart_pos r) (fun i m s h1 h2 h3 => agree_part r i m s (d + 1) (by omega) h1 h2 h3) (t.length - i) i [] 1 (snx m 1 s) hlt (Nat.le_refl _) (by decide) (fun _ => h)
        rw [← g] at hl
        cases e : rloop (rpart t r) t (t.length - i) i [] with
        | bad b => rw [e] at hl; exact hl
        | got n j =>
          rw [e] at hl
          obtain ⟨s', hl⟩ := hl
          exact ⟨6, s', hl, shutE (.inr rfl)⟩
    · rw [if_neg h40]
      exact agree_leaf hm h40 h41
/-- the first wrong place is where the reader stops -/
theorem walk_note (t : List Nat) : walk t 0 0 0 0 = match rpart t 100 0 with
    | .bad b => some b
    | .got _ j => if j < t.length then some j else none := by
  have h := agree_part (t := t) 100 0 0 0 0 rfl (Nat.zero_le _) (by decide) (fun z => by cases z)
  cases e : rpart t 100 0 with
  | bad b => rw [e] at h; exact h
  | got n j =>
    rw [e] at h
    obtain ⟨m', s', h1, hm', h2⟩ := h
    obtain ⟨p1, p2⟩ := rpart_pos _ _ _ _ e
    rw [h1]
    show _ = if j < t.length then some j else none
    by_cases hj : j < t.length
    · rw [if_pos hj]
      have hc := List.getElem?_eq_getElem hj
      have e0 : nx m' s' 0 t[j] = none := by rw [h2 _ hc, if_neg (by omega), if_neg (by omega)]
      exact walk_bad hc e0
    · rw [if_neg hj, walk_end (List.getElem?_eq_none (by omega)), if_pos ⟨rfl, hm'⟩]
end GN
namespace GN
open PySem TL GR NumText
/-! ### what is read is the text of what it gives -/
theorem lead_of {ds : List Nat} {c : Nat} {r : List Nat} (e : ds = c :: r) (h1 : 49 ≤ c) (hd : AllDigits ds) : lead ds = true := by
  have hi : isD ds = true := isD_iff.mpr ⟨by rw [e]; simp, hd⟩
  unfold lead
  rw [hi, decide_eq_false (show ¬ ds[0]? = some 48 by rw [e]; simp; omega)]
  simp
theorem num_back {t : List Nat} {i : Nat} (h : isN t (rnumF t i) = true) : numT (val (cut t i (run digs 200 t (rnumF t i)))) = cut t i (run digs 200 t (rnumF t i)) ∧ (val (cut t i (run digs 200 t (rnumF t i)))).natAbs < 10 ^ 200 := by
  obtain ⟨c, hc, h1, h2⟩ := isN_at h
  have hgt := run_gt (most := 200) hc (digs_of (c := c) ⟨by omega, h2⟩) (by decide)
  have hall : AllDigits (cut t (rnumF t i) (run digs 200 t (rnumF t i))) := fun d hd => digs_range (cut_all d hd)
  have hcons := cut_cons (e := run digs 200 t (rnumF t i)) hc hgt
  have hl := cut_len (cs := digs) (most := 200) (t := t) (i := rnumF t i)
  have hld := lead_of hcons h1 hall
  have hb := (lead_back hld).2
  have hlt := dig_lt (lead_back hld).1
  have hlt2 : digitsVal (cut t (rnumF t i) (run digs 200 t (rnumF t i))) < 10 ^ 200 := Nat.lt_of_lt_of_le hlt (Nat.pow_le_pow_right (by decide) hl)
  have hpos : 0 < digitsVal (cut t (rnumF t i) (run digs 200 t (rnumF t i))) := by
    rcases Nat.eq_zero_or_pos (digitsVal (cut t (rnumF t i) (run digs 200 t (rnumF t i)))) with z | z
    · rw [z, numL_zero, hcons] at hb
      injection hb with z1 _
      omega
    · exact z
  by_cases h45 : t[i]? = some 45
  · have hF : rnumF t i = i + 1 := by unfold rnumF; rw [if_pos h45]
    rw [hF] at hgt hall hcons hl hld hb hlt hlt2 hpos ⊢
    rw [cut_cons h45 (by omega)]
    generalize cut t (i + 1) (run digs 200 t (i + 1)) = ds at *
    have hne : ds ≠ [] := by rw [hcons]; simp
    have e : val (45 :: ds) = -((digitsVal ds : Nat) : Int) := by
      have e : intText? (SX.S (45 :: ds)) = _ := intText_neg (x := SX.S (45 :: ds)) rfl hall hne (by rw [SX.S_len, List.length_cons]; omega)
      unfold val
      rw [show (⟨(45 :: ds).toArray⟩ : Str) = SX.S (45 :: ds) from rfl, e]; rfl
    rw [e, numT_neg _ hpos, hb]
    exact ⟨rfl, by simpa using hlt2⟩
  · have hF : rnumF t i = i := by unfold rnumF; rw [if_neg h45]
    rw [hF] at hgt hall hcons hl hld hb hlt hlt2 hpos ⊢
    generalize cut t i (run digs 200 t i) = ds at *
    have hne : ds ≠ [] := by rw [hcons]; simp
    have e : val ds = ((digitsVal ds : Nat) : Int) := by
      have e : intText? (SX.S ds) = _ := intText_digits (x := SX.S ds) hall hne (by rw [SX.S_len]; omega)
      unfold val
      rw [show (⟨ds.toArray⟩ : Str) = SX.S ds from rfl, e]; rfl
    rw [e, numT_nat, hb]
    exact ⟨rfl, by simpa using hlt2⟩
theorem cut_one' {t : List Nat} {i c : Nat} (h : t[i]? = some c) : cut t i (i + 1) = [c] := by
  rw [cut_cons h (by omega)]
  unfold cut
  rw [Nat.sub_self, List.take_zero]
theorem cut_app {t : List Nat} {i j k : Nat} (h : i ≤ j) (h2 : j ≤ k) : cut t i k = cut t i j ++ cut t j k := by
  unfold cut
  rw [show k - i = (j - i) + (k - j) by omega, List.take_add, List.drop_drop]
  congr 3
  omega
theorem back_leaf {t : List Nat} {i j : Nat} {n : N} (h : rleaf t i = .got n j) : cut t i j = n.txt ∧ n.ok ∧ n.dep = 0 := by
  unfold rleaf at h
  cases hc : t[i]? with
  | none => rw [hc] at h; cases h
  | some c =>
    rw [hc] at h
    revert h
    show (if c ∈ lets then _ else if c = 45 ∧ isN t (i + 1) = false then _ else rnum t i) = _ → _
    split
    · rename_i hL
      intro h; cases h
      refine ⟨rfl, ⟨cut_len, c, _, cut_cons hc (run_gt hc (lets_wcs hL) (by decide)), hL, fun d hd => ?_⟩, rfl⟩
      exact cut_all (cs := wcs) (most := 24) (t := t) (i := i) d (by rw [cut_cons hc (run_gt hc (lets_wcs hL) (by decide))]; exact List.mem_cons_of_mem _ hd)
    · split
      · rename_i h45
        intro h; cases h
        exact ⟨by rw [cut_one' hc, h45.1]; rfl, trivial, rfl⟩
      · unfold rnum
        rw [hc]
        split
        · rename_i h48
          intro h; cases h
          exact ⟨by rw [cut_one' hc, show c = 48 by injection h48]; exact ((numT_nat 0).trans numL_zero).symm, by show (0 : Int).natAbs < 10 ^ 200; decide +kernel, rfl⟩
        · split
          · rename_i hN
            intro h; cases h
            have := num_back hN
            exact ⟨this.1.symm, this.2, rfl⟩
          · intro h; cases h
theorem more_txts : ∀ {ms : List N}, ms ≠ [] → N.more ms = 32 :: N.txts ms
  | [], h => absurd rfl h
  | _ :: _, _ => rfl
theorem back_loop {f : Nat → R} {t : List Nat} {D : Nat} (hpos : ∀ i n j, f i = .got n j → i < j ∧ j ≤ t.length) (hf : ∀ i n j, f i = .got n j → cut t i j = n.txt ∧ n.ok ∧ n.dep ≤ D) : ∀ (k i : Nat) (acc : List N) (n : N) (j : Nat), rloop f t k i acc = .got n j →
    ∃ ms, ms ≠ [] ∧ n = .tup (acc ++ ms) ∧ cut t (i + 1) j = N.txts ms ++ [41] ∧ i + 1 < j ∧ ∀ m ∈ ms, m.ok ∧ m.dep ≤ D
  | 0, i, acc, n, j, h => by unfold rloop at h; cases h
  | k + 1, i, acc, n, j, h => by
    unfold rloop at h
    cases e : f (i + 1) with
    | bad b => rw [e] at h; cases h
    | got x a =>
      rw [e] at h
      obtain ⟨p1, p2⟩ := hpos _ _ _ e
      obtain ⟨e1, e2, e3⟩ := hf _ _ _ e
      revert h
      show (if t[a]? = some 32 then rloop f t k a (acc ++ [x]) else if t[a]? = some 41 then R.got (.tup (acc ++ [x])) (a + 1) else .bad a) = _ → _
      by_cases h32 : t[a]? = some 32
      · rw [if_pos h32]
        intro h
        obtain ⟨ms, q0, q1, q2, q3, q4⟩ := back_loop hpos hf k a _ _ _ h
        refine ⟨x :: ms, by simp, by rw [q1]; simp, ?_, by omega, fun m hm => ?_⟩
        · rw [cut_app (j := a) (by omega) (by omega), e1, cut_cons h32 (by omega), q2]
          show _ = x.txt ++ N.more ms ++ [41]
          rw [more_txts q0, List.append_assoc]; rfl
        · rcases List.mem_cons.mp hm with z | z
          · rw [z]; exact ⟨e2, e3⟩
          · exact q4 m z
      · rw [if_neg h32]
        by_cases h41 : t[a]? = some 41
        · rw [if_pos h41]
          intro h; cases h
          refine ⟨[x], by simp, rfl, ?_, by omega, fun m hm => ?_⟩
          · rw [cut_app (j := a) (by omega) (by omega), e1, cut_one' h41]
            show _ = x.txt ++ N.more [] ++ [41]
            simp [N.more]
          · rw [List.mem_singleton.mp hm]; exact ⟨e2, e3⟩
        · rw [if_neg h41]; intro h; cases h
theorem back_part {t : List Nat} : ∀ (r i : Nat) (n : N) (j : Nat), rpart t r i = .got n j → cut t i j = n.txt ∧ n.ok ∧ n.dep ≤ r
  | 0, i, n, j, h => by
    rw [rpart_eq] at h
    split at h
    · cases h
    · obtain ⟨a, b, c⟩ := back_leaf h
      exact ⟨a, b, by omega⟩
  | r + 1, i, n, j, h => by
    rw [rpart_eq] at h
    split at h
    · rename_i h40
      have h' : rtup t r i = .got n j := h
      unfold rtup at h'
      split at h'
      · rename_i h41
        cases h'
        refine ⟨?_, trivial, by simp [N.dep, N.deps]⟩
        rw [cut_cons h40 (by omega), show i + 2 = i + 1 + 1 from rfl, cut_one' h41]
        rfl
      · obtain ⟨ms, q0, q1, q2, q3, q4⟩ := back_loop (rpart_pos r) (fun i n j => back_part r i n j) _ _ _ _ _ h'
        rw [List.nil_append] at q1
        subst q1
        refine ⟨?_, oks_mem.mpr fun m hm => (q4 m hm).1, ?_⟩
        · rw [cut_cons h40 (by omega), q2]; rfl
        · have : N.deps ms ≤ r := deps_le.mpr fun m hm => (q4 m hm).2
          simp only [N.dep]; omega
    · obtain ⟨a, b, c⟩ := back_leaf h
      exact ⟨a, b, by omega⟩
theorem cut_all' (t : List Nat) : cut t 0 t.length = t := by unfold cut; rw [List.drop_zero, Nat.sub_zero, List.take_length]
/-! ### the words of a note's text, its brackets parted -/
inductive Tk where
  | opn
  | cls
  | leaf (n : N)
def Tk.wd : Tk → List Nat
  | .opn => [40]
  | .cls => [41]
  | .leaf n => n.txt
def Lf (n : N) : Prop := n = .non ∨ (∃ w, n = .wrd w) ∨ ∃ i, n = .num i
def Tk.ok : Tk → Prop
  | .opn => True
  | .cls => True
  | .leaf n => n.ok ∧ Lf n
mutual
def N.tk : N → List Tk
  | .non => [.leaf .non]
  | .wrd w => [.leaf (.wrd w)]
  | .num i => [.leaf (.num i)]
  | .tup ns => .opn :: (N.tks ns ++ [.cls])
def N.tks : List N → List Tk
  | [] => []
  | n :: ns => N.tk n ++ N.tks ns
end
mutual
theorem tk_ok : ∀ (n : N), n.ok → ∀ x ∈ n.tk, x.ok
  | .non, _ => by intro x hx; rw [List.mem_singleton.mp hx]; exact ⟨trivial, .inl rfl⟩
  | .wrd w, h => by intro x hx; rw [List.mem_singleton.mp hx]; exact ⟨h, .inr (.inl ⟨w, rfl⟩)⟩
  | .num i, h => by intro x hx; rw [List.mem_singleton.mp hx]; exact ⟨h, .inr (.inr ⟨i, rfl⟩)⟩
  | .tup ns, h => by
    intro x hx
    rcases List.mem_cons.mp hx with e | hx
    · rw [e]; trivial
    · rcases List.mem_append.mp hx with hx | hx
      · exact tks_ok ns h x hx
      · rw [List.mem_singleton.mp hx]; trivial
theorem tks_ok : ∀ (ns : List N), N.oks ns → ∀ x ∈ N.tks ns, x.ok
  | [], _ => fun x hx => absurd hx List.not_mem_nil
  | n :: ns, h => by
    intro x hx
    rcases List.mem_append.mp hx with hx | hx
    · exact tk_ok n h.1 x hx
    · exact tks_ok ns h.2 x hx
end
/-- a stack of lists, innermost first, and what a word does to it -/
def prun : List (List N) → List Tk → Option (List (List N))
  | st, [] => some st
  | st, .opn :: r => prun ([] :: st) r
  | l :: m :: st, .cls :: r => prun ((m ++ [.tup l]) :: st) r
  | _, .cls :: _ => none
  | l :: st, .leaf n :: r => prun ((l ++ [n]) :: st) r
  | [], .leaf _ :: _ => none
theorem prun_opn (st : List (List N)) (r : List Tk) : prun st (.opn :: r) = prun ([] :: st) r := by
  cases st with
  | nil => rfl
  | cons a st => cases st <;> rfl
theorem prun_leaf (l : List N) (st : List (List N)) (n : N) (r : List Tk) : prun (l :: st) (.leaf n :: r) = prun ((l ++ [n]) :: st) r := by
  cases st <;> rfl
mutual
theorem prun_tk : ∀ (n : N) (l : List N) (st : List (List N)) (r : List Tk), prun (l :: st) (n.tk ++ r) = prun ((l ++ [n]) :: st) r
  | .non, l, st, r => prun_leaf _ _ _ _
  | .wrd w, l, st, r => prun_leaf _ _ _ _
  | .num i, l, st, r => prun_leaf _ _ _ _
  | .tup ns, l, st, r => by
    show prun (l :: st) (.opn :: ((N.tks ns ++ [.cls]) ++ r)) = _
    rw [prun_opn, List.append_assoc, prun_tks ns [] (l :: st)]
    rfl
theorem prun_tks : ∀ (ns : List N) (l : List N) (st : List (List N)) (r : List Tk), prun (l :: st) (N.tks ns ++ r) = prun ((l ++ ns) :: st) r
  | [], l, st, r => by rw [List.append_nil]; rfl
  | n :: ns, l, st, r => by
    show prun (l :: st) ((n.tk ++ N.tks ns) ++ r) = _
    rw [List.append_assoc, prun_tk n l st, prun_tks ns (l ++ [n]) st, List.append_assoc]
    rfl
end
theorem prun_note (n : N) : prun [[]] n.tk = some [[n]] := by
  have := prun_tk n [] [] []
  rw [List.append_nil] at this
  exact this
/-- the text with blanks around each bracket -/
def spc (t : List Nat) : List Nat := t.flatMap fun c => if c = 40 then [32, 40, 32] else if c = 41 then [32, 41, 32] else [c]
theorem spc_app (a b : List Nat) : spc (a ++ b) = spc a ++ spc b := by unfold spc; rw [List.flatMap_append]
theorem spc_cons (c : Nat) (b : List Nat) : spc (c :: b) = (if c = 40 then [32, 40, 32] else if c = 41 then [32, 41, 32] else [c]) ++ spc b := by unfold spc; rw [List.flatMap_cons]
theorem spc_free : ∀ {w : List Nat}, (∀ c ∈ w, c ≠ 40 ∧ c ≠ 41) → spc w = w
  | [], _ => rfl
  | c :: w, h => by
    have h0 := h c List.mem_cons_self
    rw [spc_cons, if_neg h0.1, if_neg h0.2, spc_free fun d hd => h d (List.mem_cons_of_mem _ hd)]; rfl
theorem spc_len : ∀ t : List Nat, (spc t).length ≤ 3 * t.length
  | [] => Nat.le_refl _
  | c :: t => by
    have := spc_len t
    rw [spc_cons, List.length_append, List.length_cons]
    have : (if c = 40 then [32, 40, 32] else if c = 41 then [32, 41, 32] else [c]).length ≤ 3 := by
      split
      · decide
      · split
        · decide
        · show 1 ≤ 3; decide
    omega
/-- signs that stand in a leaf -/
theorem leaf_sgn {n : N} (h : n.ok) (hl : Lf n) : n.txt ≠ [] ∧ ∀ c ∈ n.txt, c ∈ wcs := by
  rcases hl with rfl | ⟨w, rfl⟩ | ⟨i, rfl⟩
  · exact ⟨by simp [N.txt], fun c hc => by rw [List.mem_singleton.mp hc]; decide +kernel⟩
  · have h' : WOk w := h
    refine ⟨?_, h'.all⟩
    obtain ⟨_, c, r, e, _⟩ := h'
    show w ≠ []
    rw [e]; simp
  · have dw : ∀ c ∈ digs, c ∈ wcs := by decide +kernel
    show numT i ≠ [] ∧ ∀ c ∈ numT i, c ∈ wcs
    rcases Int.lt_or_le i 0 with c | c
    · rw [numT_ng c]
      refine ⟨by simp, fun d hd => ?_⟩
      rcases List.mem_cons.mp hd with e | hd
      · rw [e]; decide +kernel
      · exact dw _ (numL_digs _ d hd)
    · rw [numT_pos c]
      exact ⟨numL_ne _, fun d hd => dw _ (numL_digs _ d hd)⟩
theorem wcs_nb {c : Nat} (h : c ∈ wcs) : Unicode.isSpace c = false := by
  have : ∀ c ∈ wcs, Unicode.isSpace c = false := by decide +kernel
  exact this c h
/-- what a blank does behind a word, behind none -/
theorem wst_sp (ws : List (List Nat)) (u : List Nat) : wstep (ws, u) 32 = ((if u = [] then ws else ws ++ [u]), []) := by
  have hs : Unicode.isSpace 32 = true := by decide +kernel
  have a : wstep (ws, u) 32 = (if u = [] then (ws, u) else (ws ++ [u], [])) := if_pos hs
  rw [a]
  by_cases h : u = []
  · rw [if_pos h, if_pos h, h]
  · rw [if_neg h, if_neg h]
def Bl (s : List Nat) : Prop := s = [] ∨ ∃ r, s = 32 :: r
theorem wf_word {w : List Nat} (hn : w ≠ []) (h : ∀ c ∈ w, Unicode.isSpace c = false) {s : List Nat} (hs : Bl s) (ws : List (List Nat)) : wfin ((w ++ s).foldl wstep (ws, [])) = wfin (s.foldl wstep (ws ++ [w], [])) := by
  rw [List.foldl_append, wfold_word w ws [] h, List.nil_append]
  rcases hs with rfl | ⟨r, rfl⟩
  · show wfin (ws, w) = wfin (ws ++ [w], [])
    unfold wfin
    rw [if_neg hn, if_pos rfl]
  · rw [List.foldl_cons, List.foldl_cons, wst_sp, wst_sp, if_neg hn, if_pos rfl]
theorem wf_sp (s : List Nat) (ws : List (List Nat)) : wfin ((32 :: s).foldl wstep (ws, [])) = wfin (s.foldl wstep (ws, [])) := by
  rw [List.foldl_cons, wst_sp, if_pos rfl]
theorem sign40 : Unicode.isSpace 40 = false := by decide +kernel
theorem sign41 : Unicode.isSpace 41 = false := by decide +kernel
theorem bl_cons (r : List Nat) : Bl (32 :: r) := .inr ⟨r, rfl⟩
theorem spc_more_bl (ns : List N) (s : List Nat) (h : Bl s) : Bl (spc (N.more ns) ++ s) := by
  cases ns with
  | nil => exact h
  | cons n ns => exact .inr ⟨_, by show spc (32 :: _) ++ s = _; rw [spc_cons]; rfl⟩
theorem wf_leaf {n : N} (h : n.ok) (hl : Lf n) {s : List Nat} (hs : Bl s) (ws : List (List Nat)) : wfin ((spc n.txt ++ s).foldl wstep (ws, [])) = wfin (s.foldl wstep (ws ++ [n.txt], [])) := by
  obtain ⟨h1, h2⟩ := leaf_sgn h hl
  rw [spc_free fun c hc => by have := wcs_out (h2 c hc); omega]
  exact wf_word h1 (fun c hc => wcs_nb (h2 c hc)) hs ws
mutual
theorem wf_txt : ∀ (n : N), n.ok → ∀ (s : List Nat) (ws : List (List Nat)), Bl s → wfin ((spc n.txt ++ s).foldl wstep (ws, [])) = wfin (s.foldl wstep (ws ++ n.tk.map Tk.wd, []))
  | .non, h, s, ws, hs => wf_leaf h (.inl rfl) hs ws
  | .wrd w, h, s, ws, hs => wf_leaf h (.inr (.inl ⟨w, rfl⟩)) hs ws
  | .num i, h, s, ws, hs => wf_leaf h (.inr (.inr ⟨i, rfl⟩)) hs ws
  | .tup ns, h, s, ws, hs => by
    have e : spc (N.tup ns).txt ++ s = 32 :: ([40] ++ (32 :: (spc (N.txts ns) ++ (32 :: ([41] ++ (32 :: s)))))) := by
      show spc (40 :: (N.txts ns ++ [41])) ++ s = _
      rw [spc_cons, spc_app, spc_cons]
      simp [spc]
    have g1 : ∀ c ∈ [40], Unicode.isSpace c = false := fun c hc => by rw [List.mem_singleton.mp hc]; exact sign40
    have g2 : ∀ c ∈ [41], Unicode.isSpace c = false := fun c hc => by rw [List.mem_singleton.mp hc]; exact sign41
    rw [e, wf_sp, wf_word (by simp) g1 (bl_cons _), wf_sp, wf_txts ns h _ _ (bl_cons _), wf_sp, wf_word (by simp) g2 (bl_cons _), wf_sp]
    congr 2
    show _ = (ws ++ ([40] :: (N.tks ns ++ [Tk.cls]).map Tk.wd), [])
    rw [List.map_append]
    simp [Tk.wd]
theorem wf_txts : ∀ (ns : List N), N.oks ns → ∀ (s : List Nat) (ws : List (List Nat)), Bl s → wfin ((spc (N.txts ns) ++ s).foldl wstep (ws, [])) = wfin (s.foldl wstep (ws ++ (N.tks ns).map Tk.wd, []))
  | [], _, s, ws, hs => by simp [N.txts, N.tks, spc]
  | n :: ns, h, s, ws, hs => by
    show wfin ((spc (n.txt ++ N.more ns) ++ s).foldl wstep (ws, [])) = _
    rw [spc_app, List.append_assoc, wf_txt n h.1 _ ws (spc_more_bl ns s hs), wf_more ns h.2 s _ hs]
    show _ = wfin (s.foldl wstep (ws ++ (n.tk ++ N.tks ns).map Tk.wd, []))
    rw [List.map_append, List.append_assoc]
theorem wf_more : ∀ (ns : List N), N.oks ns → ∀ (s : List Nat) (ws : List (List Nat)), Bl s → wfin ((spc (N.more ns) ++ s).foldl wstep (ws, [])) = wfin (s.foldl wstep (ws ++ (N.tks ns).map Tk.wd, []))
  | [], _, s, ws, hs => by simp [N.more, N.tks, spc]
  | n :: ns, h, s, ws, hs => by
    have e : spc (N.more (n :: ns)) ++ s = 32 :: (spc n.txt ++ (spc (N.more ns) ++ s)) := by
      show spc (32 :: (n.txt ++ N.more ns)) ++ s = _
      rw [spc_cons, spc_app, List.append_assoc]
      simp
    rw [e, wf_sp, wf_txt n h.1 _ ws (spc_more_bl ns s hs), wf_more ns h.2 s _ hs]
    show _ = wfin (s.foldl wstep (ws ++ (n.tk ++ N.tks ns).map Tk.wd, []))
    rw [List.map_append, List.append_assoc]
end
/-! ### replacing -/
theorem repl_one (d : Nat) (z : List Nat) : ∀ t : List Nat, StrLaws.replL [d] z t = t.flatMap fun c => if c = d then z else [c]
  | [] => StrLaws.replL_nil
  | c :: t => by
    rw [List.flatMap_cons]
    by_cases h : c = d
    · rw [if_pos h, StrLaws.replL_hit (by simp) (by rw [h]; rfl)]
      show z ++ StrLaws.replL [d] z t = _
      rw [repl_one d z t]
    · rw [if_neg h, StrLaws.replL_miss (by simpa using h), repl_one d z t]; rfl
theorem spc_two (t : List Nat) : StrLaws.replL [41] [32, 41, 32] (StrLaws.replL [40] [32, 40, 32] t) = spc t := by
  rw [repl_one, repl_one, List.flatMap_assoc]
  unfold spc
  congr 1
  funext c
  by_cases h : c = 40
  · rw [if_pos h, if_pos h]; rfl
  · rw [if_neg h, if_neg h]
    show (if c = 41 then _ else [c]) ++ [] = _
    rw [List.append_nil]
theorem s_opn : tl (Str.ofString "(") = [40] := by decide +kernel
theorem s_cls : tl (Str.ofString ")") = [41] := by decide +kernel
theorem s_opn3 : tl (Str.ofString " ( ") = [32, 40, 32] := by decide +kernel
theorem s_cls3 : tl (Str.ofString " ) ") = [32, 41, 32] := by decide +kernel
theorem repl_txt (t : List Nat) : Txt.replace (Txt.replace (SX.S t) (Str.ofString "(") (Str.ofString " ( ")) (Str.ofString ")") (Str.ofString " ) ") = SX.S (spc t) := by
  apply TL.ext_tl
  have h1 : 1 ≤ (Str.ofString "(").length := by decide +kernel
  have h2 : 1 ≤ (Str.ofString ")").length := by decide +kernel
  have a := StrLaws.replace_list (x := SX.S t) (z := Str.ofString " ( ") h1
  have b := StrLaws.replace_list (x := Txt.replace (SX.S t) (Str.ofString "(") (Str.ofString " ( ")) (z := Str.ofString " ) ") h2
  show (Txt.replace (Txt.replace (SX.S t) (Str.ofString "(") (Str.ofString " ( ")) (Str.ofString ")") (Str.ofString " ) ")).cps.toList = spc t
  rw [b, a]
  have e1 : (Str.ofString "(").cps.toList = [40] := s_opn
  have e2 : (Str.ofString ")").cps.toList = [41] := s_cls
  have e3 : (Str.ofString " ( ").cps.toList = [32, 40, 32] := s_opn3
  have e4 : (Str.ofString " ) ").cps.toList = [32, 41, 32] := s_cls3
  rw [e1, e2, e3, e4]
  exact spc_two t
theorem words_note {n : N} (h : n.ok) : Txt.words (SX.S (spc n.txt)) = (n.tk.map Tk.wd).map SX.S := by
  have e := words_tl (SX.S (spc n.txt))
  have e2 : tl (SX.S (spc n.txt)) = spc n.txt := tl_mk _
  rw [e2] at e
  have w := wf_txt n h [] [] (.inl rfl)
  rw [List.append_nil] at w
  rw [w] at e
  have e3 : wfin (([] : List Nat).foldl wstep ([] ++ n.tk.map Tk.wd, [])) = n.tk.map Tk.wd := by
    show wfin ([] ++ n.tk.map Tk.wd, []) = _
    unfold wfin
    rw [if_pos rfl, List.nil_append]
  rw [e3] at e
  rw [← e, List.map_map]
  have : (SX.S ∘ tl) = id := by funext x; exact mk_tl x
  rw [this, List.map_id]
end GN
/-! a def that calls replace on a text with written texts: a token is out, as it has a parameter -/
namespace L2
open PySem PySem.Spec PyProof.Rows CwR
section
variable {X : Cx}
theorem PSsT.nox {st : List Stmt} {t : TS} (h : PSsT X.nox st t) : PSsT X st t := fun pins s σ H D h0 I hw => by
  have := h pins s σ H D h0 (I.wish _) hw
  exact wpAny_mono this (fun f s1 q => SP.unwish q) fun _ _ q => False.elim q
theorem pet_m0 {id : String} {name : Str} {o : Expr} {to : TE} {apos pos : Pos} {r : V → List V → Hp → VK → Prop} (slot : Slot "str" name id) (ty : typeOf (.builtin id) = pure (.type "method_descriptor")) (rule : MtR X id r) (ho : PET X o to)
    (hbase : attributeBase o name X.env (eval o X.env) = eval o X.env := by rfl) (hline : (apos.endLine == pos.line) = true := by rfl) : PET X (.Call (.Attribute o name apos) [] [] pos) (tM0 r to) := by
  intro pins s σ H Q h0 I h
  refine PySem.Call_method0 hbase hline (thn (ho pins s σ H _ h0 I h) fun v s1 ⟨x, H1, I1, r1, q1⟩ => ?_)
  obtain ⟨⟨a, rfl⟩, q1⟩ := q1
  obtain ⟨t, rfl⟩ := _root_.id r1
  exact ⟨"str", _, F.plainAttrs_str, slot, ty, typeIs_str _ _ _, (fun _ e => nomatch e), Calls.callWith_builtin rfl (PySem.evalArgs_none (rule pins s1 σ H1 _ [] _ [] Q I1 r1 .nil q1))⟩
end
/-- a def with a parameter, none of its names a cell -/
theorem Fun.okT {P : Program} {w : World} {K : PySem.W.Frag} {mg : Str → Option Value} {base : Heap} {x qual : Str} {st : Stmt} {f : Addr} {fd : FuncData} {N ps : List Str} {k : Nat} {sp : Sp} (F : Fun K x qual st f fd) (S : FnScope N ps (defScope st)) (len : ∀ vs H Q E, sp vs H Q E → vs.length = ps.length)
    (hnc : ∀ y ∈ (defScope st).names, y.2 ≠ .cell) (hps : 1 ≤ ps.length)
    (hbody : ∀ (cdv : Value) (A : Around) (outer : List Env) (s : Shared) (H : Hp) (vs : List V) (Q : VK) (E : XK), Room k (A.deeper (envOfC qual (defScope st) s.heap.objs.size f cdv)) → sp vs H Q E →
      ∃ t, PSsT (cxOf CX0 P w K mg base N qual (defScope st) f cdv A outer s H E).nox (defBody st) t ∧ t { nx := fun _ H' => Q .non H', rt := Q } (start N vs) H) : FnOk P w K mg base CX0 (k + 1) f fd ps sp := by
  obtain ⟨oc, od, kV, doc, pm, an, cdv, ct, osl, rfl, lk, hcd⟩ := F.ex
  refine fn_ofT lk hcd S hnc hps len fun A outer s H vs Q E hr hsp => ?_
  obtain ⟨t, h, q⟩ := hbody cdv A outer s H vs Q E hr hsp
  exact ⟨t, h.nox, q⟩
end L2
/-! a for loop in a generator's body -/
namespace PySem
open Sem (wp)
section
variable {prog : Program} {w : World} {A : Around} {R : GenEnd} {Y : Protocol} {n : Nat} {s₀ : Shared} {fs : List Frame} {s : Shared} {env : Env}
theorem seg_blockNil (hk : Seg (model prog w) A R Y n s₀ (.block [] env) (.pure (.done .next)) fs s) : Seg (model prog w) A R Y n s₀ (.block [] env) ((model prog w).den (.block [] env)) fs s := hk
theorem seg_forLoop {tg : Expr} {it : Value} {body : List Stmt} {c0 : Code} (hc0 : c0 = .forLoop tg it body [] env) {EE : Value → Shared → Prop}
    (hE : ∀ x s', EE x s' → Seg (model prog w) A R Y n s₀ c0 ((do noteFrame x env; theTreesLotGoes x : Sem Unit).wrap (fun _ => .raise x) .raise id id) fs s')
    (h : wpAny (model prog w) (A.over c0 fs) (pyNext it) (fun r s1 => match r with
      | none => Seg (model prog w) A R Y n s₀ (.block [] env) (.pure (.done .next)) fs s1
      | some v => wpAny (model prog w) (A.over c0 fs) (letOwnedTupleGo tg it v) (fun _ s1' => wpAny (model prog w) (A.over c0 fs) (assign tg env v) (fun _ s2 =>
          Seg (model prog w) A R Y n s₀ c0 ((execs body env).wrap (fun f => match f with
            | .next | .cont => .pure (.again c0)
            | .brk => .pure (.done .next)
            | .ret v => .pure (.done (.ret v))) (fun e => (do noteFrame e env; theTreesLotGoes e : Sem Unit).wrap (fun _ => .raise e) .raise id id) id id) fs s2) EE s1') EE s1) EE s) :
    Seg (model prog w) A R Y n s₀ c0 ((model prog w).den c0) fs s := by
  subst hc0
  show Seg _ A R Y n s₀ _ ((forTurn tg it body [] env).onRaise (fun x => do noteFrame x env; theTreesLotGoes x)) fs s
  unfold forTurn
  have hE' : ∀ x s', EE x s' → Seg (model prog w) A R Y n s₀ (.forLoop tg it body [] env) (((do noteFrame x env; theTreesLotGoes x : Sem Unit)).bind fun _ => .raise x) fs s' := fun x s' hx => by
    rw [Sem.bind_eq_wrap]; exact hE x s' hx
  rw [Sem.onRaise_eq_wrap]
  refine seg_bind_wrap (wpAny_standAt ?_)
  refine seg_bind_wrap (wpAny_onRaise (wpAny_mono h (fun r s1 hr => ?_) fun x s' hx => wpAny_standAt (hE' x s' hx)))
  cases r with
  | none => exact seg_again rfl (seg_blockNil hr)
  | some v =>
    refine seg_bind_wrap (wpAny_mono hr (fun _ s1' h1' => ?_) fun x s' hx => hE' x s' hx)
    refine seg_bind_wrap (wpAny_mono h1' (fun _ s2 h2 => ?_) fun x s' hx => hE' x s' hx)
    rw [Sem.bind_eq_wrap', Sem.wrap_wrap]
    rw [Sem.wrap_congr (execs body env) _ _ (K' := fun f => match f with
            | .next | .cont => .pure (.again (.forLoop tg it body [] env))
            | .brk => .pure (.done .next)
            | .ret v => .pure (.done (.ret v))) (H' := (fun e => (do noteFrame e env; theTreesLotGoes e : Sem Unit).wrap (fun _ => .raise e) .raise id id))
        (fun f => by cases f <;> rfl)
        (fun e => by first | exact Sem.bind_eq_wrap _ _ | (show (do noteFrame e env; theTreesLotGoes e : Sem Unit).bind (fun _ => .raise e) = _; rw [Sem.bind_eq_wrap]))]
    exact h2
end
end PySem
namespace L2
open PySem PySem.Spec PyProof.Rows GenW
section
variable {X : Cx} {st : Stmt} {rest : List Stmt}
def tGFor (wi : TI) (g : TG) (tb : TGn) : TGn := fun D ys σ H => wi σ H fun J H1 => ∃ W : Nat → Nat → List V → St → Hp → Prop, (∃ m, W 0 m ys σ H1) ∧ ∀ i m ys σ H, W i m ys σ H →
  (J.stop i H ∧ D.nx ys σ H) ∨ (J.go i H ∧ ∃ N : List V → St → Hp → Prop, (∀ ys' σ' H', N ys' σ' H' → ∃ m', m' < m ∧ W (i + 1) m' ys' σ' H') ∧ ∀ x H', J.yld i H x H' → g x σ H' fun σ2 H2 => tb { D with nx := N, ct := N, bk := D.nx } ys σ2 H2)
theorem gs_for {tg iter : Expr} {body : List Stmt} {pos : Pos} {wi : TI} {g : TG} {tb : TGn} (hp : PassesOwn (model X.prog X.w) X.A X.env X.xe) (hc : X.calm = true) (hi : PI X tg iter wi) (hg : PG X tg g) (hb : GSs X body tb)
    (hs : ∀ x, foldedSetIterable iter X.env x = pure x := by intro _; rfl) : GS X (.For tg iter body [] pos) (tGFor wi g tb) := by
  refine ⟨fun A S ip R n ys s₀ c fs K J gd lv s σ H D gc k0 k hI ht => ?_⟩
  obtain ⟨acc, cc, r, I⟩ := hI
  rw [exec_For]
  refine seg_bind_wrap (wpAny_standAt ?_)
  refine seg_bind_wrap ?_
  rw [gc.over]
  refine wpAny_mono (hi.run _ s σ H _ I ht) (fun v s1 h1 => ?_) fun x s' hx => k.exc n s₀ x s' hx
  refine seg_bind_wrap (wpAny_of_eq (hs v) ?_)
  refine seg_bind_wrap (wpAny_standAt ?_)
  refine seg_bind_wrap (wpAny_holding ?_)
  rw [gc.over]
  refine wpAny_mono h1 (fun itv s2 h2 => ?_) fun x s' hx => k.exc n s₀ x s' hx
  obtain ⟨it, fp, tn, Jt, H2, e, I2, T, st2, f2, W, ⟨m0, w0⟩, turn⟩ := h2
  subst e
  have fS : ∀ b ∈ fp, b ≠ S := fun b hb z => (f2 b hb).2.2.2.2.2 (S, lstObj acc cc) (List.mem_append_right _ List.mem_cons_self) z.symm
  have stat : ∀ {H' : Hp} {acc' : Array Value} {c' : Nat}, (∀ b ∈ fp, H' b = none) → ∀ b ∈ fp, FpOk X ((S, lstObj acc' c') :: ip) H' b := fun {H' acc' c'} hn b hb => by
    obtain ⟨_, q1, q2, q3, q4, q5⟩ := f2 b hb
    refine ⟨hn b hb, q1, q2, q3, q4, fun p hp => ?_⟩
    rcases List.mem_append.mp hp with y | y
    · exact q5 p (List.mem_append_left _ y)
    · rcases List.mem_cons.mp y with y | y
      · rw [y]; exact (fS b hb).symm
      · exact q5 p (List.mem_append_right _ (List.mem_cons_of_mem _ y))
  refine seg_call fun p => ?_
  have gl := fun (kk : Result → Sem PySem.Fin) => gc_loop (k := kk) (c' := .forLoop tg (.ref it) body [] X.env) (l := lv []) (kp := []) (p := p) gc rfl rfl
  have gl2 := fun (kk : Result → Sem PySem.Fin) => gc_loop (k := kk) (c' := .block [] X.env) (l := lv []) (kp := []) (p := p) gc rfl rfl
  have loop : ∀ (m i n : Nat) (ys : List V) (s₀ s : Shared) (σ : St) (H : Hp), n + ys.length = sizeLine → W i m ys σ H → GI X S ip ys σ H s → tn i s.heap → (∀ b ∈ fp, H b = none) →
      Seg (model X.prog X.w) A R (GY X S) n s₀ (.forLoop tg (.ref it) body [] X.env) ((model X.prog X.w).den (.forLoop tg (.ref it) body [] X.env))
        (.ret (fun r => ((match r with | .ok f => (.pure f : Sem Flow) | .error e => .raise e).onRaise (cameBack X.env)).wrap K J gd lv) none (gd false) (lv []) c p [] :: fs) s := by
    intro m
    induction m using Nat.strongRecOn with
    | ind m ih =>
      intro i n ys s₀ s σ H hn w hI ht hfr
      have ee : ∀ (n : Nat) (s₀ : Shared) (x : Value) (s' : Shared), X.xe x s' → Seg (model X.prog X.w) A R (GY X S) n s₀ (.forLoop tg (.ref it) body [] X.env)
          ((do noteFrame x X.env; theTreesLotGoes x : Sem Unit).wrap (fun _ => .raise x) .raise id id)
          (.ret (fun r => ((match r with | .ok f => (.pure f : Sem Flow) | .error e => .raise e).onRaise (cameBack X.env)).wrap K J gd lv) none (gd false) (lv []) c p [] :: fs) s' := fun n s₀ x s' hx => by
        refine seg_wrap ?_
        rw [(gl _).over]
        refine wpAny_bind (wpAny_mono (hp x s' hx) (fun _ s'' hcb => wpAny_theTreesLotGoes ?_) fun y s'' hcb => ?_)
        · exact seg_leaf (.error x) (seg_cameBack gc k hcb)
        · exact seg_leaf (.error y) (seg_cameBack gc k hcb)
      refine seg_forLoop rfl (EE := X.xe) (fun x s' hx => ee n s₀ x s' hx) ?_
      rw [(gl _).over]
      obtain ⟨acc, cc, r, I⟩ := hI
      rcases turn i m ys σ H w with ⟨stop, qn⟩ | ⟨go, N, hN, step⟩
      · refine thn (T.done X rfl rfl rfl hc i _ s σ H X.xe I (stat hfr) ht stop) fun r' s4 ⟨hr, I4⟩ => ?_
        subst hr
        exact seg_leaf (.ok .next) (k.ok n ys s₀ s4 .next hn ⟨σ, H, ⟨acc, cc, r, I4⟩, qn⟩)
      · refine thn (T.item X rfl rfl rfl hc i _ s σ H X.xe I (stat hfr) ht go) fun r' s4 ⟨u, hr, h4⟩ => ?_
        subst hr
        refine thn h4 fun _ s5 ⟨x, H5, I5, r5, y5, st5, fr5⟩ => ?_
        have I5' := I5.pinned (stat fr5) (T.obj _ _ st5)
        refine thn (hg.run _ s5 σ H5 x u _ I5' r5 (step x H5 y5)) fun _ s6 ⟨σ6, H6, I6, q6⟩ => ?_
        have gb : ∀ (kk : Result → Sem PySem.Fin), GC X S (ip ++ pinsAt fp s5.heap) A (.forLoop tg (.ref it) body [] X.env) (.ret kk none (gd false) (lv []) c p [] :: fs) id := fun kk => { gl kk with
          ip := fun q hq => (List.mem_append.mp hq).elim (fun z => gc.ip q z) fun z => fS q.1 (of_pinsAt z).1 }
        refine hb.run A S (ip ++ pinsAt fp s5.heap) R n ys s₀ _ _ _ _ id id s6 σ6 H6 { D with nx := N, ct := N, bk := D.nx } (gb _) hn ⟨fun n' ys' s₀' s7 f hn' hs7 => ?_, fun n' s₀' x s3 hx => ee n' s₀' x s3 hx⟩ ⟨acc, cc, r, I6⟩ q6
        have unp : ∀ {ys' : List V} {σ7 : St} {H7 : Hp}, GI X S (ip ++ pinsAt fp s5.heap) ys' σ7 H7 s7 → GI X S ip ys' σ7 H7 s7 ∧ tn (i + 1) s7.heap ∧ ∀ b ∈ fp, H7 b = none := fun {ys' σ7 H7} h => by
          obtain ⟨acc', c', r', I7⟩ := h
          have pin7 : ∀ b ∈ fp, ∀ o, s5.heap.get? b = some o → s7.heap.get? b = some o ∧ H7 b = none := fun b hb o e => by
            have := I7.pin (b, o) (List.mem_append_right _ (List.mem_cons_of_mem _ (List.mem_append_right _ (mem_pinsAt hb e))))
            exact ⟨this.1, this.2.1⟩
          refine ⟨⟨acc', c', r', I7.unpinned (pins := (S, lstObj acc' c') :: ip) (pl := pinsAt fp s5.heap)⟩, T.keep _ _ _ st5 fun b hb o e => (pin7 b hb o e).1, fun b hb => ?_⟩
          obtain ⟨o, e, _⟩ := T.obj _ _ st5 b hb
          exact (pin7 b hb o e).2
        cases f with
        | next =>
          obtain ⟨σ7, H7, I7, n7⟩ := hs7
          obtain ⟨m', hm, w7⟩ := hN ys' σ7 H7 n7
          obtain ⟨g7, t7, fr7⟩ := unp I7
          exact seg_again rfl (ih m' hm (i + 1) n' ys' s₀' s7 σ7 H7 hn' w7 g7 t7 fr7)
        | cont =>
          obtain ⟨σ7, H7, I7, n7⟩ := hs7
          obtain ⟨m', hm, w7⟩ := hN ys' σ7 H7 n7
          obtain ⟨g7, t7, fr7⟩ := unp I7
          exact seg_again rfl (ih m' hm (i + 1) n' ys' s₀' s7 σ7 H7 hn' w7 g7 t7 fr7)
        | brk =>
          obtain ⟨σ7, H7, I7, n7⟩ := hs7
          exact seg_leaf (.ok .next) (k.ok n' ys' s₀' s7 .next hn' ⟨σ7, H7, (unp I7).1, n7⟩)
        | ret v =>
          obtain ⟨v', σ7, H7, I7, rv, n7⟩ := hs7
          exact seg_leaf (.ok (.ret v)) (k.ok n' ys' s₀' s7 (.ret v) hn' ⟨v', σ7, H7, (unp I7).1, rv, n7⟩)
  exact loop m0 0 n ys s₀ s2 σ H2 k0 w0 ⟨acc, cc, r, I2⟩ st2 fun b hb => (f2 b hb).1
end
end L2
/-! enumerate(zip(a, b)) of two tuples -/
namespace GE
open PySem
section
variable {prog : Program} {w : World} {A : Around} {E : Value → Shared → Prop} {s : Shared} {z e it : Addr}
/-- what zip hands out, as next(..) of it sees it -/
theorem nextOf_zip {Q : Value → Shared → Prop} (ty : s.TypeIs (.ref z) "zip") (h : wpAny (model prog w) A.in1 (Builtin.«zip.__next__» ⟨[.ref z], []⟩) (fun fin s' => ∃ v, fin = .done (.ret v) ∧ Q v s') E s) : wpAny (model prog w) A (Builtin.SmallTypes.nextOf (.ref z)) Q E s := by
  unfold Builtin.SmallTypes.nextOf
  refine wpAny_bind (wpAny_callSpecial?_slot (name := Str.ofString "__next__") ty F.slot_zip_next (wpAny_call_entry F.slot_zip_next ty F.entry_zip_next (wpAny_mono h (fun fin s' hq => ?_) fun _ _ q => q) (F.args_zip_next_1 _)))
  obtain ⟨v, hv, q⟩ := hq
  exact ⟨v, hv, wpAny_pure q⟩
/-- one turn of enumerate over whatever hands x out -/
theorem enum_item {i : Nat} {x old : Value} {Pr : Heap → Prop} {Q : Value → Shared → Prop} (he : IsEnum s.heap e it i old)
    (hn : ∀ Q' : Value → Shared → Prop, (∀ h1, Pr h1 → Q' x { s with heap := h1 }) → wpAny (model prog w) A (Builtin.SmallTypes.nextOf (.ref it)) Q' E s) (hp : ∀ h1, Pr h1 → h1.get? e = s.heap.get? e)
    (q : ∀ h1 h', Pr h1 → IsEnumOut h' e it ((i : Int) + 1) x h1.objs.size → h'.get? h1.objs.size = some { cls := .type "tuple", data := .seq #[.int i s.toks, x] } → h'.objs.size = h1.objs.size + 1 → (∀ b o, b ≠ e → h1.get? b = some o → h'.get? b = some o) →
      Q (.ref h1.objs.size) { s with heap := h', toks := s.toks + 1 }) :
    wpAny (model prog w) A (Builtin.«enumerate.__next__» ⟨[.ref e], []⟩) (fun fin s' => ∃ v, fin = .done (.ret v) ∧ Q v s') E s := by
  obtain ⟨hp0, g, d, tk, os⟩ := s
  show wpAny (model prog w) A (field (.ref e) 2 >>= _) _ _ _
  refine wpAny_bind (wpAny_field he rfl (x := .ref it) rfl (wpAny_bind (hn _ fun u1 p1 => ?_)))
  have e1 : IsEnum u1 e it i old := (hp u1 p1).trans he
  show wpAny (model prog w) A (field (.ref e) 3 >>= _) _ _ _
  refine wpAny_bind (wpAny_field e1 rfl (x := rawInt i) rfl ?_)
  show wpAny (model prog w) A (field (.ref e) 4 >>= _) _ _ _
  refine wpAny_bind (wpAny_field e1 rfl (x := .none) rfl ?_)
  show wpAny (model prog w) A (mkInt i >>= _) _ _ _
  refine wpAny_bind (wpAny_mkInt ?_)
  show wpAny (model prog w) A (setField (.ref e) 3 (rawInt ((i : Int) + 1)) >>= _) _ _ _
  refine wpAny_bind (wpAny_setField_rec e1 (by simp) fun u2 e2 b2 => ?_)
  have e2 : IsEnum u2 e it ((i : Int) + 1) old := e2
  have b2 : Heap.SameBut e u1 u2 := b2
  show wpAny (model prog w) A (setField (.ref e) 4 .none >>= _) _ _ _
  refine wpAny_bind (wpAny_setField_rec e2 (by simp) fun u3 e3 b3 => ?_)
  have e3 : IsEnum u3 e it ((i : Int) + 1) old := e3
  have b3 : Heap.SameBut e u2 u3 := b3
  show wpAny (model prog w) A (newTuple [.int i tk, x] >>= _) _ _ _
  refine wpAny_bind (wpAny_newTuple ?_)
  have z3 : u3.objs.size = u1.objs.size := b3.1.trans b2.1
  have el : e < u3.objs.size := Heap.lt_size e3
  have e4 : IsEnum (u3.push { cls := .type "tuple", data := .seq #[.int i tk, x] }) e it ((i : Int) + 1) old := Heap.get?_push_of_some _ e3
  have t4 : (u3.push { cls := .type "tuple", data := .seq #[.int i tk, x] }).get? u3.objs.size = some { cls := .type "tuple", data := .seq #[.int i tk, x] } := Heap.get?_push_size _ rfl
  have z4 : (u3.push { cls := .type "tuple", data := .seq #[.int i tk, x] }).objs.size = u3.objs.size + 1 := Heap.size_push _ _
  have k4 : ∀ b o, b ≠ e → u1.get? b = some o → (u3.push { cls := .type "tuple", data := .seq #[.int i tk, x] }).get? b = some o := fun b o hb ho => Heap.get?_push_of_some _ (b3.extBut b o hb (b2.extBut b o hb ho))
  show wpAny (model prog w) A (Builtin.SmallTypes.ownedTupleIsFree (.ref e) >>= _) _ _ ⟨u3.push { cls := .type "tuple", data := .seq #[.int i tk, x] }, g, d, tk + 1, os⟩
  generalize u3.push { cls := .type "tuple", data := .seq #[.int i tk, x] } = u4 at e4 t4 z4 k4 ⊢
  refine wpAny_bind ?_
  unfold Builtin.SmallTypes.ownedTupleIsFree
  refine wpAny_bind (wpAny_field e4 rfl (x := .none) rfl (wpAny_pure ?_))
  rw [if_pos rfl]
  refine wpAny_bind (wpAny_rule (wpAny_bind (wpAny_field e4 rfl (x := old) rfl (wpAny_bind (wpAny_setField_rec e4 (by simp) fun u5 e5 b5 => ?_)))))
  have e5 : IsEnum u5 e it ((i : Int) + 1) x := e5
  have b5 : Heap.SameBut e u4 u5 := b5
  show wpAny (model prog w) A (Builtin.SmallTypes.ownedTupleHandOut (.ref e) (.ref u3.objs.size) >>= _) _ _ _
  refine wpAny_bind ?_
  unfold Builtin.SmallTypes.ownedTupleHandOut
  refine wpAny_bind (wpAny_setField_rec e5 (by simp) fun u6 e6 b6 => ?_)
  have e6 : IsEnumOut u6 e it ((i : Int) + 1) x u3.objs.size := e6
  have b6 : Heap.SameBut e u5 u6 := b6
  refine wpAny_setField_rec e6 (by simp) fun u7 e7 b7 => ?_
  have e7 : IsEnumOut u7 e it ((i : Int) + 1) x u3.objs.size := e7
  have b7 : Heap.SameBut e u6 u7 := b7
  refine wpAny_bind (wpAny_letGo (wpAny_pure ⟨_, rfl, ?_⟩))
  have ne : u3.objs.size ≠ e := Nat.ne_of_gt el
  show Q (.ref u3.objs.size) _
  rw [z3] at e7 t4 z4 ne ⊢
  exact q u1 u7 p1 e7 (b7.extBut _ _ ne (b6.extBut _ _ ne (b5.extBut _ _ ne t4))) (by rw [b7.1, b6.1, b5.1, z4]) fun b o hb ho => b7.extBut b o hb (b6.extBut b o hb (b5.extBut b o hb (k4 b o hb ho)))
theorem py_enum_item {i : Nat} {x old : Value} {Pr : Heap → Prop} {Q : Option Value → Shared → Prop} (he : IsEnum s.heap e it i old)
    (hn : ∀ (E' : Value → Shared → Prop) (Q' : Value → Shared → Prop), (∀ h1, Pr h1 → Q' x { s with heap := h1 }) → wpAny (model prog w) A.in1 (Builtin.SmallTypes.nextOf (.ref it)) Q' E' s) (hp : ∀ h1, Pr h1 → h1.get? e = s.heap.get? e)
    (q : ∀ h1 h', Pr h1 → IsEnumOut h' e it ((i : Int) + 1) x h1.objs.size → h'.get? h1.objs.size = some { cls := .type "tuple", data := .seq #[.int i s.toks, x] } → h'.objs.size = h1.objs.size + 1 → (∀ b o, b ≠ e → h1.get? b = some o → h'.get? b = some o) →
      Q (some (.ref h1.objs.size)) { s with heap := h', toks := s.toks + 1 }) : wpAny (model prog w) A (pyNext (.ref e)) Q E s := by
  have ty : s.TypeIs (.ref e) "enumerate" := ⟨_, he, rfl⟩
  unfold pyNext
  exact wpAny_bind (wpAny_attempt (wpAny_callSpecial?_slot (name := Str.ofString "__next__") ty F.slot_enumerate_next (wpAny_call_entry F.slot_enumerate_next ty F.entry_enumerate_next (enum_item (Pr := Pr) he (fun Q' h => hn _ Q' h) hp fun h1 h' a b c d k => wpAny_pure (q h1 h' a b c d k)) (F.args_enumerate_next_1 _))))
theorem py_enum_end {i : Nat} {old : Value} {Pr : Heap → Prop} {Q : Option Value → Shared → Prop} (he : IsEnum s.heap e it i old)
    (hn : ∀ (E' : Value → Shared → Prop) (Q' : Value → Shared → Prop), (∀ h1 x, Pr h1 → (∃ o, h1.get? x = some o ∧ o.cls = .type "StopIteration") → E' (.ref x) { s with heap := h1 }) → wpAny (model prog w) A.in1 (Builtin.SmallTypes.nextOf (.ref it)) Q' E' s)
    (q : ∀ h1, Pr h1 → Q none { s with heap := h1 }) : wpAny (model prog w) A (pyNext (.ref e)) Q E s := by
  have ty : s.TypeIs (.ref e) "enumerate" := ⟨_, he, rfl⟩
  unfold pyNext
  refine wpAny_bind (wpAny_attempt (wpAny_callSpecial?_slot (name := Str.ofString "__next__") ty F.slot_enumerate_next (wpAny_call_entry F.slot_enumerate_next ty F.entry_enumerate_next ?_ (F.args_enumerate_next_1 _))))
  show wpAny (model prog w) A.in1 (field (.ref e) 2 >>= _) _ _ _
  refine wpAny_bind (wpAny_field he rfl (x := .ref it) rfl (wpAny_bind (hn _ _ fun u1 x p1 hx => ?_)))
  obtain ⟨o, ho, hc⟩ := hx
  exact wpAny_bind (wpAny_isInstance (T := "StopIteration") (b := true) ⟨o, ho, hc⟩ isSubtype_stop (wpAny_pure (q u1 p1)))
/-- a zip whose first field is v -/
abbrev ZO (h : Heap) (z TI TO : Addr) (v : Value) (f : Bool) : Prop := h.get? z = some { cls := .type "zip", dict := none, data := .fields #[v, .bool f, .bool false, .ref TI, .ref TO], slots := #[] }
theorem gone {a : Addr} {Q : Option Obj → Shared → Prop} (ho : s.heap.get? a = none) (h : Q none s) : wpAny (model prog w) A (loadIfAlive a) Q E s := by
  have h' : Q (s.heap.get? a) s := by rw [ho]; exact h
  exact fun _ _ _ => h'
/-- its pair is lost: it may be filled again -/
theorem lost_free {TI TO T : Addr} {f : Bool} {Q : Bool → Shared → Prop} (hZ : ZO s.heap z TI TO (rawInt T) f) (hT : s.heap.get? T = none) (h : Q true s) : wpAny (model prog w) A (Builtin.SmallTypes.ownedTupleIsFree (.ref z)) Q E s := by
  unfold Builtin.SmallTypes.ownedTupleIsFree
  refine wpAny_bind (wpAny_field hZ rfl (x := rawInt T) rfl ?_)
  show wpAny (model prog w) A (loadIfAlive ((T : Int).toNat) >>= _) _ _ _
  rw [Int.toNat_natCast]
  refine wpAny_bind (gone hT ?_)
  simp only [Option.isNone_none, if_true]
  exact wpAny_pure h
section
variable {TI TO T j1 j2 a b : Addr} {f : Bool} {n1 n2 : Nat} {xs ys : Array Value} {x y p0 q0 : Value}
theorem lost_item {Q : Value → Shared → Prop} (D : ZipApart z TI TO j1 j2 a b) (hZ : ZO s.heap z TI TO (rawInt T) f) (hT : s.heap.get? T = none) (hP : IsPair s.heap TI (.ref j1) (.ref j2)) (hO : IsPair s.heap TO p0 q0)
    (it1 : s.heap.IsTupleIter j1 a n1) (it2 : s.heap.IsTupleIter j2 b n2) (ta : s.heap.IsTuple a xs) (tb : s.heap.IsTuple b ys) (ex : xs[n1]? = some x) (ey : ys[n2]? = some y)
    (q : ∀ h', ZO h' z TI TO (rawInt s.heap.objs.size) false → IsPair h' TO x y → h'.IsTupleIter j1 a (n1 + 1) → h'.IsTupleIter j2 b (n2 + 1) → IsPair h' s.heap.objs.size x y → h'.objs.size = s.heap.objs.size + 1 →
      (∀ c o, c ≠ z → c ≠ TO → c ≠ j1 → c ≠ j2 → s.heap.get? c = some o → h'.get? c = some o) → Q (.ref s.heap.objs.size) { s with heap := h' }) :
    wpAny (model prog w) A (Builtin.«zip.__next__» ⟨[.ref z], []⟩) (fun fin s' => ∃ v, fin = .done (.ret v) ∧ Q v s') E s := by
  show wpAny (model prog w) A (field (.ref z) 2 >>= _) _ _ _
  refine wpAny_bind (wpAny_field hZ rfl (x := .bool false) rfl ?_)
  show wpAny (model prog w) A (field (.ref z) 3 >>= _) _ _ _
  refine wpAny_bind (wpAny_field hZ rfl (x := .ref TI) rfl (wpAny_bind (wpAny_seqItems hP rfl ?_)))
  show wpAny (model prog w) A (Builtin.SmallTypes.ownedTupleIsFree (.ref z) >>= _) _ _ _
  refine wpAny_bind (lost_free hZ hT ?_)
  rw [if_pos rfl]
  refine wpAny_bind (wpAny_rule (wpAny_bind (wpAny_field hZ rfl (x := .ref TO) rfl (wpAny_bind (wpAny_setField_rec hZ (by simp) fun u1 Z1 b1 => ?_)))))
  have Z1 : ZO u1 z TI TO .ellipsis f := Z1
  have e1 := (show Heap.SameBut z s.heap u1 from b1).extBut
  have g1 := (show Heap.SameBut z s.heap u1 from b1).1
  refine wpAny_bind ?_
  simp only [List.zipIdx_cons, List.zipIdx_nil, List.forIn_cons, List.forIn_nil]
  refine wpAny_bind (wpAny_bind (wpAny_onRaise ?_))
  show wpAny (model prog w) A (Builtin.SmallTypes.nextOf (.ref j1) >>= _) _ _ _
  refine wpAny_bind (RZ.nextOf_tuple_item (s := { s with heap := u1 }) (it1.extBut e1 D.i1z) (ta.extBut e1 D.l1z) ex fun u2 I2 b2 => wpAny_pure ?_)
  have e2 := (show Heap.SameBut j1 u1 u2 from b2).extBut
  have g2 := (show Heap.SameBut j1 u1 u2 from b2).1
  have O2 : IsPair u2 TO p0 q0 := e2 _ _ D.TOi1 (e1 _ _ D.TOz hO)
  refine wpAny_bind (wpAny_seqItems O2 rfl (wpAny_bind (wpAny_updateSeq_pair O2 fun u3 O3 b3 => wpAny_bind (wpAny_letGo (wpAny_pure ?_)))))
  have O3 : IsPair u3 TO x q0 := O3
  have e3 := (show Heap.SameBut TO u2 u3 from b3).extBut
  have g3 := (show Heap.SameBut TO u2 u3 from b3).1
  refine wpAny_bind (wpAny_bind (wpAny_onRaise ?_))
  show wpAny (model prog w) A (Builtin.SmallTypes.nextOf (.ref j2) >>= _) _ _ _
  refine wpAny_bind (RZ.nextOf_tuple_item (s := { s with heap := u3 }) (((it2.extBut e1 D.i2z).extBut e2 D.i12.symm).extBut e3 D.TOi2.symm) (((tb.extBut e1 D.l2z).extBut e2 D.l2i1).extBut e3 D.l2TO) ey fun u4 I4 b4 => wpAny_pure ?_)
  have e4 := (show Heap.SameBut j2 u3 u4 from b4).extBut
  have g4 := (show Heap.SameBut j2 u3 u4 from b4).1
  have O4 : IsPair u4 TO x q0 := e4 _ _ D.TOi2 O3
  refine wpAny_bind (wpAny_seqItems O4 rfl (wpAny_bind (wpAny_updateSeq_pair O4 fun u5 O5 b5 => wpAny_bind (wpAny_letGo (wpAny_pure (wpAny_pure ?_))))))
  have O5 : IsPair u5 TO x y := O5
  have e5 := (show Heap.SameBut TO u4 u5 from b5).extBut
  have g5 := (show Heap.SameBut TO u4 u5 from b5).1
  refine wpAny_bind (wpAny_seqItems O5 rfl (wpAny_bind (wpAny_newTuple ?_)))
  have sz : u5.objs.size = s.heap.objs.size := g5.trans (g4.trans (g3.trans (g2.trans g1)))
  have Z5 : ZO u5 z TI TO .ellipsis f := e5 _ _ D.TOz.symm (e4 _ _ D.i2z.symm (e3 _ _ D.TOz.symm (e2 _ _ D.i1z.symm Z1)))
  have up5 : ∀ c o, c ≠ z → c ≠ TO → c ≠ j1 → c ≠ j2 → s.heap.get? c = some o → u5.get? c = some o := fun c o c1 c2 c3 c4 k => e5 _ _ c2 (e4 _ _ c4 (e3 _ _ c2 (e2 _ _ c3 (e1 _ _ c1 k))))
  have J1 : u5.IsTupleIter j1 a (n1 + 1) := ((I2.extBut e3 D.TOi1.symm).extBut e4 D.i12).extBut e5 D.TOi1.symm
  have J2 : u5.IsTupleIter j2 b (n2 + 1) := I4.extBut e5 D.TOi2.symm
  have zl : u5.objs.size ≠ z := Nat.ne_of_gt (Heap.lt_size Z5)
  show wpAny (model prog w) A (Builtin.SmallTypes.ownedTupleHandOut (.ref z) (.ref u5.objs.size) >>= _) _ _ _
  refine wpAny_bind ?_
  unfold Builtin.SmallTypes.ownedTupleHandOut
  have Z6 : ZO (u5.push { cls := .type "tuple", data := .seq #[x, y] }) z TI TO .ellipsis f := Heap.get?_push_of_some _ Z5
  refine wpAny_bind (wpAny_setField_rec Z6 (by simp) fun u7 Z7 b7 => ?_)
  have Z7 : ZO u7 z TI TO (rawInt u5.objs.size) f := Z7
  refine wpAny_setField_rec Z7 (by simp) fun u8 Z8 b8 => ?_
  have Z8 : ZO u8 z TI TO (rawInt u5.objs.size) false := Z8
  have e7 := (show Heap.SameBut z _ u7 from b7).extBut
  have e8 := (show Heap.SameBut z u7 u8 from b8).extBut
  have up : ∀ c o, c ≠ z → u5.get? c = some o → u8.get? c = some o := fun c o c1 k => e8 _ _ c1 (e7 _ _ c1 (Heap.get?_push_of_some _ k))
  have P8 : IsPair u8 u5.objs.size x y := e8 _ _ zl (e7 _ _ zl (Heap.get?_push_size _ rfl))
  have z8 : u8.objs.size = u5.objs.size + 1 := by
    rw [(show Heap.SameBut z u7 u8 from b8).1, (show Heap.SameBut z _ u7 from b7).1, Heap.size_push]
  refine wpAny_pure ⟨_, rfl, ?_⟩
  show Q (.ref u5.objs.size) _
  rw [sz] at Z8 P8 z8 ⊢
  exact q u8 Z8 (up _ _ D.TOz O5) (J1.at fun o k => up _ o D.i1z k) (J2.at fun o k => up _ o D.i2z k) P8 z8 fun c o c1 c2 c3 c4 k => up c o c1 (up5 c o c1 c2 c3 c4 k)
theorem lost_end {Q : Fin → Shared → Prop} (hh : A.handled = none) (D : ZipApart z TI TO j1 j2 a b) (hZ : ZO s.heap z TI TO (rawInt T) f) (hT : s.heap.get? T = none) (hP : IsPair s.heap TI (.ref j1) (.ref j2))
    (it1 : s.heap.IsTupleIter j1 a n1) (ta : s.heap.IsTuple a xs) (ex : xs[n1]? = none)
    (q : ∀ h' r, (∀ c o, c ≠ z → c ≠ TO → c ≠ j1 → c ≠ j2 → s.heap.get? c = some o → h'.get? c = some o) → (∃ o, h'.get? r = some o ∧ o.cls = .type "StopIteration") → E (.ref r) { s with heap := h' }) :
    wpAny (model prog w) A (Builtin.«zip.__next__» ⟨[.ref z], []⟩) Q E s := by
  show wpAny (model prog w) A (field (.ref z) 2 >>= _) _ _ _
  refine wpAny_bind (wpAny_field hZ rfl (x := .bool false) rfl ?_)
  show wpAny (model prog w) A (field (.ref z) 3 >>= _) _ _ _
  refine wpAny_bind (wpAny_field hZ rfl (x := .ref TI) rfl (wpAny_bind (wpAny_seqItems hP rfl ?_)))
  show wpAny (model prog w) A (Builtin.SmallTypes.ownedTupleIsFree (.ref z) >>= _) _ _ _
  refine wpAny_bind (lost_free hZ hT ?_)
  rw [if_pos rfl]
  refine wpAny_bind (wpAny_rule (wpAny_bind (wpAny_field hZ rfl (x := .ref TO) rfl (wpAny_bind (wpAny_setField_rec hZ (by simp) fun u1 Z1 b1 => ?_)))))
  have Z1 : ZO u1 z TI TO .ellipsis f := Z1
  have e1 := (show Heap.SameBut z s.heap u1 from b1).extBut
  refine wpAny_bind ?_
  simp only [List.zipIdx_cons, List.zipIdx_nil, List.forIn_cons, List.forIn_nil]
  refine wpAny_bind (wpAny_bind (wpAny_onRaise ?_))
  show wpAny (model prog w) A (Builtin.SmallTypes.nextOf (.ref j1) >>= _) _ _ _
  refine wpAny_bind (RZ.nextOf_tuple_end (s := { s with heap := u1 }) hh (it1.extBut e1 D.i1z) (ta.extBut e1 D.l1z) ex fun u2 r b2 he => ?_)
  obtain ⟨o, ho, hc⟩ := he
  have Z2 : ZO u2 z TI TO .ellipsis f := b2 _ _ D.i1z.symm Z1
  have rz : r ≠ z := fun k => by subst k; rw [Z2] at ho; cases ho; simp at hc
  exact wpAny_setField_rec Z2 (by simp) fun u3 _ b3 => q u3 r (fun c o c1 _ c3 _ k => (show Heap.SameBut z u2 u3 from b3).extBut _ _ c1 (b2 _ _ c3 (e1 _ _ c1 k))) ⟨o, (show Heap.SameBut z u2 u3 from b3).extBut _ _ rz ho, hc⟩
end
end
end GE
namespace GE
open PySem
/-- a zip at z over the tuples at a and b, i pairs of which have come out; nothing is said of its last pair -/
def ZS (h : Heap) (z TI TO j1 j2 a b : Addr) (i : Nat) : Prop := IsPair h TI (.ref j1) (.ref j2) ∧ (∃ p q, IsPair h TO p q) ∧ h.IsTupleIter j1 a i ∧ h.IsTupleIter j2 b i ∧ (ZO h z TI TO .none false ∨ ∃ (T : Addr) (f : Bool), ZO h z TI TO (rawInt T) f)
theorem ZS.keep {h h' : Heap} {z TI TO j1 j2 a b : Addr} {i : Nat} (st : ZS h z TI TO j1 j2 a b i) (k : ∀ c ∈ [z, TI, TO, j1, j2], ∀ o, h.get? c = some o → h'.get? c = some o) : ZS h' z TI TO j1 j2 a b i := by
  obtain ⟨c1, ⟨p, q, c2⟩, c3, c4, c5⟩ := st
  refine ⟨k TI (by simp) _ c1, ⟨p, q, k TO (by simp) _ c2⟩, c3.at fun o e => k j1 (by simp) o e, c4.at fun o e => k j2 (by simp) o e, ?_⟩
  rcases c5 with e | ⟨T, f, e⟩
  · exact .inl (k z (by simp) _ e)
  · exact .inr ⟨T, f, k z (by simp) _ e⟩
theorem ZS.type {s : Shared} {z TI TO j1 j2 a b : Addr} {i : Nat} (st : ZS s.heap z TI TO j1 j2 a b i) : s.TypeIs (.ref z) "zip" := by
  obtain ⟨_, _, _, _, e | ⟨T, f, e⟩⟩ := st
  · exact ⟨_, e, rfl⟩
  · exact ⟨_, e, rfl⟩
section
variable {prog : Program} {w : World} {A : Around} {E : Value → Shared → Prop} {s : Shared} {z TI TO j1 j2 a b : Addr} {i : Nat} {xs ys : Array Value} {x y : Value}
theorem any_item {Q : Value → Shared → Prop} (D : ZipApart z TI TO j1 j2 a b) (st : ZS s.heap z TI TO j1 j2 a b i) (ta : s.heap.IsTuple a xs) (tb : s.heap.IsTuple b ys) (ex : xs[i]? = some x) (ey : ys[i]? = some y)
    (q : ∀ h', ZS h' z TI TO j1 j2 a b (i + 1) → IsPair h' s.heap.objs.size x y → (∀ c o, c ∉ [z, TI, TO, j1, j2] → s.heap.get? c = some o → h'.get? c = some o) → Q (.ref s.heap.objs.size) { s with heap := h' }) :
    wpAny (model prog w) A (Builtin.«zip.__next__» ⟨[.ref z], []⟩) (fun fin s' => ∃ v, fin = .done (.ret v) ∧ Q v s') E s := by
  obtain ⟨P1, ⟨p, r, P2⟩, t1, t2, c5⟩ := st
  rcases c5 with Z | ⟨T, f, Z⟩
  · exact RZ.zipT_next_item D Z P1 P2 t1 t2 ta tb ex ey fun h' Z' P2' t1' t2' e _ kp => q h' ⟨kp _ _ D.TIz D.TITO D.TIi1 D.TIi2 P1, ⟨_, _, P2'⟩, t1', t2', .inr ⟨_, false, Z'⟩⟩ e fun c o hc => kp c o (fun w => hc (by simp [w])) (fun w => hc (by simp [w])) (fun w => hc (by simp [w])) fun w => hc (by simp [w])
  · cases hT : s.heap.get? T with
    | none => exact lost_item D Z hT P1 P2 t1 t2 ta tb ex ey fun h' Z' P2' t1' t2' e _ kp => q h' ⟨kp _ _ D.TIz D.TITO D.TIi1 D.TIi2 P1, ⟨_, _, P2'⟩, t1', t2', .inr ⟨_, false, Z'⟩⟩ e fun c o hc => kp c o (fun w => hc (by simp [w])) (fun w => hc (by simp [w])) (fun w => hc (by simp [w])) fun w => hc (by simp [w])
    | some oT => exact GZ.held_item D Z hT P1 t1 t2 ta tb ex ey fun h' Z' t1' t2' e kp => q h' ⟨kp _ _ D.TIz D.TIi1 D.TIi2 P1, ⟨p, r, kp _ _ D.TOz D.TOi1 D.TOi2 P2⟩, t1', t2', .inr ⟨T, true, Z'⟩⟩ e fun c o hc => kp c o (fun w => hc (by simp [w])) (fun w => hc (by simp [w])) fun w => hc (by simp [w])
theorem any_end {Q : Fin → Shared → Prop} (hh : A.handled = none) (D : ZipApart z TI TO j1 j2 a b) (st : ZS s.heap z TI TO j1 j2 a b i) (ta : s.heap.IsTuple a xs) (tb : s.heap.IsTuple b ys) (ex : xs[i]? = none)
    (q : ∀ h' r, (∀ c o, c ∉ [z, TI, TO, j1, j2] → s.heap.get? c = some o → h'.get? c = some o) → (∃ o, h'.get? r = some o ∧ o.cls = .type "StopIteration") → E (.ref r) { s with heap := h' }) :
    wpAny (model prog w) A (Builtin.«zip.__next__» ⟨[.ref z], []⟩) Q E s := by
  obtain ⟨P1, ⟨p, r, P2⟩, t1, t2, c5⟩ := st
  rcases c5 with Z | ⟨T, f, Z⟩
  · exact RZ.zipT_next_end hh D Z P1 P2 t1 t2 ta tb (.inl ex) fun h' e kp he => q h' e (fun c o hc => kp c o (fun w => hc (by simp [w])) (fun w => hc (by simp [w])) (fun w => hc (by simp [w])) fun w => hc (by simp [w])) he
  · cases hT : s.heap.get? T with
    | none => exact lost_end hh D Z hT P1 t1 ta ex fun h' e kp he => q h' e (fun c o hc => kp c o (fun w => hc (by simp [w])) (fun w => hc (by simp [w])) (fun w => hc (by simp [w])) fun w => hc (by simp [w])) he
    | some oT => exact GZ.held_end hh D Z hT P1 t1 ta ex fun h' e kp he => q h' e (fun c o hc => kp c o (fun w => hc (by simp [w])) (fun w => hc (by simp [w])) fun w => hc (by simp [w])) he
end
/-- enumerate(z) of a new zip -/
theorem meets_enum_zip (z TI TO : Addr) : Meets (Builtin.«enumerate.__new__» ⟨[.type "enumerate", .ref z], []⟩) (fun _ R s => IsZip s.heap z TI TO .none ∧
    R (.ok (.ret (.ref s.heap.objs.size))) { s with heap := s.heap.push { cls := .type "enumerate", data := .fields #[.none, .bool false, .ref z, rawInt 0, .none, .none] } }) :=
  .of_wp fun prog w A R s h => by
    obtain ⟨hp, g, d, tk, os⟩ := s
    obtain ⟨hz, h⟩ := h
    have hsub := sub_enumerate
    have hZ : IsZip (Shared.heap ⟨hp, g, d, tk, os⟩) z TI TO .none := hz
    wp_walk using AutoSeq1.wpAny_loadPart' hz
    refine wpAny_stack_any fun st => wpAny_pure ?_
    split
    · rename_i c _ _ _ _ _
      cases (c == Value.type "enumerate") <;> (wp_walk using AutoSeq1.wpAny_loadPart' hz, wpAny_pyIter_zip hZ; exact ⟨_, rfl, h⟩)
    · wp_walk using AutoSeq1.wpAny_loadPart' hz, wpAny_pyIter_zip hZ
      exact ⟨_, rfl, h⟩
theorem call_enum_zip {prog : Program} {w : World} {A : Around} {E : Value → Shared → Prop} {s : Shared} {z TI TO : Addr} {Q : Value → Shared → Prop} (hz : IsZip s.heap z TI TO .none)
    (h : ∀ h', IsEnum h' s.heap.objs.size z 0 .none → h'.objs.size = s.heap.objs.size + 1 → (∀ b o, s.heap.get? b = some o → h'.get? b = some o) → Q (.ref s.heap.objs.size) { s with heap := h' }) : wpAny (model prog w) A (call (.type "enumerate") [.ref z]) Q E s := by
  refine callType_new F.called_enumerate (by decide) (F.typeCall_enumerate_1 _) (F.newCall_enumerate_1 _) (fun obj => F.args_object_init_2 obj _) F.entry_enumerate_new (meets_enum_zip z TI TO) ⟨hz, ?_⟩
  have e : IsEnum (s.heap.push { cls := .type "enumerate", data := .fields #[.none, .bool false, .ref z, rawInt 0, .none, .none] }) s.heap.objs.size z 0 .none := Heap.get?_push_size _ rfl
  exact ⟨⟨_, e, rfl⟩, h _ e (Heap.size_push _ _) fun b o k => Heap.get?_push_of_some _ k⟩
end GE
namespace L2
open PySem PySem.Spec PyProof.Rows GE
/-- the tuples at a and b as they stand, the items in new pairs behind their numbers -/
def ItEZ (K : PySem.W.Frag) (a b : Addr) : It :=
  ⟨fun i H => ∃ (xs ys : List V) (x y : V), SqT K H a xs ∧ SqT K H b ys ∧ xs[i]? = some x ∧ ys[i]? = some y,
    fun i H v H' => ∃ (T0 T : Addr) (x y : V), v = .ref T ∧ H T0 = none ∧ upd H T0 (.tup [x, y]) T = none ∧ H' = upd (upd H T0 (.tup [x, y])) T (.tup [.int (i : Nat), .ref T0]) ∧ (∀ xs, SqT K H a xs → xs[i]? = some x) ∧ ∀ ys, SqT K H b ys → ys[i]? = some y,
    fun i H => ∃ xs ys : List V, SqT K H a xs ∧ SqT K H b ys ∧ xs.length ≤ i⟩
theorem turn_enumZip {P : Program} {w : World} {K : PySem.W.Frag} {elts : List Expr} {kk : Nat} {tpos : Pos} {a b e z TI TO j1 j2 : Addr} (D : ZipApart z TI TO j1 j2 a b) (ne : e ∉ [z, TI, TO, j1, j2]) :
    Turn P w K (.Tuple elts kk tpos) (ItEZ K a b) [e, z, TI, TO, j1, j2] e (fun i h => (∃ old, IsEnum h e z ((i : Nat) : Int) old) ∧ ZS h z TI TO j1 j2 a b i) where
  mem := by simp
  obj := fun i h st c hc => by
    obtain ⟨⟨old, he⟩, P1, ⟨p, q, P2⟩, ⟨o1, e1, _, d1⟩, ⟨o2, e2, _, d2⟩, c5⟩ := st
    simp only [List.mem_cons, List.not_mem_nil, or_false] at hc
    rcases hc with r | r | r | r | r | r <;> rw [r]
    · exact ⟨_, he, fun v k => nomatch k⟩
    · rcases c5 with Z | ⟨T, f, Z⟩
      · exact ⟨_, Z, fun v k => nomatch k⟩
      · exact ⟨_, Z, fun v k => nomatch k⟩
    · exact ⟨_, P1, fun v k => nomatch k⟩
    · exact ⟨_, P2, fun v k => nomatch k⟩
    · exact ⟨o1, e1, fun v k => by rw [d1] at k; cases k⟩
    · exact ⟨o2, e2, fun v k => by rw [d2] at k; cases k⟩
  keep := fun i h h' st k => ⟨let ⟨old, he⟩ := st.1; ⟨old, k e (by simp) _ he⟩, st.2.keep fun c hc o x => k c (List.mem_cons_of_mem _ hc) o x⟩
  item := by
    intro X hP hw hK hc i pins s σ H E I hf st hg
    subst hP hw hK
    obtain ⟨⟨old, he⟩, hZ⟩ := st
    obtain ⟨xs, ys, x, y, qa, qb, ex, ey⟩ := hg
    obtain ⟨us, rv, pa, _⟩ := I.tuple qa
    obtain ⟨ws, rw_, pb, _⟩ := I.tuple qb
    obtain ⟨u, hu, ru⟩ := rv.get ex
    obtain ⟨v, hv, rw2⟩ := rw_.get ey
    have fr : H s.heap.objs.size = none := I.hok.fresh (Nat.le_refl _)
    refine py_enum_item (x := .ref s.heap.objs.size) (Pr := fun h1 => ZS h1 z TI TO j1 j2 a b (i + 1) ∧ IsPair h1 s.heap.objs.size u v ∧ ∀ c o, c ∉ [z, TI, TO, j1, j2] → s.heap.get? c = some o → h1.get? c = some o) he
      (fun E' Q' k => nextOf_zip hZ.type (any_item D hZ pa pb (x := u) (y := v) (by simpa using hu) (by simpa using hv) fun h1 c1 c2 c3 => k h1 ⟨c1, c2, c3⟩)) (fun h1 hp => by rw [hp.2.2 e _ ne he]; exact he.symm) ?_
    rintro h1 h2 ⟨c1, c2, c3⟩ eo eT esz kp
    have l1 : s.heap.objs.size < h1.objs.size := Heap.lt_size c2
    have el : e < s.heap.objs.size := Heap.lt_size he
    refine ⟨_, rfl, wpAny_letOwnedTupleGo_enum (s := { s with heap := h2, toks := s.toks + 1 }) eo fun h3 e3 sb => ?_⟩
    have k3 : ∀ c o, c ≠ e → h1.get? c = some o → h3.get? c = some o := fun c o hc k => (sb.2 c hc).trans (kp c o hc k)
    have zfp : ∀ c ∈ [z, TI, TO, j1, j2], FpOk X pins H c := fun c hc => hf c (List.mem_cons_of_mem _ hc)
    have I1 : Inv X pins σ (upd H s.heap.objs.size (.tup [x, y])) { s with heap := h1 } := I.turnedNew (t' := s.toks) (ch := [z, TI, TO, j1, j2]) (fun c o hc k => c3 c o hc k) zfp (Nat.le_refl _) ⟨by show 2 ≤ sizeLine; decide, [u, v], .cons ru (.cons rw2 .nil), ⟨_, c2, rfl, _, rfl⟩⟩
    have T3 : h3.get? h1.objs.size = some { cls := .type "tuple", data := .seq #[.int i s.toks, .ref s.heap.objs.size] } := (sb.2 _ (Nat.ne_of_gt (Nat.lt_trans el l1))).trans eT
    have hfe : FpOk X pins (upd H s.heap.objs.size (.tup [x, y])) e := by
      obtain ⟨f0, f1⟩ := hf e (by simp)
      exact ⟨by rw [upd_ne (Nat.ne_of_lt el)]; exact f0, f1⟩
    have I2 : Inv X pins σ (upd (upd H s.heap.objs.size (.tup [x, y])) h1.objs.size (.tup [.int (i : Nat), .ref s.heap.objs.size])) { s with heap := h3, toks := s.toks + 1 } :=
      I1.turnedNew (t' := s.toks + 1) (ch := [e]) (fun c o hc k => k3 c o (fun w => hc (by simp [w])) k) (fun c hc => by rw [List.mem_singleton.mp hc]; exact hfe) (Nat.le_refl _)
        ⟨by show 2 ≤ sizeLine; decide, [.int i s.toks, .ref s.heap.objs.size], .cons ⟨_, rfl⟩ (.cons rfl .nil), ⟨_, T3, rfl, _, rfl⟩⟩
    refine ⟨.ref h1.objs.size, _, I2, rfl, ⟨s.heap.objs.size, h1.objs.size, x, y, rfl, fr, I1.hok.fresh (Nat.le_refl _), rfl, fun l hl => by rw [I.tuple_inj hl qa]; exact ex, fun l hl => by rw [I.tuple_inj hl qb]; exact ey⟩, ⟨⟨.ref s.heap.objs.size, ?_⟩, c1.keep fun c hc o k => k3 c o (fun w => ne (w ▸ hc)) k⟩, fun c hc => ?_⟩
    · have e1 : ((i + 1 : Nat) : Int) = (i : Int) + 1 := by omega
      rw [e1]; exact e3
    · have lt : c < s.heap.objs.size := by
        obtain ⟨P1, ⟨p, q, P2⟩, ⟨o1, t1, _⟩, ⟨o2, t2, _⟩, c5⟩ := hZ
        simp only [List.mem_cons, List.not_mem_nil, or_false] at hc
        rcases hc with r | r | r | r | r | r <;> rw [r]
        · exact el
        · rcases c5 with Z | ⟨T, f, Z⟩ <;> exact Heap.lt_size Z
        · exact Heap.lt_size P1
        · exact Heap.lt_size P2
        · exact Heap.lt_size t1
        · exact Heap.lt_size t2
      rw [upd_ne (Nat.ne_of_lt (Nat.lt_trans lt l1)), upd_ne (Nat.ne_of_lt lt)]
      exact (hf c hc).1
  done := by
    intro X hP hw hK hc i pins s σ H E I hf st hg
    subst hP hw hK
    obtain ⟨⟨old, he⟩, hZ⟩ := st
    obtain ⟨xs, ys, qa, qb, hx⟩ := hg
    obtain ⟨us, rv, pa, _⟩ := I.tuple qa
    obtain ⟨ws, rw_, pb, _⟩ := I.tuple qb
    have hl := rv.length
    refine py_enum_end (Pr := fun h1 => ∀ c o, c ∉ [z, TI, TO, j1, j2] → s.heap.get? c = some o → h1.get? c = some o) he (fun E' Q' k => ?_) fun h1 p1 => ⟨rfl, I.turnedL (t' := s.toks) (ch := [z, TI, TO, j1, j2]) p1 fun c hc => hf c (List.mem_cons_of_mem _ hc)⟩
    unfold Builtin.SmallTypes.nextOf
    exact wpAny_bind (wpAny_callSpecial?_slot (name := Str.ofString "__next__") hZ.type F.slot_zip_next (wpAny_call_entry F.slot_zip_next hZ.type F.entry_zip_next (any_end (I.ok.hd hc) D hZ pa pb (by simp; omega) fun h' r kp hr => k h' r kp hr) (F.args_zip_next_1 _)))
  self := fun A i s Q E st h => let ⟨⟨_, he⟩, _⟩ := st; wpAny_pyIter_enum he h
def iEZ (K : PySem.W.Frag) (ta : TA) : TI := fun σ H R => ta σ H fun vs H1 => ∃ a b xs ys, vs = [.ref a, .ref b] ∧ SqT K H1 a xs ∧ SqT K H1 b ys ∧ R (ItEZ K a b) H1
theorem pi_enumZip {X : Cx} {e e2 : Expr} {ta : TA} {p p2 pos pos2 tpos : Pos} {elts : List Expr} {kk : Nat} (hg : Gl X "enumerate") (hm : X.mg "enumerate" = none) (hg2 : Gl X "zip") (hm2 : X.mg "zip" = none) (ha : PA X [e, e2] ta)
    (hs : starEach [e, e2] X.env = (false, eval e X.env) :: starEach [e2] X.env := by rfl) (hpl : (backTo pos2 (starEach [e2] X.env)).any (·.1) = false := by rfl)
    (na : starEach [.Call (.Name "zip" p2) [e, e2] [] pos2] X.env = (false, eval (.Call (.Name "zip" p2) [e, e2] [] pos2) X.env) :: starEach [] X.env := by rfl) :
    PI X (.Tuple elts kk tpos) (.Call (.Name "enumerate" p) [.Call (.Name "zip" p2) [e, e2] [] pos2] [] pos) (iEZ X.K ta) := by
  refine ⟨fun pins s σ H R I h => ?_⟩
  refine Call_ (ld_blt I hg hm boot_enumerate (PyProof.Rows.callWith_type1 (args_cons (Call_ (ld_blt I hg2 hm2 PyProof.Rows.boot_zip (PyProof.Rows.callWith_type1 (thn (ha.run pos2 pins s σ H _ I h) fun us s1 ⟨vs, H1, I1, r1, q1⟩ => ?_) hs hpl))) na) na))
  obtain ⟨a, b, xs, ys, ex, qa, qb, k⟩ := q1
  subst ex
  cases r1 with
  | cons ra rr =>
    cases rr with
    | cons rb rr =>
      cases rr
      cases ra
      cases rb
      obtain ⟨its, rv, p1, _⟩ := I1.tuple qa
      obtain ⟨its2, rv2, p3, _⟩ := I1.tuple qb
      obtain ⟨o1, ho1, _⟩ := id p1
      obtain ⟨o2, ho2, _⟩ := id p3
      refine RZ.call_zipT (show s1.heap.IsTuple a its.toArray from p1) (show s1.heap.IsTuple b its2.toArray from p3) fun h' Z P1 P2 t1 t2 z5 kp => args_nil ?_
      refine call_enum_zip (s := { s1 with heap := h' }) Z fun h2 eE z6 kp2 => wpAny_pyIter_enum (s := { s1 with heap := h2 }) eE ?_
      have eE : IsEnum h2 h'.objs.size (s1.heap.objs.size + 4) 0 .none := eE
      have I2 : Inv X pins σ H1 { s1 with heap := h2 } := I1.kept (t' := s1.toks) fun c o q => kp2 c o (kp c o q)
      have hD := PySem.W.ktu_apart s1.heap.objs.size a b (Heap.lt_size ho1) (Heap.lt_size ho2)
      have ne : h'.objs.size ∉ [s1.heap.objs.size + 4, s1.heap.objs.size + 2, s1.heap.objs.size + 3, s1.heap.objs.size, s1.heap.objs.size + 1] := by
        rw [z5]; simp
      refine ⟨h'.objs.size, [h'.objs.size, s1.heap.objs.size + 4, s1.heap.objs.size + 2, s1.heap.objs.size + 3, s1.heap.objs.size, s1.heap.objs.size + 1], _, _, H1, rfl, I2, turn_enumZip hD ne, ⟨⟨.none, eE⟩, kp2 _ _ P1, ⟨_, _, kp2 _ _ P2⟩, t1.at fun o q => kp2 _ o q, t2.at fun o q => kp2 _ o q, .inl (kp2 _ _ Z)⟩, fun c hcm => ?_, k⟩
      have hle : s1.heap.objs.size ≤ c := by
        simp only [List.mem_cons, List.not_mem_nil, or_false] at hcm
        rcases hcm with w | w | w | w | w | w <;> rw [w]
        · rw [z5]; exact Nat.le_add_right _ _
        · exact Nat.le_add_right _ _
        · exact Nat.le_add_right _ _
        · exact Nat.le_add_right _ _
        · exact Nat.le_refl _
        · exact Nat.le_add_right _ _
      exact I1.fpOk hle (I1.hok.fresh hle)
end L2
/-! raise C(..) from e, in the suite that caught e; C(..) of an own class by a local name in a try body -/
namespace HotX
open PySem PySem.Spec PyProof.Rows
/-- the heap where field 3 of the record at a is c, and field 4 True -/
def fromH (h : Heap) (a : Addr) (c : Value) : Heap := (h.update a (Obj.mapFields (·.setIfInBounds 3 c))).update a (Obj.mapFields (·.setIfInBounds 4 (.bool true)))
theorem fromH_at {h : Heap} {a : Addr} {c : Value} {oe : Obj} {vs : Array Value} (ha : h.get? a = some oe) (hd : oe.data = .fields vs) :
    (fromH h a c).get? a = some ((oe.mapFields (·.setIfInBounds 3 c)).mapFields (·.setIfInBounds 4 (.bool true))) ∧ ((oe.mapFields (·.setIfInBounds 3 c)).mapFields (·.setIfInBounds 4 (.bool true))).data = .fields ((vs.setIfInBounds 3 c).setIfInBounds 4 (.bool true)) := by
  have d3 := Obj.data_mapFields hd (·.setIfInBounds 3 c)
  have a3 := Heap.get?_update_self (Obj.mapFields (·.setIfInBounds 3 c)) ha (Obj.isFreed_of_fields d3)
  have d4 := Obj.data_mapFields d3 (·.setIfInBounds 4 (.bool true))
  exact ⟨Heap.get?_update_self (Obj.mapFields (·.setIfInBounds 4 (.bool true))) a3 (Obj.isFreed_of_fields d4), d4⟩
theorem fromH_out {h : Heap} {a b : Addr} {c : Value} (ne : a ≠ b) : (fromH h a c).get? b = h.get? b := by
  unfold fromH
  rw [Heap.get?_update_other _ _ ne, Heap.get?_update_other _ _ ne]
theorem no_type {prog : Program} {w : World} {A : Around} {E : Value → Shared → Prop} {s : Shared} {a : Addr} {o : Obj} {vs : Array Value} {Q : Bool → Shared → Prop} (ha : s.heap.get? a = some o) (hd : o.data = .fields vs) (q : Q false s) : wpAny (model prog w) A (isType (.ref a)) Q E s := by
  simp only [isType, loadHead]
  refine wpAny_bind (wpAny_loadPart ha ?_)
  rw [hd]
  exact wpAny_pure q
/-- an exception stands for itself -/
theorem exc_self {prog : Program} {w : World} {A : Around} {E : Value → Shared → Prop} {s : Shared} {a : Addr} {o : Obj} {vs : Array Value} {z : String} {Q : Value → Shared → Prop} (ha : s.heap.get? a = some o) (hd : o.data = .fields vs)
    (L : PySem.W.Looks (model prog w) s.heap (isSubtype o.cls (.type "BaseException")) true) (q : Q (.ref a) s) : wpAny (model prog w) A (excFromValue (.ref a) z) Q E s := by
  have LT : PySem.W.Looks (model prog w) s.heap (typeOf (.ref a)) o.cls := fun A Q E s k q => wpAny_typeOf_ref (k _ _ ha) q
  have LI : PySem.W.Looks (model prog w) s.heap (isInstance (.ref a) (.type "BaseException")) true := LT.andThen L
  unfold excFromValue isExcClass
  refine wpAny_bind (wpAny_bind (no_type ha hd ?_))
  simp only [Bool.false_eq_true, if_false]
  refine wpAny_pure ?_
  simp only [Bool.false_eq_true, if_false]
  refine wpAny_bind (LI.here ?_)
  simp only [if_true]
  exact wpAny_pure q
theorem raise_from {prog : Program} {w : World} {A : Around} {E : Value → Shared → Prop} {env : Env} {s : Shared} {x c : Sem Value} {Q : Flow → Shared → Prop} {x1 : Addr}
    (h : wpAny (model prog w) A x (fun v s1 => ∃ a oe vs x0 o0 v0, v = .ref a ∧ s1.heap.get? a = some oe ∧ oe.data = .fields vs ∧ vs[1]? = some .none ∧ 4 < vs.size ∧ x1 ≠ a ∧ HotAt A x1 s1.heap ∧
      PySem.W.Looks (model prog w) s1.heap (isSubtype oe.cls (.type "BaseException")) true ∧ PySem.W.Looks (model prog w) (fromH s1.heap a (.ref x0)) (typeOf oe.cls) (.type "type") ∧
      (∀ Q' : Value → Shared → Prop, Q' (.ref x0) s1 → wpAny (model prog w) A c Q' E s1) ∧ s1.heap.get? x0 = some o0 ∧ o0.data = .fields v0 ∧ PySem.W.Looks (model prog w) s1.heap (isSubtype o0.cls (.type "BaseException")) true ∧
      E (.ref a) { s1 with heap := (fromH s1.heap a (.ref x0)).update a (Obj.mapFields (·.setIfInBounds 2 (.ref x1))) }) E s) :
    wpAny (model prog w) A (raiseStmt env (some x) (some c)) Q E s := by
  unfold raiseStmt
  dsimp only
  refine wpAny_bind (wpAny_mono h (fun v s1 h1 => ?_) fun _ _ x => x)
  obtain ⟨a, oe, vs, x0, o0, v0, rfl, ha, hd, q1, hi, hne, hot, L1, L3, hc, h0, d0, L0, hE⟩ := h1
  have d3 := Obj.data_mapFields hd (·.setIfInBounds 3 (Value.ref x0))
  have a3 := Heap.get?_update_self (Obj.mapFields (·.setIfInBounds 3 (Value.ref x0))) ha (Obj.isFreed_of_fields d3)
  obtain ⟨a4, d4⟩ := fromH_at (c := .ref x0) ha hd
  have s3 : 3 < vs.size := by omega
  have s4 : 4 < (vs.setIfInBounds 3 (Value.ref x0)).size := by rw [set_size]; exact hi
  have s2 : 2 < ((vs.setIfInBounds 3 (Value.ref x0)).setIfInBounds 4 (Value.bool true)).size := by rw [set_size, set_size]; omega
  have q4 : ((vs.setIfInBounds 3 (Value.ref x0)).setIfInBounds 4 (Value.bool true))[1]? = some Value.none := set_other (by decide) (set_other (by decide) q1)
  have c4 : ((oe.mapFields (·.setIfInBounds 3 (Value.ref x0))).mapFields (·.setIfInBounds 4 (.bool true))).cls = oe.cls := by rw [Obj.cls_mapFields, Obj.cls_mapFields]
  have LT4 : PySem.W.Looks (model prog w) (fromH s1.heap a (.ref x0)) (typeOf (.ref a)) oe.cls := fun A Q E s k q => wpAny_typeOf_ref (k _ _ a4) (by rw [c4]; exact q)
  have hot4 : HotAt A x1 (fromH s1.heap a (.ref x0)) := by
    obtain ⟨y1, o, vs', y2, y3, y4⟩ := hot
    exact ⟨y1, o, vs', by rw [fromH_out (Ne.symm hne)]; exact y2, y3, y4⟩
  have rest : wpAny (model prog w) A (isType (.ref a) >>= fun k => if k = true then (holding [.ref a] (raisedFor (.ref a) (.ref a)) >>= fun e => setFlight e none >>= fun _ => raiseNew e) else (raisedInstance (.ref a) >>= fun e => setFlight e none >>= fun _ => raiseNew e) : Sem Flow) Q E { s1 with heap := fromH s1.heap a (.ref x0) } := by
    refine wpAny_bind (no_type (s := { s1 with heap := fromH s1.heap a (.ref x0) }) a4 d4 ?_)
    rw [if_neg Bool.false_ne_true]
    unfold raisedInstance
    refine wpAny_bind (wpAny_bind (LT4.here (wpAny_bind (L3.here ?_))))
    rw [if_pos (beq_self_eq_true _)]
    refine wpAny_pure ?_
    unfold setFlight
    refine wpAny_bind (wpAny_bind (wpAny_field a4 d4 q4 ?_))
    rw [if_neg (by decide)]
    exact wpAny_pure (raiseNew_hot hot4 hne a4 d4 s2 hE)
  refine wpAny_bind (wpAny_holding (hc _ (wpAny_bind (wpAny_pure ?_))))
  dsimp only
  refine wpAny_bind (wpAny_holding (exc_self ha hd L1 ?_))
  rw [if_neg (show ¬ ((Value.ref x0 == Value.none) = true) from Bool.false_ne_true)]
  refine wpAny_bind (wpAny_holding (exc_self h0 d0 L0 ?_))
  refine wpAny_bind (wpAny_setField ha hd s3 (wpAny_bind (wpAny_setField a3 d3 s4 ?_)))
  exact rest
end HotX
namespace L2
open PySem PySem.Spec PyProof.Rows L2H HotX
/-- what leaves by W, e being bound to a0 of a class cls0 of errors -/
def WF (K : PySem.W.Frag) (i : Nat) (a0 : Addr) (cls0 : Value) (W : WX) : WX := fun cls d σ H => W cls d σ H ∧ σ[i]? = some (some (.ref a0)) ∧ ∃ D, cls0 = .ref D ∧ OexC K D
theorem ps_raiseFrom {X : Cx} {W : WX} {e : Expr} {t : L2.St → Hp → XK → Prop} {i : Nat} {n : Str} {np pos : Pos} {a0 : Addr} {o0 : Obj} {v0 : Array Value} {cls0 : Value} (hc : HotC X) (tk : L2.Takes X W) (he : PMk5 X e t) (hN : X.N[i]? = some n) (hv : Vis X.env.scope n)
    (hpn : (a0, o0) ∈ X.pn) (hcl : o0.cls = cls0) (d0 : o0.data = .fields v0) (hd : (n == ("__debug__" : Str)) = false := by decide) (hcd : (n == ("__classdict__" : Str)) = false := by decide) :
    PS X (.Raise (some e) (some (.Name n np)) pos) (fun _ σ H => t σ H fun cls d H' => WF X.K i a0 cls0 W cls d σ H') := by
  refine ⟨fun pins s σ H D I h => ?_⟩
  obtain ⟨p, ⟨hh, v1, e1, c1⟩, hp⟩ := hc
  show wpAny _ _ (do standAt pos; raiseStmt X.env (some (do let v ← eval e X.env; standAt pos; pure v)) (some (do let v ← eval (.Name n np) X.env; standAt pos; pure v))) _ _ _
  refine wpAny_bind (wpAny_standAt (raise_from (x1 := p.1) (wpAny_bind (wpAny_mono (he pins s σ H _ I h) (fun u s1 hu => wpAny_bind (wpAny_standAt (wpAny_pure ?_))) fun _ _ x => x))))
  obtain ⟨⟨a, oe, vs, sI, H', cls, d, rfl, J, k, hne, ha, hz, hdt, h1, na, os, ag, r, q, hσ, C0, hC0, T0⟩, h5⟩ := hu
  have hi : 4 < vs.size := h5 a oe vs rfl ha hdt
  have apart : ∀ {b : Addr} {u : Obj}, sI.heap.get? b = some u → a ≠ b := fun z y => by rw [← y, hne] at z; cases z
  have k4 : ∀ b u, sI.heap.get? b = some u → (fromH s1.heap a (.ref a0)).get? b = some u := fun b u z => by
    rw [fromH_out (apart z)]
    exact k b u z
  obtain ⟨r1, _⟩ := r (model X.prog X.w) s1.heap (J.kIn.keeps k)
  obtain ⟨_, r2⟩ := r (model X.prog X.w) (fromH s1.heap a (.ref a0)) (J.kIn.keeps k4)
  obtain ⟨r3, _⟩ := raises_own (X := X) T0.exC T0.tyC (model X.prog X.w) s1.heap (J.kIn.keeps k)
  have P1 := (J.pin p (List.mem_append_left _ hp)).1
  have P0 := (J.pin (a0, o0) (List.mem_append_left _ hpn)).1
  have nap : p.1 ≠ a := (apart P1).symm
  obtain ⟨a4, d4⟩ := fromH_at (c := .ref a0) ha hdt
  have J1 : Inv X pins σ H' s1 := by
    obtain ⟨h9, g9, dr9, tk9, os9⟩ := s1
    obtain rfl : os9 = sI.os := os
    exact J.call' (ch := []) rfl (Un.kept k) (J.hok.kept k) ag fun b z => by simp at z
  have q2 : (((vs.setIfInBounds 3 (Value.ref a0)).setIfInBounds 4 (Value.bool true)).setIfInBounds 2 (Value.ref p.1))[1]? = some Value.none := set_other (by decide) (set_other (by decide) (set_other (by decide) h1))
  refine ⟨a, oe, vs, a0, o0, v0, rfl, ha, hdt, h1, hi, nap, ⟨hh, p.2, v1, k _ _ P1, e1, c1⟩, by rw [hz.1]; exact r1, by rw [hz.1]; exact r2, fun Q' q' => wpAny_bind (raw_name hN hv J1 hσ (fun u ru => ?_) hd hcd), k _ _ P0, d0, by rw [hcl, hC0]; exact r3, tk _ _ (XE.new J (fun b u z => ?_) hne (Heap.get?_update_self _ a4 (Obj.isFreed_of_fields (Obj.data_mapFields d4 _)))
    ⟨by rw [Obj.cls_mapFields, Obj.cls_mapFields, Obj.cls_mapFields]; exact hz.1, by rw [HandSPX.dict_mapFields, HandSPX.dict_mapFields, HandSPX.dict_mapFields]; exact hz.2.1⟩ (Obj.data_mapFields d4 _) q2 na os ag q)⟩
  · obtain rfl : u = Value.ref a0 := ru
    exact wpAny_bind (wpAny_standAt (wpAny_pure q'))
  · show ((fromH s1.heap a (.ref a0)).update a (Obj.mapFields (·.setIfInBounds 2 (.ref p.1)))).get? b = some u
    rw [Heap.get?_update_other _ _ (apart z)]
    exact k4 b u z
/-- raise C(x) from e of an error class with the base's __init__, in the suite that caught e -/
theorem ps_raiseFromG {X : Cx} {x : Str} {C fI : Addr} {k : Nat} {fd : FuncData} {ps : List Str} {W : WX} {e : Expr} {te : TE} {i : Nat} {n : Str} {np p pos pos2 : Pos} {a0 : Addr} {o0 : Obj} {cls0 : Value} {v0 : Array Value} (hc : HotC X) (T : GExc X.K C fI)
    (F1 : FnH X.prog X.w X.K X.mg X.base CX0 k fI fd ps (spGI X.K)) (hr : RoomH (k + 1) X.A) (hb : Binds X.K fd ps []) (hg : Gl X x) (hm : X.mg x = some (.ref C)) (tk : L2.Takes X W) (ha : PE X e te) (hN : X.N[i]? = some n) (hv : Vis X.env.scope n)
    (hpn : (a0, o0) ∈ X.pn) (hcl : o0.cls = cls0) (d0 : o0.data = .fields v0)
    (hdb : (x == ("__debug__" : Str)) = false := by decide) (he : starEach [e] X.env = (false, eval e X.env) :: starEach [] X.env := by rfl) (hpl : (backTo pos (starEach [] X.env)).any (·.1) = false := by rfl)
    (hd : (n == ("__debug__" : Str)) = false := by decide) (hcd : (n == ("__classdict__" : Str)) = false := by decide) :
    PS X (.Raise (some (.Call (.Name x p) [e] [] pos)) (some (.Name n np)) pos2) (tRaiseG X.K C (WF X.K i a0 cls0 W) te) :=
  ps_raiseFrom (pos := pos2) hc tk (pmk5_oexH (p := p) (pos := pos) T.oex T.iC T.tI F1 hr hc hb (fun _ _ _ _ _ _ _ h => h.elim) hg hm (pa_cons ha pa_nil he) hdb he hpl) hN hv hpn hcl d0 hd hcd
/-- cls(..) in a try's body -/
def tMakeLS (i : Nat) (C : Addr) (sp : Sp) (E : L2.St → XK) (t : TA) : TE := fun σ H Q => σ[i]? = some (some (.ref C)) ∧ tMakeS C sp E t σ H Q
theorem pe_mkLS {X : Cx} {CX : CXT} {k i : Nat} {f C : Addr} {fd : FuncData} {ps : List Str} {sp : Sp} {E : L2.St → XK} {x : Str} {xp pos : Pos} {e : Expr} {es : List Expr} {t : TA} (hN : X.N[i]? = some x) (hv : Vis X.env.scope x) (M : Mk X.K C f) (F : FnOk X.prog X.w X.K X.mg X.base CX k f fd ps sp) (hr : Room (k + 1) X.A)
    (hb : Binds X.K fd ps []) (hx : ∀ σ, PassesAt CX X σ (E σ)) (ha : PA X (e :: es) t) (hdb : (x == ("__debug__" : Str)) = false := by decide) (hcd : (x == ("__classdict__" : Str)) = false := by decide)
    (he : starEach (e :: es) X.env = (false, eval e X.env) :: starEach es X.env := by rfl) (hpl : (backTo pos (starEach es X.env)).any (·.1) = false := by rfl) : PE X (.Call (.Name x xp) (e :: es) [] pos) (tMakeLS i C sp E t) := by
  refine ⟨fun pins s σ H Q I h => ?_⟩
  obtain ⟨hs, ht⟩ := h
  refine wpAny_Call_Name_kw (thn ((pe_var (pos := xp) hN hv hdb hcd).run pins s σ H (fun v H1 => v = .ref C ∧ H1 = H) I ⟨.ref C, hs, rfl, rfl⟩) fun u s1 ⟨v, H1, I1, r1, q1⟩ => ?_)
  obtain ⟨rfl, rfl⟩ := q1
  cases r1
  refine PySem.W.callWith_K (h₀ := X.base) I1.ok.mod.kin M.kp (thn (ha.run pos pins s1 σ _ _ I1 ht) fun us s2 ⟨vs, H2, I2, r, q⟩ => ⟨I2.kIn, ?_⟩) he hpl
  exact run_makeS M F hr hb (hx σ) I2 r q
end L2
/-! list(x) of an own class whose __iter__ gives a tuple's iterator, without __len__ -/
namespace L2
open PySem PySem.Spec PyProof.Rows
theorem gb_hint0 {prog : Program} {w : World} {A : Around} {E : Value → Shared → Prop} {s : Shared} {Q : Bool → Shared → Prop} {K : PySem.W.Frag} {a C : Addr} {ox : Obj} {od : Option Obj} (h1 : PySem.W.findIn K (.ref C) "__len__" = some none) (h2 : PySem.W.findIn K (.ref C) "__length_hint__" = some none) (hK : K.In s.heap)
    (J : PySem.W.InstAt s.heap a ox C od) (q : Q true s) : wpAny (model prog w) A (Builtin.List.listLengthHint (.ref a)) Q E s := by
  unfold Builtin.List.listLengthHint
  refine wpAny_bind (wpAny_bind (J.type.here ((PySem.W.looks_findIn hK h1).here ?_)))
  refine PySem.W.KFB.if_not rfl (PySem.W.KFB.if_not rfl ?_)
  exact wpAny_bind (wpAny_bind (J.type.here ((PySem.W.looks_findIn hK h2).here (wpAny_pure q))))
section
variable {X : Cx} {k : Nat} {fi C : Addr} {fd : FuncData} {ps : List Str} {spI : Sp}
def rListI0 (K : PySem.W.Frag) (C : Addr) (spI : Sp) : List V → Hp → VK → Prop := fun xs H Q => ∃ (a dx t : Addr) (fs : List (Str × V)) (zs : List V), xs = [.ref a] ∧ H a = some (.ins C dx fs) ∧ SqT K H t zs ∧ zs.length < 1000 ∧
  ∀ l, H l = none →
    spI [.ref a] (upd H l (.lst [])) (fun v H' => ∃ it, v = .ref it ∧ upd H l (.lst []) it = none ∧ H' = upd (upd H l (.lst [])) it (ItT t it 0)) (fun _ _ _ => False) ∧
    ∀ it, H it = none → it ≠ l → Q (.ref l) (upd (upd H l (.lst zs)) it (ItX it))
theorem call_listI0 (hmI : Meth X.K C "__iter__" fi) (n1 : PySem.W.findIn X.K (.ref C) "__len__" = some none) (n2 : PySem.W.findIn X.K (.ref C) "__length_hint__" = some none) (FI : FnOk X.prog X.w X.K X.mg X.base CX0 k fi fd ps spI)
    (bI : Binds X.K fd ps []) (hr : Room (k + 2) X.A) : CallR X (.type "list") (rListI0 X.K C spI) := by
  intro pins s σ H xs us Q I rv h
  obtain ⟨a, dx, t, fs, zs, rfl, ha, hT, hz, hq⟩ := h
  obtain ⟨u, rfl, ru⟩ := rv.one
  obtain rfl : u = Value.ref a := ru
  refine callType_codes (Q₁ := fun obj s1 => obj = .ref s.heap.objs.size ∧ s1 = { s with heap := s.heap.push { cls := .type "list", data := .seq #[] } }) PySem.F.called_list (PySem.F.typeCall_list_1 _) PySem.F.entry_list_init (code_list_new _ ⟨rfl, rfl⟩) fun obj s1 h1 => ?_
  obtain ⟨rfl, rfl⟩ := h1
  have new : (s.heap.push { cls := .type "list", data := .seq #[] }).get? s.heap.objs.size = some { cls := .type "list", data := .seq #[] } := Heap.get?_push_size _ rfl
  refine ⟨⟨_, new, rfl⟩, PySem.F.args_list_init_2 _ _, ?_⟩
  have fr : H s.heap.objs.size = none := I.hok.fresh (Nat.le_refl _)
  obtain ⟨q1, q3⟩ := hq _ fr
  have I1 : Inv X pins σ (upd H s.heap.objs.size (.lst [])) { s with heap := s.heap.push { cls := .type "list", data := .seq #[] } } := I.lnew (its := []) (t' := s.toks) .nil (Nat.zero_le _)
  show wpAny (model X.prog X.w) _ (do let old ← Builtin.List.listItems (.ref s.heap.objs.size); Builtin.List.listUpdate (.ref s.heap.objs.size) (fun _ => #[]); letGo old.toList.reverse; Builtin.List.listExtendWith (.ref s.heap.objs.size) (.ref a) .none) _ _ _
  refine wpAny_bind ?_
  unfold Builtin.List.listItems
  refine wpAny_bind (wpAny_seqItems new rfl (wpAny_pure ?_))
  show wpAny (model X.prog X.w) _ (updateSeq s.heap.objs.size (fun _ => #[]) >>= fun _ => letGo (#[] : Array Value).toList.reverse >>= fun _ => Builtin.List.listExtendWith (.ref s.heap.objs.size) (.ref a) .none) _ _ _
  refine wpAny_bind (wpAny_updateSeq new rfl ?_)
  have I2 := I1.lset (f := fun _ => #[]) (its := []) (its' := []) (ys := []) (t' := s.toks) upd_same new rfl .nil (Nat.zero_le _)
  rw [upd_upd] at I2
  refine wpAny_bind (wpAny_letGo ?_)
  generalize hl0 : s.heap.objs.size = l at *
  have hne : a ≠ l := ne_of_none ha fr
  have ha2 : upd H l (.lst []) a = some (.ins C dx fs) := by rw [upd_ne hne]; exact ha
  generalize ({ s with heap := (s.heap.push { cls := .type "list", data := .seq #[] }).update l (Obj.mapSeq fun _ => #[]), toks := s.toks } : Shared) = s2 at I2 ⊢
  obtain ⟨od, J⟩ := I2.instAt ha2
  obtain ⟨m0, hF⟩ := I2.fr
  unfold Builtin.List.listExtendWith
  refine wpAny_bind (J.type.here ?_)
  have c1 : Builtin.List.listSameRef (.ref l) (.ref a) = false := by simp [Builtin.List.listSameRef, hne.symm]
  have c2 : (Value.ref C == Value.type "list") = false := rfl
  have c3 : (Value.ref C == Value.type "tuple") = false := rfl
  simp only [c1, c2, c3, Bool.or_false, Bool.false_eq_true, if_false]
  refine wpAny_bind (PySem.W.owit_iter hF I2.ok.mod.kin J hmI.at_ hmI.fn ?_)
  refine wpAny_mono (run_fnA (X := X.nox) (us := [.ref a]) (vs := [.ref a]) (dvs := []) rfl FI (hr.in1 (k := k + 1)).in1 bI .nil pass0 (I2.wish _) (.cons rfl .nil) q1) (fun v s3 q => ?_) (fun _ _ z => z.elim)
  obtain ⟨v', H', I3, rv', it, rfl, hit, rfl⟩ := q
  obtain rfl : v = Value.ref it := rv'
  replace I3 := I3.unwish
  have hil : it ≠ l := fun z => by rw [z, upd_same] at hit; cases hit
  have hitH : H it = none := by rw [upd_ne hil] at hit; exact hit
  have gi := itT_get I3 upd_same
  show wpAny (model X.prog X.w) _ (specialOf (.ref it) "__next__") _ _ _
  refine wpAny_specialOf gi.typeIs PySem.F.slot_tuple_iterator_next.lookup ?_
  have ha3 : upd (upd H l (.lst [])) it (ItT t it 0) a = some (.ins C dx fs) := by rw [upd_ne (ne_of_none ha2 hit)]; exact ha2
  obtain ⟨od3, J3⟩ := I3.instAt ha3
  refine wpAny_bind (wpAny_holding (gb_hint0 n1 n2 I3.kIn J3 ?_))
  have hzl : zs.length < sizeLine := by rw [sizeLine_eq]; omega
  have loop : ∀ s, Inv X pins σ (upd (upd H l (.lst [])) it (ItT t it 0)) s → codeAny (model X.prog X.w) X.A.in1 (.builtin "list.extend.loop" ⟨[.ref l, .ref it, .none], []⟩) (wants (fun r s2 => r = .none ∧ EP X pins σ Q (.ref l) s2) X.xe) s := fun s' I' =>
    gb_loop (A1 := X.A.in1) (zs := zs) (show X.A.in1.handled = none from hr.hd) hil hT hzl fr hitH (fun s6 I6 => ⟨rfl, .ref l, _, I6, rfl, q3 it hitH hil⟩) zs.length 0 s' rfl (Nat.zero_le _) I'
  refine wpAny_ite_split (fun _ => ?_) (fun _ => wpAny_pure ⟨plainId_quiet PySem.F.plain_extend_loop _, loop s3 I3⟩)
  have hql : upd (upd H l (.lst [])) it (ItT t it 0) l = some (.lst []) := by rw [upd_ne hil.symm, upd_same]
  obtain ⟨z, its, k4, r3, hl3, e3⟩ := I3.lstM hql
  cases r3
  refine wpAny_bind (wpAny_rule (wpAny_bind ?_))
  show wpAny (model X.prog X.w) _ (updateSeq l (·.push .none) >>= fun _ => updateSeq l (·.pop)) _ _ _
  refine wpAny_bind (wpAny_updateSeq e3 rfl ?_)
  have I5 := I3.lset (f := (·.push Value.none)) (its' := [Value.none]) (ys := [.non]) (t' := s3.toks) hql e3 (by simp) (.cons rfl .nil) (by rw [List.length_singleton, sizeLine_eq]; decide)
  obtain ⟨z4, its4, k5, r4, hl4, e4⟩ := I5.lstM upd_same
  obtain ⟨u4, rfl, ru4⟩ := r4.one
  refine wpAny_updateSeq e4 rfl ?_ (by show 1 ≤ sizeLine; rw [sizeLine_eq]; decide) (by show 0 ≤ sizeLine + 1; exact Nat.zero_le _)
  refine wpAny_pure ⟨plainId_quiet PySem.F.plain_extend_loop _, loop _ ?_⟩
  have I6 := I5.lset (f := (·.pop)) (its := [u4]) (its' := []) (ys := []) (t' := s3.toks) upd_same e4 (by rfl) .nil (Nat.zero_le _)
  rw [upd_upd] at I6
  have hH : upd (upd (upd H l (.lst [])) it (ItT t it 0)) l (.lst []) = upd (upd H l (.lst [])) it (ItT t it 0) := by rw [upd_swap hil, upd_upd]
  rw [hH] at I6
  exact I6
end
end L2
/-! small rules: a generator def without parameters, an item of a list or a tuple, errors caught in one way and let out in another -/
namespace L2
open PySem PySem.Spec PyProof.Rows GenW
section
variable {X : Cx} {k : Nat} {f : Addr} {fd : FuncData} {ps : List Str} {sp : SpG} {dvs : List V} {ds : List Value} {x : Str} {p pos : Pos}
/-- f() of a generator def -/
theorem pgen_call0 {E : XK} (F : GFn X.prog X.w X.K X.mg X.base k f fd ps sp) (hr : Room k X.A) (hg : Gl X x) (hm : X.mg x = some (.ref f)) (hk : PySem.W.keepIn X.K (.ref f) = true) (hb : Binds X.K fd ps ds) (hd : Vals dvs ds)
    (hdb : (x == ("__debug__" : Str)) = false := by decide) : PGen X k (.Call (.Name x p) [] [] pos) (tCallG sp dvs E tNil) E := by
  refine ⟨fun pins s σ H cont I h => ?_⟩
  refine wpAny_Call_Name_kw (ld_glob I hg hm ?_ hdb)
  exact PySem.W.callWith_K0 (first := []) I.kIn hk (run_gfn (us := []) (vs := []) F hr hb hd I .nil h)
theorem ix_seqK (K : PySem.W.Frag) (hK : X.K = K := by rfl) : IxR X (rIx K) := hK ▸ ix_seq
theorem call_listI0K (K : PySem.W.Frag) {n : Nat} {fi C : Addr} {fdi : FuncData} {psi : List Str} {spI : Sp} (hmI : Meth X.K C "__iter__" fi) (n1 : PySem.W.findIn X.K (.ref C) "__len__" = some none) (n2 : PySem.W.findIn X.K (.ref C) "__length_hint__" = some none) (FI : FnOk X.prog X.w X.K X.mg X.base CX0 n fi fdi psi spI)
    (bI : Binds X.K fdi psi []) (hr : Room (n + 2) X.A) (hK : X.K = K := by rfl) : CallR X (.type "list") (rListI0 K C spI) := hK ▸ call_listI0 hmI n1 n2 FI bI hr
end
theorem tracedZ_up {h B : Heap} {a : Addr} {Z Z' : Obj → Prop} {v : Value} (z : ∀ o, Z o → Z' o) (x : HandSPX.TracedZ h B a Z v) : HandSPX.TracedZ h B a Z' v := by
  exact L2H.tracedZ_imp z x
theorem sky_up {B h : Heap} {l : List Env} {a L : Addr} {Z Z' : Obj → Prop} (z : ∀ o, Z o → Z' o) (x : Sky B l a Z L h) : Sky B l a Z' L h := by
  rcases x with ⟨c1, c2, c3, oe, vs, c4, c5, c6, c7⟩ | ⟨c1, c2, c3, c4⟩ | ⟨c1, c2, c3, c4⟩
  · exact .inl ⟨c1, c2, c3, oe, vs, c4, z oe c5, c6, c7⟩
  · exact .inr (.inl ⟨c1, c2, c3, tracedZ_up z c4⟩)
  · exact .inr (.inr ⟨c1, c2, c3, tracedZ_up z c4⟩)
/-- who takes errors with any context takes those without -/
theorem takesN_of {X : Cx} {W : WX} (t : Takes X W) : L2N.Takes X W := fun u s' ⟨a, B, sI, pins, σ, H, cls, d, e, I, nb, up, sky, na, os, ag, w⟩ =>
  t u s' ⟨a, B, sI, pins, σ, H, cls, d, e, I, nb, up, sky_up (fun _ z => z.zc) sky, na, os, ag, w⟩
end L2
/-! except C as e, where the suite may raise -/
namespace HandSPX
end HandSPX
namespace L2
open PySem PySem.Spec PyProof.Rows L2H HandSPX
theorem tracedZ_but {h h' B : Heap} {a L : Addr} {Z : Obj → Prop} {v : Value} {m : Str → Option Value} (x : HandSPX.TracedZ h B a Z v) (hn : h.Ns L m) (hs : Heap.SameBut L h h') : HandSPX.TracedZ h' B a Z v := by
  obtain ⟨oe, vs, T, oT, ts, he, hz, hd, h1, hnT, hTe, hT, hdT, h3⟩ := x
  obtain ⟨oL, es, ep, hoL, hdL, _⟩ := hn
  have ne : ∀ {b : Addr} {o : Obj} {us : Array Value}, h.get? b = some o → o.data = .fields us → b ≠ L := fun {b o us} q dq z => by
    subst z
    rw [hoL] at q
    have y := Option.some.inj q
    rw [← y, hdL] at dq
    cases dq
  exact ⟨oe, vs, T, oT, ts, (hs.2 a (ne he hd)).trans he, hz, hd, h1, hnT, hTe, (hs.2 T (ne hT hdT)).trans hT, hdT, h3⟩
/-- the context of an except suite that may raise, with a wish -/
abbrev suiteE (X : Cx) (a : Addr) (pn : List (Addr × Obj)) (xe : Value → Shared → Prop) : Cx := { X with A := X.A.mark (some (.ref a)), calm := false, pn := pn, xe := xe }
section
variable {X : Cx} {pins : List (Addr × Obj)} {σ : L2.St} {H : Hp} {s : Shared} {i : Nat} {n : Str}
/-- a name of the frame has gone -/
theorem Inv.gone {m : Str → Option Value} {v : Option Value} {G : Heap} {t : Nat} (I : Inv X pins σ H s) (hN : X.N.Nodup) (hi : X.N[i]? = some n)
    (hlk : ∀ (j : Nat) (y : Str) (v' : V), X.N[j]? = some y → σ[j]? = some (some v') → Vis X.env.scope y → ∃ u, RelV v' u ∧ Look X.env s.heap m y u)
    (hn' : G.Ns X.env.locals (fun y => if y = n then v else m y)) (hs : Heap.SameBut X.env.locals s.heap G) : Inv X pins (σ.set i none) H { s with heap := G, toks := t } := by
  have neL : ∀ b o, X.s_0.heap.get? b = some o → b ≠ X.env.locals := fun b o e => Nat.ne_of_lt (Nat.lt_of_lt_of_le (Heap.lt_size e) I.ok.above)
  refine ⟨I.ok, I.os, I.bare, ⟨fun b o e q hb hx => (hs.2 b (neL b o e)).trans (I.base.keep b o e q hb hx), fun b o e q hb hx => ?_, I.base.free, fun b o e hx => ?_, I.base.tups, I.base.frzs, I.base.tbls⟩, ⟨_, hn', fun j y v' e1 e2 e3 => ?_⟩, fun y c e => ?_, I.free, I.freeC, fun p hp => ?_, fun b ob e => ?_, by simpa using I.len⟩
  · obtain ⟨sl, e1⟩ := I.base.slot b o e q hb hx
    exact ⟨sl, (hs.2 b (neL b o e)).trans e1⟩
  · obtain ⟨o', e1⟩ := I.base.there b o e hx
    exact ⟨o', (hs.2 b (neL b o e)).trans e1⟩
  · by_cases hj : j = i
    · subst hj
      by_cases hlt : j < σ.length
      · rw [List.getElem?_set_self hlt] at e2; cases e2
      · rw [List.getElem?_eq_none (by simpa using hlt)] at e2; cases e2
    · rw [List.getElem?_set_ne (Ne.symm hj)] at e2
      obtain ⟨u', r', q⟩ := hlk j y v' e1 e2 e3
      refine ⟨u', r', ?_⟩
      rcases q with ⟨k, e⟩ | ⟨k, c, e, z⟩
      · exact .inl ⟨k, (if_neg fun (w : y = n) => hj (nodup_ix hN (w ▸ e1) hi)).trans e⟩
      · exact .inr ⟨k, c, e, z.sameBut hs (I.cne y c e)⟩
  · obtain ⟨w', z⟩ := I.cell y c e
    exact ⟨w', z.sameBut hs (I.cne y c e)⟩
  · obtain ⟨e, q, ne, nf, d⟩ := I.pin p hp
    exact ⟨(hs.2 p.1 ne).trans e, q, ne, nf, d⟩
  · refine (I.hok b ob e).stay (fun c w' hc q => (hs.2 c ?_).trans q) (fun _ q => q) fun _ _ q => q
    intro z
    subst z
    rcases hc with hc | hc
    · rw [← hc, I.free] at e; cases e
    · rw [I.free] at hc; cases hc
end
/-- an exception leaves the suite: the name goes, the exception goes on -/
theorem as_tail {X : Cx} {pins : List (Addr × Obj)} {a0 : Addr} {q0 : Addr × Obj} {EE : Value → Shared → Prop} {Wout : WX} {i : Nat} {n : Str} {pos : Pos} {u : Value} {s' : Shared} (hs : X.stack = X.env :: X.outer) (hf : X.env.frame = some X.env.locals) (hN : X.N.Nodup) (hi : X.N[i]? = some n)
    (hln : X.env.kindOf n = some .local) (tk : L2.Takes X Wout) (ok : X.Ok) (x : L2.XE (suiteE X a0 (q0 :: (X.pn ++ pins)) EE) (fun cls d σ H => Wout cls d (σ.set i none) H) u s') :
    AsSuiteRaised (model X.prog X.w) (X.A.mark (some (.ref a0))) X.env n pos (notedBy (model X.prog X.w) (X.A.mark (some (.ref a0))) X.env (cameBackBy (model X.prog X.w) X.A X.env X.xe)) u s' := by
  obtain ⟨a, B, sI, pins', σ', H', cls, d, rfl, I', nb, up, sky, na, os, ag, w⟩ := x
  have I : Inv X pins σ' H' sI := ⟨ok, I'.os, I'.bare, I'.base, I'.loc, I'.cell, I'.free, I'.freeC, fun p hp => I'.pin p (List.mem_append_left _ (List.mem_cons_of_mem _ hp)), I'.hok, I'.len⟩
  have hfr : (X.A.mark (some (.ref a0))).frames = some (X.env :: X.outer) := by
    show X.A.frames = _
    rw [ok.frames, hs]
  have hcls : (X.env.scope.kind == .class || (X.env.scope.kind == .module && X.env.locals != X.env.globals)) = false := by rw [ok.kind]; rfl
  have sky : Sky B (X.env :: X.outer) a (Zc cls d) X.env.locals s'.heap := by rw [← hs]; exact sky
  obtain ⟨m, hn, hlk⟩ := id I.loc
  show wpAny (model X.prog X.w) _ (noteFrame (.ref a) X.env) _ _ s'
  have fin : ∀ h1, HandSPX.HeldZ B (X.env :: X.outer) a (Zc cls d) X.env.locals h1 → s'.heap.UpToSlots h1 →
      wpAny (model X.prog X.w) (X.A.mark (some (.ref a0))) (do bindName X.env n .none; unbindBehindTheSuite X.env n pos)
        (fun _ s2 => wpAny (model X.prog X.w) (X.A.mark (some (.ref a0))) (passOn "try.except-as" (.ref a) X.env : Sem Flow) (fun _ _ => False) (notedBy (model X.prog X.w) (X.A.mark (some (.ref a0))) X.env (cameBackBy (model X.prog X.w) X.A X.env X.xe)) s2)
        (fun y s2 => wpAny (model X.prog X.w) (X.A.mark (some (.ref a0))) (setFlight (.ref a) none) (fun _ s3 => (notedBy (model X.prog X.w) (X.A.mark (some (.ref a0))) X.env (cameBackBy (model X.prog X.w) X.A X.env X.xe)) y s3) (notedBy (model X.prog X.w) (X.A.mark (some (.ref a0))) X.env (cameBackBy (model X.prog X.w) X.A X.env X.xe)) s2) { s' with heap := h1 } := by
    intro h1 hh up1
    have upI := up.trans up1
    have hn1 : h1.Ns X.env.locals m := Heap.UpToSlots.ns upI hn
    refine wpAny_nameGoes_keeps (s := { s' with heap := h1 }) hln hn1 hcls fun h2 v hn2 hs2 => ?_
    have hs2 : Heap.SameBut X.env.locals h1 h2 := hs2
    obtain ⟨b1, b0, f1, t1⟩ := hh
    have hBL : B.get? X.env.locals = none := by
      obtain ⟨_, ⟨L', _, hf', hb', _⟩, _⟩ := id f1
      rw [hf] at hf'
      rw [Option.some.inj hf']
      exact hb'
    have b2 : B.StaysIn h2 := fun b o hb => (hs2.2 b fun q => by rw [q, hBL] at hb; cases hb).trans (b1 b o hb)
    have f2 : h2.FunFrames B (X.env :: X.outer) := Heap.FunFrames.sameBut hs2 hn2 f1
    have t2 := tracedZ_but t1 hn1 hs2
    obtain ⟨oe, vs, T, oT, ts, he, hz, hd, h1', r⟩ := id t2
    unfold PySem.passOn
    refine wpAny_bind (wpAny_field he hd h1' ?_)
    rw [if_neg (show ¬ ((Value.ref T == Value.none) = true) from by simp)]
    rw [hf]
    have step1 : ∀ {Q : Unit → Shared → Prop} {E₁ : Value → Shared → Prop} {tk0 : Nat}, (∀ h3, B.StaysIn h3 → h3.FunFrames B (X.env :: X.outer) → HandSPX.TracedZ h3 B a (Zc cls d) (rawInt X.env.locals) → h2.UpToSlots h3 → Q () { s' with heap := h3, toks := tk0 }) →
        wpAny (model X.prog X.w) (X.A.mark (some (.ref a0))) (setFlight (.ref a) (some X.env.locals)) Q E₁ { s' with heap := h2, toks := tk0 } := fun {Q E₁ tk0} k => HandSPX.setFlight_anyZ (s := { s' with heap := h2, toks := tk0 }) (fr := some X.env.locals) b2 f2 t2 fun h3 k1 k2 k3 k4 => k h3 k1 k2 k3 k4
    first
      | refine wpAny_bind (wpAny_pure (wpAny_bind (step1 fun h3 b3 f3 t3 u3 => ?_)))
      | refine wpAny_bind (step1 fun h3 b3 f3 t3 u3 => ?_)
    refine wpAny_throw ?_
    show wpAny (model X.prog X.w) _ (noteFrame (.ref a) X.env) _ _ _
    refine HandSPX.againZ hf t3 ?_
    obtain ⟨oe3, vs3, T3, oT3, ts3, he3, hz3, hd3, h13, r3⟩ := id t3
    show wpAny (model X.prog X.w) X.A (do
      if (← field (.ref a) 1) == .none then unsupported "frame.own-activation:exception-without-traceback"
      setFlight (.ref a) X.env.frame) _ _ _
    refine wpAny_bind (wpAny_field he3 hd3 h13 ?_)
    rw [if_neg (show ¬ ((Value.ref T3 == Value.none) = true) from by simp)]
    rw [hf]
    refine HandSPX.setFlight_anyZ (fr := some X.env.locals) b3 f3 t3 fun h4 b4 f4 t4 u4 => tk _ _ ?_
    -- the state without the exception, the name gone
    obtain ⟨oL2, es2, ep2, hoL2, hdL2, rest2⟩ := id hn2
    obtain ⟨oL, es, ep, hoL, hdL, rest⟩ := id hn
    have hfree : (oL2).isFreed = false := by cases oL2; simp only at hdL2; subst hdL2; rfl
    have sG : Heap.SameBut X.env.locals sI.heap (sI.heap.update X.env.locals fun _ => oL2) := Heap.SameBut.update ..
    have gL : (sI.heap.update X.env.locals fun _ => oL2).get? X.env.locals = some oL2 := Heap.get?_update_self (fun _ => oL2) hoL hfree
    have nG : (sI.heap.update X.env.locals fun _ => oL2).Ns X.env.locals (fun y => if y = n then v else m y) := ⟨oL2, es2, ep2, gL, hdL2, rest2⟩
    have JG := I.gone (t := sI.toks) hN hi hlk nG sG
    have inF : X.env.locals ∈ frs X.stack := by rw [hs]; exact List.mem_filterMap.mpr ⟨X.env, List.mem_cons_self, hf⟩
    refine ⟨a, B, _, pins, σ'.set i none, H', cls, d, rfl, JG, fun b o hb hbf => ?_, fun b o hb hnf => ?_, .inr (.inr ?_), na, os, ag, w⟩
    · have ne : b ≠ X.env.locals := fun z => hbf (z ▸ inF)
      exact nb b o ((sG.2 b ne).symm.trans hb) hbf
    · have up4 : h2.UpToSlots h4 := u3.trans u4
      by_cases ne : b = X.env.locals
      · subst ne
        rw [show (sI.heap.update X.env.locals fun _ => oL2).get? X.env.locals = some oL2 from gL] at hb
        cases hb
        exact up4 _ _ hoL2 hnf
      · have hb' : sI.heap.get? b = some o := (sG.2 b ne).symm.trans hb
        obtain ⟨sl, e1⟩ := upI b o hb' hnf
        obtain ⟨sl2, e2⟩ := up4 b _ ((hs2.2 b ne).trans e1) hnf
        exact ⟨sl2, e2⟩
    · rw [hs]; exact ⟨b4, b0, f4, t4⟩
  rcases sky with ⟨hB, hn0, hl, oe, vs, he, hz, hd, h1⟩ | fl | hh
  · exact HandSPX.look_newZ Zc.steady hfr hl hf he hB hn0 hd h1 hz fin
  · exact HandSPX.looks_onZ Zc.steady hfr hf fl fin
  · exact HandSPX.againZ hf hh.2.2.2 (fin s'.heap hh (Heap.UpToSlots.refl _))
section
variable {X : Cx} {x n : Str} {c : Value} {i : Nat} {body suite : List Stmt} {b₀ : Stmt} {np pos pos' : Pos} {tb : WX → TS} {ts : Addr → Value → Option Addr → TS} {Wout : WX}
theorem ps_try_asX (hs : X.stack = X.env :: X.outer) (hf : X.env.frame = some X.env.locals) (hN : X.N.Nodup) (hi : X.N[i]? = some n) (hln : X.env.kindOf n = some .local) (hc : Names X x c) (tk : L2.Takes X Wout)
    (hb : ∀ (W : WX) (pn : List (Addr × Obj)) (xe : Value → Shared → Prop), L2N.Takes (X.tr pn xe) W → PassesOwn (model X.prog X.w) X.A X.env xe → PSs (X.tr pn xe) body (tb W))
    (hsu : ∀ (a : Addr) (oe : Obj) (cls : Value) (d : Option Addr) (pn : List (Addr × Obj)) (xe : Value → Shared → Prop), L2N.Zn cls d oe → (∃ vs, oe.data = .fields vs) → L2.Takes (suiteE X a ((a, oe) :: pn) xe) (fun cls d σ H => Wout cls d (σ.set i none) H) → HotC (suiteE X a ((a, oe) :: pn) xe) →
      PSs (suiteE X a ((a, oe) :: pn) xe) (b₀ :: suite) (ts a cls d)) :
    PS X (.Try body [.ExceptHandler (some (.Name x np)) (some n) (b₀ :: suite) pos'] [] [] pos) (fun D σ H => tb (wAs X.K c i ts Wout D) D σ H) := by
  refine ⟨fun pins s σ H D I h => ?_⟩
  have ok := I.ok
  have hfr : X.A.frames = some (X.env :: X.outer) := by rw [ok.frames, hs]
  have hloc : Loc X.env.scope n := .inl hln
  refine wpAny_Try_except ?_
  refine wpAny_mono ((hb (wAs X.K c i ts Wout D) (X.pn ++ pins) (fun e s1 => wpAny (model X.prog X.w) X.A (noteFrame e X.env) (fun _ s2 => wpAny (model X.prog X.w) X.A (setFlight e none) (fun _ s3 =>
    wpAny (model X.prog X.w) X.A (handleBy e X.env [.ExceptHandler (some (.Name x np)) (some n) (b₀ :: suite) pos']) (SP X pins D) X.xe s3) X.xe s2) X.xe s1) (fun u s' xx => ?_) PassesOwn.looking).run [] s σ H D (I.toTry _) h) (fun f s1 hsp => ?_) (fun e s1 he => he)
  · obtain ⟨a, B, sI, pins', σ', H', cls, d, rfl, J', nb, up, sky, na, os, ag, b, hb1, hyes, hno⟩ := xx
    have J : Inv X pins σ' H' sI := J'.ofTry ok
    have sky' : Sky B (X.env :: X.outer) a (L2N.Zn cls d) X.env.locals s'.heap := by rw [← hs]; exact sky
    show wpAny (model X.prog X.w) X.A (noteFrame (.ref a) X.env) _ _ _
    refine L2N.Sky.land L2N.Zn.steady hfr hf sky' fun h3 fl3 up3 => ?_
    have J3 : Inv X pins σ' H' { s' with heap := h3 } := J.landed nb fl3.1 (up.trans up3) os ag
    obtain ⟨oe3, vs3, he3, hz3, hd3⟩ := fl3.there
    have nfr : a ∉ frs (X.env :: X.outer) := fun hm => by
      obtain ⟨_, o', e', hnf⟩ := fl3.2.2.1.mem hm
      rw [he3] at e'; cases e'
      exact hnf _ hd3
    have nL : a ≠ X.env.locals := fun z => nfr (List.mem_filterMap.mpr ⟨X.env, List.mem_cons_self, by rw [hf, z]⟩)
    have nF : a ∉ X.fs := fun hm => by
      obtain ⟨e, he, q⟩ := List.mem_filterMap.mp hm
      exact nfr (List.mem_filterMap.mpr ⟨e, List.mem_cons_of_mem _ he, q⟩)
    have S3 := J3.suite he3 hd3 na nL nF
    refine wpAny_handleBy_cons (codeAny_handlers_test ?_) (by intro q; cases q)
    have LT : PySem.W.Looks (model X.prog X.w) h3 (typeOf (.ref a)) cls := fun A Q E s k q => wpAny_typeOf_ref (k _ _ he3) (by rw [hz3.1]; exact q)
    have LM := PySem.W.exm_one (M := model X.prog X.w) (J3.kIn) LT hb1
    have test : ∀ {Q : Value → Shared → Prop} {E : Value → Shared → Prop}, Q c { s' with heap := h3 } → wpAny (model X.prog X.w) (X.A.mark (some (.ref a))) (eval (.Name x np) X.env) Q E { s' with heap := h3 } := fun {Q E} q => by
      obtain ⟨hg, hdbg, hm | ⟨hm, hv, hnn⟩⟩ := hc
      · exact ld_glob (X := X.suite a ((a, oe3) :: (X.pn ++ pins))) S3 hg hm q hdbg
      · exact ld_blt (X := X.suite a ((a, oe3) :: (X.pn ++ pins))) S3 hg hm hv q hnn hdbg
    refine test (LM.here ?_)
    cases b with
    | true =>
      refine codeAny_handlers_suite_as ?_
      refine HandSPX.lands_againZ fl3 fun h4 fl4 up4 => ?_
      have J4 : Inv X pins σ' H' { s' with heap := h4 } := J.landed nb fl4.1 ((up.trans up3).trans up4) os ag
      obtain ⟨oe4, vs4, he4, hz4, hd4⟩ := fl4.there
      have S4 := J4.suite he4 hd4 na nL nF
      refine store_ok (X := X.suite a ((a, oe4) :: (X.pn ++ pins))) (v := .ref a) S4 hN hi hloc rfl (fun s5 S5 => ?_) (.inr hln)
      have tkS : L2.Takes (suiteE X a ((a, oe4) :: (X.pn ++ pins)) (fun e s3 => AsSuiteRaised (model X.prog X.w) (X.A.mark (some (.ref a))) X.env n pos' (notedBy (model X.prog X.w) (X.A.mark (some (.ref a))) X.env (cameBackBy (model X.prog X.w) X.A X.env X.xe)) e s3)) (fun cls d σ H => Wout cls d (σ.set i none) H) :=
        fun u2 s2 x2 => as_tail hs hf hN hi hln tk ok x2
      have hot : HotC (suiteE X a ((a, oe4) :: (X.pn ++ pins)) (fun e s3 => AsSuiteRaised (model X.prog X.w) (X.A.mark (some (.ref a))) X.env n pos' (notedBy (model X.prog X.w) (X.A.mark (some (.ref a))) X.env (cameBackBy (model X.prog X.w) X.A X.env X.xe)) e s3)) := ⟨(a, oe4), ⟨rfl, vs4, hd4, hz4.2.2 vs4 hd4⟩, List.mem_cons_self⟩
      have S5' : Inv (suiteE X a ((a, oe4) :: (X.pn ++ pins)) (fun e s3 => AsSuiteRaised (model X.prog X.w) (X.A.mark (some (.ref a))) X.env n pos' (notedBy (model X.prog X.w) (X.A.mark (some (.ref a))) X.env (cameBackBy (model X.prog X.w) X.A X.env X.xe)) e s3)) [] (σ'.set i (some (.ref a))) H' s5 := Inv.wish S5 _
      refine wpAny_mono ((hsu a oe4 cls d (X.pn ++ pins) _ hz4 ⟨_, hd4⟩ tkS hot).run [] s5 _ H' _ S5' (hyes rfl a na)) (fun f s6 hsp => ?_) (fun e6 s6 z => z)
      have end_ : ∀ {σ6 : L2.St} {H6 : Hp} {Q : Shared → Prop} {pn' : List (Addr × Obj)} {xe : Value → Shared → Prop}, Inv (suiteE X a ((a, oe4) :: (X.pn ++ pins)) xe) pn' σ6 H6 s6 → (∀ s7, Inv X pins (σ6.set i none) H6 s7 → Q s7) →
          wpAny (model X.prog X.w) X.A (do bindName X.env n .none; unbindBehindTheSuite X.env n pos') (fun _ s7 => Q s7) X.xe s6 := fun {σ6 H6 Q pn' xe} S6 hq => by
        have S7 : Inv X pins σ6 H6 s6 := ⟨ok, S6.os, S6.bare, S6.base, S6.loc, S6.cell, S6.free, S6.freeC, fun p hp => S6.pin p (List.mem_append_left _ (List.mem_cons_of_mem _ hp)), S6.hok, S6.len⟩
        exact gone_ok S7 hN hi hln hq
      cases f with
      | next =>
        obtain ⟨σ6, H6, S6, q6⟩ := hsp
        exact end_ S6 fun s7 J7 => ⟨_, _, J7, q6⟩
      | brk =>
        obtain ⟨σ6, H6, S6, q6⟩ := hsp
        exact end_ S6 fun s7 J7 => ⟨_, _, J7, q6⟩
      | cont =>
        obtain ⟨σ6, H6, S6, q6⟩ := hsp
        exact end_ S6 fun s7 J7 => ⟨_, _, J7, q6⟩
      | ret u =>
        obtain ⟨v6, σ6, H6, S6, r6, q6⟩ := hsp
        exact end_ S6 fun s7 J7 => ⟨_, _, _, J7, r6, q6⟩
    | false =>
      show wpAny (model X.prog X.w) X.A (handleBy (.ref a) X.env []) _ _ _
      refine wpAny_handleBy_nil ?_
      obtain ⟨k1, k2, k3, oe, vs, T, oT, ts', he, hz, hd, h1, hr⟩ := id fl3
      unfold PySem.passOn
      refine wpAny_bind (wpAny_field he hd h1 ?_)
      rw [if_neg (show ¬ ((Value.ref T == Value.none) = true) from by simp)]
      have fin : wpAny (model X.prog X.w) X.A (setFlight (.ref a) X.env.frame) (fun _ s4 => wpAny (model X.prog X.w) X.A (throw (.ref a) : Sem Flow) (SP X pins D) X.xe s4) X.xe { s' with heap := h3 } := by
        rw [hf]
        refine HandSPX.setFlight_upZ fl3 fun h4 hh4 up4 => wpAny_throw (takesN_of tk _ _ ?_)
        exact ⟨a, B, sI, pins, σ', H', cls, d, rfl, J, nb, (up.trans up3).trans up4, .inr (.inr (by rw [hs]; exact hh4)), na, os, ag, hno rfl⟩
      first
        | exact wpAny_bind (wpAny_pure (wpAny_bind fin))
        | exact wpAny_bind fin
  · cases f with
    | next =>
      obtain ⟨σ', H', J', q⟩ := hsp
      exact wpAny_execs_nil ⟨σ', H', J'.ofTry ok, q⟩
    | brk =>
      obtain ⟨σ', H', J', q⟩ := hsp
      exact ⟨σ', H', J'.ofTry ok, q⟩
    | cont =>
      obtain ⟨σ', H', J', q⟩ := hsp
      exact ⟨σ', H', J'.ofTry ok, q⟩
    | ret u =>
      obtain ⟨v, σ', H', J', r, q⟩ := hsp
      exact ⟨v, σ', H', J'.ofTry ok, r, q⟩
end
end L2
/-! texts of at most n signs, each a sign -/
namespace TX
open PySem PySem.Spec PyProof.Rows L2 SX
structure Tx (n : Nat) (z : Str) : Prop where
  len : z.length ≤ n
  ok : ∀ c ∈ TL.tl z, c < 0x110000
variable {n m k : Nat} {z y s : Str} {a b : Option Int} {l : List Str}
theorem Tx.up (h : Tx n z) (e : n ≤ m) : Tx m z := ⟨Nat.le_trans h.len e, h.ok⟩
theorem Tx.str (h : Tx n z) : PyData.strOk z = true := by
  show (z.cps.all fun c => decide (c < 0x110000)) = true
  rw [← Array.all_toList, List.all_eq_true]
  intro c hc
  exact decide_eq_true (h.ok c hc)
theorem tx_of (hl : z.length ≤ n) (h : PyData.strOk z = true) : Tx n z := by
  have h : (z.cps.all fun c => decide (c < 0x110000)) = true := h
  rw [← Array.all_toList, List.all_eq_true] at h
  exact ⟨hl, fun c hc => of_decide_eq_true (h c hc)⟩
theorem cut_len (z : Str) (a b : Option Int) : (cutS z a b).length ≤ z.length := by
  rw [TL.len_tl, TL.len_tl z]
  show ((((z.cps.toList.drop _).take _).toArray).toList).length ≤ (TL.tl z).length
  rw [List.length_take, List.length_drop]
  show _ ≤ z.cps.toList.length
  omega
theorem tx_cut (h : Tx n z) : Tx n (cutS z a b) := ⟨Nat.le_trans (cut_len z a b) h.len, fun c hc => h.ok c (by
  have hc : c ∈ (((z.cps.toList.drop _).take _).toArray).toList := hc
  exact List.mem_of_mem_drop (List.mem_of_mem_take hc))⟩
theorem tx_app (h : Tx n z) (g : Tx m y) : Tx (n + m) (z ++ y) := by
  refine ⟨?_, fun c hc => ?_⟩
  · rw [TL.len_tl, TL.tl_append, List.length_append, ← TL.len_tl, ← TL.len_tl]
    have := h.len; have := g.len; omega
  · rw [TL.tl_append] at hc
    rcases List.mem_append.mp hc with e | e
    · exact h.ok c e
    · exact g.ok c e
theorem tx_joinL {S : List Nat} (hS : ∀ c ∈ S, c < 0x110000) (hk : S.length ≤ k) : ∀ l : List (List Nat), (∀ p ∈ l, p.length ≤ n ∧ ∀ c ∈ p, c < 0x110000) → (TL.joinL S l).length ≤ l.length * (n + k) ∧ ∀ c ∈ TL.joinL S l, c < 0x110000
  | [], _ => by simp [TL.joinL]
  | [p], h => by
    have := h p List.mem_cons_self
    refine ⟨?_, this.2⟩
    show p.length ≤ 1 * (n + k)
    omega
  | p :: q :: r, h => by
    have h1 := h p List.mem_cons_self
    have ih := tx_joinL hS hk (q :: r) fun x hx => h x (List.mem_cons_of_mem _ hx)
    show (p ++ (S ++ TL.joinL S (q :: r))).length ≤ (r.length + 1 + 1) * (n + k) ∧ ∀ c ∈ p ++ (S ++ TL.joinL S (q :: r)), c < 0x110000
    refine ⟨?_, fun c hc => ?_⟩
    · have ih := ih.1
      rw [List.length_append, List.length_append, Nat.add_mul]
      rw [List.length_cons] at ih
      omega
    · rcases List.mem_append.mp hc with e | e
      · exact h1.2 c e
      · rcases List.mem_append.mp e with e | e
        · exact hS c e
        · exact ih.2 c e
theorem tx_join (hs : Tx k s) (h : ∀ z ∈ l, Tx n z) : Tx (l.length * (n + k)) (Txt.join s l) := by
  have := tx_joinL (n := n) (k := k) (S := TL.tl s) hs.ok (by rw [← TL.len_tl]; exact hs.len) (l.map TL.tl) (by
    intro p hp
    obtain ⟨z, hz, rfl⟩ := List.mem_map.mp hp
    exact ⟨by rw [← TL.len_tl]; exact (h z hz).len, (h z hz).ok⟩)
  rw [TL.join_eq]
  rw [List.length_map] at this
  exact ⟨by rw [TL.len_tl, TL.tl_join]; exact this.1, by rw [TL.tl_join]; exact this.2⟩
theorem tx_one {c : Nat} (h : c < 0x110000) : Tx 1 ⟨#[c]⟩ := ⟨Nat.le_refl _, fun d hd => by
  have hd : d ∈ [c] := hd
  rw [List.mem_singleton.mp hd]; exact h⟩
theorem sz (h : Tx n z) (g : Tx m y) (e : n + m ≤ 1000000) : z.length + y.length ≤ sizeLine := by
  have := h.len; have := g.len; rw [sizeLine_eq]; omega
theorem sz1 (h : Tx n z) (e : n ≤ 1000000) : z.length ≤ sizeLine := by
  have := h.len; rw [sizeLine_eq]; omega
theorem sum_len (h : ∀ z ∈ l, Tx n z) : (l.map (·.length)).sum ≤ l.length * n := by
  induction l with
  | nil => simp
  | cons z l ih =>
    have ih := ih fun x hx => h x (List.mem_cons_of_mem _ hx)
    have := (h z List.mem_cons_self).len
    rw [List.map_cons, List.sum_cons, List.length_cons, Nat.add_mul]
    omega
theorem join_sz (hs : Tx k s) (h : ∀ z ∈ l, Tx n z) (e : l.length * (n + k) ≤ 1000000) : (l.map (·.length)).sum + l.length * s.length ≤ 16777216 := by
  have := sum_len h
  have h2 := Nat.mul_le_mul_left l.length hs.len
  rw [Nat.mul_add] at e
  omega
theorem sgn_tx {z : Str} {n : Nat} (hl : z.length = n) (h0 : 0 < n) (hk : z.cps.toList.all (· < 0x110000) = true) {i : Int} : ∃ c, atI z.cps.toList (i % (z.length : Nat)) = some c ∧ Tx 1 ⟨#[c]⟩ := by
  rw [hl]
  have hl2 : z.cps.toList.length = n := by rw [Array.length_toList]; exact hl
  have h1 : 0 ≤ i % (n : Int) := Int.emod_nonneg _ (by omega)
  have h2 : i % (n : Int) < n := Int.emod_lt_of_pos _ (by omega)
  obtain ⟨j, hj⟩ : ∃ j : Nat, i % (n : Int) = (j : Int) := ⟨(i % (n : Int)).toNat, by omega⟩
  rw [hj]
  have hj2 : j < z.cps.toList.length := by omega
  refine ⟨z.cps.toList[j], atI_nat (List.getElem?_eq_getElem hj2), tx_one ?_⟩
  exact of_decide_eq_true (List.all_eq_true.mp hk _ (List.getElem_mem hj2))
/-- a list of n texts of at most m signs -/
structure Strs (H : Hp) (D : Addr) (n m : Nat) : Prop where
  ex : ∃ ws : List Str, H D = some (.lst (ws.map V.str)) ∧ ws.length = n ∧ ∀ z ∈ ws, Tx m z
theorem Strs.nil {H : Hp} {D : Addr} {m : Nat} : Strs (upd H D (.lst [])) D 0 m := ⟨[], upd_same, rfl, fun z h => absurd h List.not_mem_nil⟩
theorem Strs.push {H : Hp} {D : Addr} {n m : Nat} {ws : List Str} {z : Str} (hl : ws.length + 1 = n) (h : ∀ z ∈ ws, Tx m z) (g : Tx m z) : Strs (upd H D (.lst (ws.map V.str ++ [V.str z]))) D n m :=
  ⟨ws ++ [z], by rw [upd_same, List.map_append]; rfl, by rw [List.length_append]; exact hl, fun y hy => (List.mem_append.mp hy).elim (h y) fun e => by rw [List.mem_singleton.mp e]; exact g⟩
end TX
namespace L2
open PySem PySem.Spec PyProof.Rows
def rJoinK (K : PySem.W.Frag) : V → List V → Hp → VK → Prop := fun x xs H Q => ∃ a p, ∃ ys : List Str, x = .str a ∧ xs = [.ref p] ∧ (SqL K H p (ys.map V.str) ∨ SqT K H p (ys.map V.str)) ∧
      (ys.map (·.length)).sum + ys.length * a.length ≤ 16777216 ∧ Q (.str (Txt.join a ys)) H
theorem pe_joinK (K : PySem.W.Frag) {X : Cx} {o e : Expr} {to te : TE} {apos pos : Pos} (ho : PE X o to) (he : PE X e te) (hs : starEach [e] X.env = [(false, eval e X.env)] := by rfl) (hbase : attributeBase o "join" X.env (eval o X.env) = eval o X.env := by rfl) (hline : (apos.endLine == pos.line) = true := by rfl) (hK : X.K = K := by rfl) :
    PE X (.Call (.Attribute o "join" apos) [e] [] pos) (tM1 (rJoinK K) to te) := by
  subst hK
  exact pe_join ho he hs hbase hline
end L2
/-! policies: four words, their menus, their rows, their text -/
namespace GP
open PySem PySem.Spec PyProof.Rows L2 SX TL
structure Q4 where
  o : Str
  p : Str
  e : Str
  f : Str
deriving DecidableEq
def Q4.l (q : Q4) : List Str := [q.o, q.p, q.e, q.f]
def MO : List Str := [Str.ofString "share", Str.ofString "rank", Str.ofString "age", Str.ofString "short"]
def MP : List Str := [Str.ofString "first", Str.ofString "tight", Str.ofString "loose"]
def ME : List Str := [Str.ofString "never", Str.ofString "owed", Str.ofString "any"]
def MF : List Str := [Str.ofString "free", Str.ofString "strict", Str.ofString "hold"]
def vsl (l : List Str) : List V := l.map V.str
def F3 (a b c : Str) (l : List Str) : List Q4 := l.map fun d => ⟨a, b, c, d⟩
def F2 (a b : Str) (l : List Str) : List Q4 := l.flatMap fun c => F3 a b c MF
def F1 (a : Str) (l : List Str) : List Q4 := l.flatMap fun b => F2 a b ME
def F0 (l : List Str) : List Q4 := l.flatMap fun a => F1 a MP
def rows : List Q4 := F0 MO
theorem rows_len : rows.length = 108 := by decide +kernel
theorem take_fm {α β : Type} (f : α → List β) {l : List α} {i : Nat} {x : α} (h : l[i]? = some x) : (l.take (i + 1)).flatMap f = (l.take i).flatMap f ++ f x := by
  obtain ⟨hl, rfl⟩ := List.getElem?_eq_some_iff.mp h
  rw [List.take_succ_eq_append_getElem hl, List.flatMap_append]
  simp
theorem take_mp {α β : Type} (f : α → β) {l : List α} {i : Nat} {x : α} (h : l[i]? = some x) : (l.take (i + 1)).map f = (l.take i).map f ++ [f x] := by
  obtain ⟨hl, rfl⟩ := List.getElem?_eq_some_iff.mp h
  rw [List.take_succ_eq_append_getElem hl, List.map_append]
  simp
theorem F0_step {i : Nat} {a : Str} (h : MO[i]? = some a) : F0 (MO.take (i + 1)) = F0 (MO.take i) ++ F1 a MP := take_fm _ h
theorem F1_step {a : Str} {i : Nat} {b : Str} (h : MP[i]? = some b) : F1 a (MP.take (i + 1)) = F1 a (MP.take i) ++ F2 a b ME := take_fm _ h
theorem F2_step {a b : Str} {i : Nat} {c : Str} (h : ME[i]? = some c) : F2 a b (ME.take (i + 1)) = F2 a b (ME.take i) ++ F3 a b c MF := take_fm _ h
theorem F3_step {a b c : Str} {i : Nat} {d : Str} (h : MF[i]? = some d) : F3 a b c (MF.take (i + 1)) = F3 a b c (MF.take i) ++ [⟨a, b, c, d⟩] := take_mp _ h
/-- the words that no menu has, in their order -/
def wr (q : Q4) : List Str := (if q.o ∈ MO then [] else [q.o]) ++ ((if q.p ∈ MP then [] else [q.p]) ++ ((if q.e ∈ ME then [] else [q.e]) ++ (if q.f ∈ MF then [] else [q.f])))
def bad (q : Q4) : Option Str := (wr q).head?
structure Bd (q : Q4) (r : Option Str) : Prop where
  e : bad q = r
theorem bad_none {q : Q4} : bad q = none ↔ q.o ∈ MO ∧ q.p ∈ MP ∧ q.e ∈ ME ∧ q.f ∈ MF := by
  unfold bad wr
  constructor
  · intro h
    by_cases h1 : q.o ∈ MO <;> by_cases h2 : q.p ∈ MP <;> by_cases h3 : q.e ∈ ME <;> by_cases h4 : q.f ∈ MF <;> simp [h1, h2, h3, h4] at h ⊢
  · rintro ⟨h1, h2, h3, h4⟩
    simp [h1, h2, h3, h4]
theorem mem_rows {q : Q4} : q ∈ rows ↔ bad q = none := by
  rw [bad_none]
  unfold rows F0 F1 F2 F3
  simp only [List.mem_flatMap, List.mem_map]
  constructor
  · rintro ⟨a, ha, b, hb, c, hc, d, hd, rfl⟩
    exact ⟨ha, hb, hc, hd⟩
  · rintro ⟨h1, h2, h3, h4⟩
    exact ⟨_, h1, _, h2, _, h3, _, h4, rfl⟩
/-- how far the first words are fine -/
def wl (q : Q4) (i : Nat) : Prop := (i ≤ 0 ∨ q.o ∈ MO) ∧ (i ≤ 1 ∨ q.p ∈ MP) ∧ (i ≤ 2 ∨ q.e ∈ ME) ∧ (i ≤ 3 ∨ q.f ∈ MF)
def sp : Str := Str.ofString " "
def jn (q : Q4) : Str := Txt.join (Str.ofString " ") q.l
def rd (z : Str) : Option Q4 := match Txt.split z (Str.ofString " ") with
  | [a, b, c, d] => if bad ⟨a, b, c, d⟩ = none then some ⟨a, b, c, d⟩ else none
  | _ => none
structure Rd (z : Str) (r : Option Q4) : Prop where
  e : rd z = r
theorem rd_some {z : Str} {q : Q4} (h : rd z = some q) : q ∈ rows ∧ jn q = z ∧ Txt.split z (Str.ofString " ") = q.l := by
  have j := StrLaws.join_split z (Str.ofString " ")
  unfold rd at h
  split at h
  · rename_i a b c d e
    split at h
    · rename_i hb
      injection h with h
      subst h
      refine ⟨mem_rows.mpr hb, ?_, e⟩
      unfold jn
      rw [show Txt.join (Str.ofString " ") (Q4.l ⟨a, b, c, d⟩) = Str.join (Str.ofString " ") (Q4.l ⟨a, b, c, d⟩) from StrLaws.glued_eq_join _ _, show Q4.l ⟨a, b, c, d⟩ = [a, b, c, d] from rfl, ← e]
      exact j
    · cases h
  · cases h
theorem split_jn : ∀ q ∈ rows, Txt.split (jn q) (Str.ofString " ") = q.l := by decide +kernel
theorem rd_jn {q : Q4} (h : q ∈ rows) : rd (jn q) = some q := by
  unfold rd
  rw [split_jn q h]
  show (if bad q = none then some q else none) = some q
  rw [if_pos (mem_rows.mp h)]
theorem jn_iff {q : Q4} {z : Str} (h : q ∈ rows) : jn q = z ↔ rd z = some q := ⟨fun e => by rw [← e]; exact rd_jn h, fun e => (rd_some e).2.1⟩
theorem one_row : ∀ q ∈ rows, rows.filter (fun r => decide (r = q)) = [q] := by decide +kernel
def due (z : Str) : List Q4 := rows.filter fun r => decide (jn r = z)
theorem due_eq (z : Str) : due z = (rd z).toList := by
  have e : due z = rows.filter fun r => decide (rd z = some r) := List.filter_congr fun r hr => decide_eq_decide.mpr (jn_iff hr)
  rw [e]
  cases h : rd z with
  | none => simp
  | some q =>
    have := one_row q (rd_some h).1
    simp only [Option.some.injEq, Option.toList]
    rw [← this]
    exact List.filter_congr fun r _ => decide_eq_decide.mpr ⟨fun x => x.symm, fun x => x.symm⟩
/-- short texts of small signs -/
structure Ok (z : Str) : Prop where
  len : z.length ≤ 100
  ok : PyData.strOk z = true
def ALL : List Str := MO ++ (MP ++ (ME ++ MF))
structure Wd (z : Str) : Prop where
  ok : Ok z
  len : 1 ≤ z.length ∧ z.length ≤ 6
  up : Ok (Txt.upper z)
theorem all_fine : (ALL.all fun z => decide (z.length ≤ 6) && decide (1 ≤ z.length) && PyData.strOk z && decide ((Txt.upper z).length ≤ 100) && PyData.strOk (Txt.upper z)) = true := by decide +kernel
theorem wd_all {z : Str} (h : z ∈ ALL) : Wd z := by
  have := List.all_eq_true.mp all_fine z h
  simp only [Bool.and_eq_true, decide_eq_true_eq] at this
  obtain ⟨⟨⟨⟨a, b⟩, c⟩, d⟩, e⟩ := this
  exact ⟨⟨by omega, c⟩, ⟨b, a⟩, ⟨d, e⟩⟩
theorem mo_all {z : Str} (h : z ∈ MO) : z ∈ ALL := List.mem_append_left _ h
theorem mp_all {z : Str} (h : z ∈ MP) : z ∈ ALL := List.mem_append_right _ (List.mem_append_left _ h)
theorem me_all {z : Str} (h : z ∈ ME) : z ∈ ALL := List.mem_append_right _ (List.mem_append_right _ (List.mem_append_left _ h))
theorem mf_all {z : Str} (h : z ∈ MF) : z ∈ ALL := List.mem_append_right _ (List.mem_append_right _ (List.mem_append_right _ h))
structure Ok4 (q : Q4) : Prop where
  o : Ok q.o
  p : Ok q.p
  e : Ok q.e
  f : Ok q.f
theorem ok_rows {q : Q4} (h : q ∈ rows) : Ok4 q := by
  obtain ⟨h1, h2, h3, h4⟩ := bad_none.mp (mem_rows.mp h)
  exact ⟨(wd_all (mo_all h1)).ok, (wd_all (mp_all h2)).ok, (wd_all (me_all h3)).ok, (wd_all (mf_all h4)).ok⟩
theorem Ok4.all {q : Q4} (h : Ok4 q) : ∀ s ∈ q.l, PyData.strOk s = true := by
  intro s hs
  simp only [Q4.l, List.mem_cons, List.not_mem_nil, or_false] at hs
  rcases hs with e | e | e | e <;> rw [e]
  · exact h.o.ok
  · exact h.p.ok
  · exact h.e.ok
  · exact h.f.ok
theorem Ok4.wr {q : Q4} (h : Ok4 q) : ∀ s ∈ GP.wr q, PyData.strOk s = true := by
  intro s hs
  refine h.all s ?_
  unfold GP.wr at hs
  simp only [List.mem_append] at hs
  simp only [Q4.l, List.mem_cons, List.not_mem_nil, or_false]
  rcases hs with e | e | e | e
  all_goals (split at e)
  all_goals (first | (simp only [List.not_mem_nil] at e; done) | (simp only [List.mem_singleton] at e; simp [e]))
theorem Ok4.sum {q : Q4} (h : Ok4 q) : (q.l.map (·.length)).sum + q.l.length * (Str.ofString " ").length ≤ 16777216 := by
  have a := h.o.len; have b := h.p.len; have c := h.e.len; have d := h.f.len
  have s : (Str.ofString " ").length = 1 := by decide +kernel
  simp only [Q4.l, List.map_cons, List.map_nil, List.sum_cons, List.sum_nil, List.length_cons, List.length_nil, s]
  omega
/-- a word of a menu by its number; any word where there is none -/
def wd (m : List Str) (r : Int) : Str := m.getD r.toNat (Str.ofString "any")
theorem any_all : Str.ofString "any" ∈ ALL := by decide +kernel
theorem wd_at {m : List Str} {r : Int} (h0 : 0 ≤ r) (h1 : r < m.length) : atI (vsl m) r = some (.str (wd m r)) := by
  obtain ⟨n, rfl⟩ : ∃ n : Nat, r = (n : Int) := ⟨r.toNat, by omega⟩
  have hl : n < m.length := by omega
  refine atI_nat ?_
  unfold vsl wd
  rw [List.getElem?_map, List.getElem?_eq_getElem hl, Int.toNat_natCast, List.getD_eq_getElem?_getD, List.getElem?_eq_getElem hl]
  rfl
theorem wd_fine {m : List Str} (hm : ∀ z ∈ m, z ∈ ALL) (r : Int) : Wd (wd m r) := by
  unfold wd
  rw [List.getD_eq_getElem?_getD]
  cases h : m[r.toNat]? with
  | none => exact wd_all any_all
  | some z => exact wd_all (hm z (List.mem_of_getElem? h))
theorem getMapS {l : List Str} {i : Nat} {x : V} (h : (vsl l)[i]? = some x) : ∃ z, l[i]? = some z ∧ x = .str z := by
  unfold vsl at h
  rw [List.getElem?_map] at h
  cases e : l[i]? with
  | none => rw [e] at h; cases h
  | some z => rw [e] at h; cases h; exact ⟨z, rfl, rfl⟩
/-! ### numbers -/
structure Num (ns : List Int) : Prop where
  len : 16 ≤ ns.length ∧ ns.length ≤ 10000
  at_ : ∀ z ∈ ns, 0 ≤ z ∧ z < 5040
def nd (ns : List Int) (j : Int) : Int := ns.getD j.toNat 0
theorem nd_at {ns : List Int} (h : Num ns) {j : Int} (h0 : 0 ≤ j) (h1 : j < 16) : atI (ns.map V.int) j = some (.int (nd ns j)) := by
  obtain ⟨n, rfl⟩ : ∃ n : Nat, j = (n : Int) := ⟨j.toNat, by omega⟩
  have hl : n < ns.length := by have := h.len; omega
  refine atI_nat ?_
  unfold nd
  rw [List.getElem?_map, List.getElem?_eq_getElem hl, Int.toNat_natCast, List.getD_eq_getElem?_getD, List.getElem?_eq_getElem hl]
  rfl
theorem nd_fine {ns : List Int} (h : Num ns) (j : Int) : 0 ≤ nd ns j ∧ nd ns j < 5040 := by
  unfold nd
  rw [List.getD_eq_getElem?_getD]
  cases e : ns[j.toNat]? with
  | none => show (0 : Int) ≤ 0 ∧ (0 : Int) < 5040; omega
  | some z => exact h.at_ z (List.mem_of_getElem? e)
/-! ### where two rows differ -/
def dif (q r : Q4) (i : Nat) : List Int := ((List.range i).filter fun j => decide (q.l[j]? ≠ r.l[j]?)).map Int.ofNat
theorem dif_step {q r : Q4} {i : Nat} : dif q r (i + 1) = dif q r i ++ (if q.l[i]? = r.l[i]? then [] else [(i : Int)]) := by
  unfold dif
  rw [List.range_succ, List.filter_append, List.map_append]
  by_cases h : q.l[i]? = r.l[i]?
  · rw [if_pos h]; simp [h]
  · rw [if_neg h]; simp [h]
theorem dif_nil {q r : Q4} : dif q r 4 = [] ↔ q.l = r.l := by
  unfold dif
  rw [List.map_eq_nil_iff, List.filter_eq_nil_iff]
  constructor
  · intro h
    have a := h 0 (by decide); have b := h 1 (by decide); have c := h 2 (by decide); have d := h 3 (by decide)
    simp only [Q4.l, List.getElem?_cons_zero, List.getElem?_cons_succ, ne_eq, Option.some.injEq, decide_eq_true_eq, Decidable.not_not] at a b c d
    simp only [Q4.l, a, b, c, d]
  · intro h j _
    simp [h]
theorem dif_len (q r : Q4) : ∀ i, (dif q r i).length ≤ i := fun i => by
  unfold dif
  rw [List.length_map]
  have := List.length_filter_le (fun j => decide (q.l[j]? ≠ r.l[j]?)) (List.range i)
  rw [List.length_range] at this
  exact this
/-- each row has its object -/
structure Each (P : Q4 → V → Prop) (R : List Q4) (xs : List V) : Prop where
  len : xs.length = R.length
  at_ : ∀ (i : Nat) (r : Q4), R[i]? = some r → ∃ t : Addr, xs[i]? = some (V.ref t) ∧ P r (V.ref t)
theorem Each.nil {P : Q4 → V → Prop} : Each P [] [] := ⟨rfl, fun i r h => by simp at h⟩
theorem Each.mono {P P' : Q4 → V → Prop} {R : List Q4} {xs : List V} (h : Each P R xs) (k : ∀ r v, P r v → P' r v) : Each P' R xs :=
  ⟨h.len, fun i r e => let ⟨t, a, b⟩ := h.at_ i r e; ⟨t, a, k _ _ b⟩⟩
theorem Each.snoc {P : Q4 → V → Prop} {R : List Q4} {xs : List V} {r : Q4} {t : Addr} (h : Each P R xs) (k : P r (V.ref t)) : Each P (R ++ [r]) (xs ++ [V.ref t]) := by
  have hl := h.len
  refine ⟨by simp [hl], fun i q e => ?_⟩
  by_cases c : i < R.length
  · rw [List.getElem?_append_left c] at e
    rw [List.getElem?_append_left (by omega)]
    exact h.at_ i q e
  · rw [List.getElem?_append_right (by omega)] at e
    rw [List.getElem?_append_right (by omega), hl]
    cases hi : i - R.length with
    | zero =>
      rw [hi] at e
      simp only [List.getElem?_cons_zero, Option.some.injEq] at e
      subst e
      exact ⟨t, rfl, k⟩
    | succ n => rw [hi] at e; simp at e
end GP

namespace L2
open PySem PySem.Spec PyProof.Rows GenW
/-- numbered pairs of two tuples of one length -/
theorem walk_ez {K : PySem.W.Frag} {a b : Addr} {xs ys : List V} (el : xs.length = ys.length) : Walk (ItEZ K a b) xs.length (fun H => SqT K H a xs ∧ SqT K H b ys)
    (fun i H v H' => ∃ (T0 T : Addr) (x y : V), v = .ref T ∧ H T0 = none ∧ upd H T0 (.tup [x, y]) T = none ∧ H' = upd (upd H T0 (.tup [x, y])) T (.tup [.int (i : Nat), .ref T0]) ∧ xs[i]? = some x ∧ ys[i]? = some y) := by
  refine ⟨fun i _ hi q => ?_, fun _ q => ⟨xs, ys, q.1, q.2, by omega⟩, fun i H v H' _ q y => ?_⟩
  · have h2 : i < ys.length := by omega
    exact ⟨xs, ys, xs[i], ys[i], q.1, q.2, by simp [hi], by simp [h2]⟩
  · obtain ⟨T0, T, x, z, h1, h2, h3, h4, h5, h6⟩ := y
    exact ⟨T0, T, x, z, h1, h2, h3, h4, h5 xs q.1, h6 ys q.2⟩
/-- a generator's loop over a tuple: Pv by the turn, what was yielded, the slots, the heap -/
theorem gfor_tup {K : PySem.W.Frag} {a : Addr} {xs : List V} {g : TG} {tb : TGn} {D : GEnds} {ys : List V} {σ : St} {H : Hp} (Pv : Nat → List V → St → Hp → Prop) (h0 : Pv 0 ys σ H) (hl : ∀ i ys σ H, i ≤ xs.length → Pv i ys σ H → SqT K H a xs)
    (hs : ∀ i x ys σ H, xs[i]? = some x → Pv i ys σ H → g x σ H fun σ2 H2 => tb { D with nx := Pv (i + 1), ct := Pv (i + 1), bk := D.nx } ys σ2 H2) (hd : ∀ ys σ H, Pv xs.length ys σ H → D.nx ys σ H) :
    ∃ W : Nat → Nat → List V → St → Hp → Prop, (∃ m, W 0 m ys σ H) ∧ ∀ i m ys σ H, W i m ys σ H →
      ((Itt K a).stop i H ∧ D.nx ys σ H) ∨ ((Itt K a).go i H ∧ ∃ N : List V → St → Hp → Prop, (∀ ys' σ' H', N ys' σ' H' → ∃ m', m' < m ∧ W (i + 1) m' ys' σ' H') ∧ ∀ x H', (Itt K a).yld i H x H' → g x σ H' fun σ2 H2 => tb { D with nx := N, ct := N, bk := D.nx } ys σ2 H2) := by
  refine ⟨fun i m ys σ H => m = xs.length - i ∧ i ≤ xs.length ∧ Pv i ys σ H, ⟨xs.length, rfl, Nat.zero_le _, h0⟩, ?_⟩
  rintro i m ys σ H ⟨rfl, hi, p⟩
  have q := hl i ys σ H hi p
  by_cases hlt : i < xs.length
  · refine .inr ⟨⟨xs, xs[i], q, by simp [hlt]⟩, Pv (i + 1), fun ys' σ' H' p' => ⟨xs.length - (i + 1), by omega, rfl, hlt, p'⟩, fun x H' y => ?_⟩
    obtain ⟨e, y⟩ := y
    subst e
    exact hs i x ys σ _ (y xs q) p
  · have e : i = xs.length := by omega
    subst e
    exact .inl ⟨⟨xs, q, Nat.le_refl _⟩, hd ys σ H p⟩
end L2

namespace L2
open PySem PySem.Spec PyProof.Rows L2H HotX
theorem ps_raiseFromGK (K : PySem.W.Frag) {X : Cx} {x : Str} {C fI : Addr} {k : Nat} {fd : FuncData} {ps : List Str} {W : WX} {e : Expr} {te : TE} {i : Nat} {n : Str} {np p pos pos2 : Pos} {a0 : Addr} {o0 : Obj} {cls0 : Value} {v0 : Array Value} (hc : HotC X) (T : GExc K C fI)
    (F1 : FnH X.prog X.w K X.mg X.base CX0 k fI fd ps (spGI K)) (hr : RoomH (k + 1) X.A) (hb : Binds K fd ps []) (hg : Gl X x) (hm : X.mg x = some (.ref C)) (tk : L2.Takes X W) (ha : PE X e te) (hN : X.N[i]? = some n) (hv : Vis X.env.scope n)
    (hpn : (a0, o0) ∈ X.pn) (hcl : o0.cls = cls0) (d0 : o0.data = .fields v0)
    (hdb : (x == ("__debug__" : Str)) = false := by decide) (he : starEach [e] X.env = (false, eval e X.env) :: starEach [] X.env := by rfl) (hpl : (backTo pos (starEach [] X.env)).any (·.1) = false := by rfl)
    (hd : (n == ("__debug__" : Str)) = false := by decide) (hcd : (n == ("__classdict__" : Str)) = false := by decide) (hK : X.K = K := by rfl) :
    PS X (.Raise (some (.Call (.Name x p) [e] [] pos)) (some (.Name n np)) pos2) (tRaiseG K C (WF K i a0 cls0 W) te) := by
  subst hK
  exact ps_raiseFromG hc T F1 hr hb hg hm tk ha hN hv hpn hcl d0 hdb he hpl hd hcd
end L2
/-! the same with a name for what it asks, so that a loop can have it as its body -/
namespace L2
open PySem PySem.Spec PyProof.Rows L2H HandSPX
def tTryD (K : PySem.W.Frag) (c : Value) (i : Nat) (ts : Addr → Value → Option Addr → TS) (Wout : WX) (tb : WX → TS) : TS := fun D σ H => tb (wAs K c i ts Wout D) D σ H
theorem ps_try_asXD (K : PySem.W.Frag) {X : Cx} {x n : Str} {c : Value} {i : Nat} {body suite : List Stmt} {b₀ : Stmt} {np pos pos' : Pos} {tb : WX → TS} {ts : Addr → Value → Option Addr → TS} {Wout : WX}
    (hs : X.stack = X.env :: X.outer) (hf : X.env.frame = some X.env.locals) (hN : X.N.Nodup) (hi : X.N[i]? = some n) (hln : X.env.kindOf n = some .local) (hc : Names X x c) (tk : L2.Takes X Wout)
    (hb : ∀ (W : WX) (pn : List (Addr × Obj)) (xe : Value → Shared → Prop), L2N.Takes (X.tr pn xe) W → PassesOwn (model X.prog X.w) X.A X.env xe → PSs (X.tr pn xe) body (tb W))
    (hsu : ∀ (a : Addr) (oe : Obj) (cls : Value) (d : Option Addr) (pn : List (Addr × Obj)) (xe : Value → Shared → Prop), L2N.Zn cls d oe → (∃ vs, oe.data = .fields vs) → L2.Takes (suiteE X a ((a, oe) :: pn) xe) (fun cls d σ H => Wout cls d (σ.set i none) H) → HotC (suiteE X a ((a, oe) :: pn) xe) →
      PSs (suiteE X a ((a, oe) :: pn) xe) (b₀ :: suite) (ts a cls d)) (hK : X.K = K := by rfl) :
    PS X (.Try body [.ExceptHandler (some (.Name x np)) (some n) (b₀ :: suite) pos'] [] [] pos) (tTryD K c i ts Wout tb) := by
  subst hK
  exact ps_try_asX hs hf hN hi hln hc tk hb hsu
end L2
/-! x, *ys = a list -/
namespace L2
open PySem PySem.Spec PyProof.Rows PySem.W
/-- x, *ys = a list of one item or more -/
def gStar (K : PySem.W.Frag) (t : TGs) : TG := fun v σ H Q => ∃ a x xs, v = .ref a ∧ SqL K H a (x :: xs) ∧ xs.length ≤ 16000 ∧ ∀ D, H D = none → t [x, .ref D] σ (upd H D (.lst xs)) Q
theorem pg_star {X : Cx} {pos sp : Pos} {e1 e2 : Expr} {k : Nat} {t : TGs} (hc : X.calm = true) (h : PGs X [e1, e2] t)
    (he : assignEach [e1, .Starred e2 sp] X.env = [(false, assign e1 X.env), (true, assign e2 X.env)] := by rfl) (he2 : assignEach [e1, e2] X.env = [(false, assign e1 X.env), (false, assign e2 X.env)] := by rfl) : PG X (.Tuple [e1, .Starred e2 sp] k pos) (gStar X.K t) := by
  refine ⟨fun pins s σ H v u Q I r hw => ?_⟩
  obtain ⟨a, x, xs, e1', hq, hl, hw⟩ := hw
  subst e1'
  cases r
  obtain ⟨its, rv, pl, hz⟩ := I.list hq
  cases rv with
  | cons r1 r2 =>
  rename_i y ys
  have hlen : ys.length = xs.length := r2.length.symm
  rw [PyProof.Rows.assign_Tuple]
  refine wpAny_bind (wpAny_standAt ?_)
  unfold unpack
  rw [he]
  refine wpAny_bind (wpAny_holding ?_)
  show wpAny _ _ (unpackItems (.ref a) 2 (some 1)) _ _ _
  have hL : s.heap.IsList a (y :: ys).toArray := pl.isList
  have hlt : a ≠ s.heap.objs.size := by obtain ⟨o, ho, _⟩ := hL; exact Nat.ne_of_lt (Heap.lt_size ho)
  unfold unpackItems
  refine wpAny_bind ?_
  unfold notIterableAtAll
  refine wpAny_bind (wpAny_specialOf hL.typeIs slot_list_iter.lookup ?_)
  refine wpAny_pure ?_
  simp only [Bool.false_eq_true, if_false]
  refine wpAny_bind (wpAny_holding (wpAny_pyIter_list hL ?_))
  refine wpAny_bind (wpAny_holding (kun_draw hlt 1 0 _ _ ⟨_, Heap.get?_push_size _ rfl, rfl, rfl⟩ (hL.push _) (by simp) fun h₁ hit₁ hs₁ => ?_))
  have hl₁ : h₁.IsList a (y :: ys).toArray := (hL.push _).extBut hs₁.extBut hlt
  rw [Nat.zero_add] at hit₁
  obtain ⟨oi, hoi, _⟩ := id hit₁
  obtain ⟨ol, hol, _⟩ := id hl₁
  show wpAny _ _ (if ([y] : List Value).length < 1 then _ else _) _ _ _
  rw [if_neg (by simp)]
  refine wpAny_bind (wpAny_holding (kun_collect (s := { s with heap := h₁ }) (T := "list_iterator") (.inr (.inr (.inl rfl))) (Walks.list (A := X.A.in1) (I.ok.hd hc) s.heap.objs.size a hlt (y :: ys).toArray) (fun j u st => st.1.typeIs) (k := 1) (by simp) ⟨hit₁, hl₁⟩ (Heap.lt_size hoi) (Heap.lt_size hol) (fun h₂ tk hk => ?_) (by simp; rw [sizeLine_eq]; omega)))
  show wpAny _ _ (if ys.length < 0 then _ else _) _ _ _
  rw [if_neg (Nat.not_lt_zero _)]
  show wpAny _ _ (newList (ys.take (ys.length - 0)) >>= fun d => pure ([y] ++ [d] ++ ys.drop (ys.length - 0))) _ _ _
  rw [Nat.sub_zero, List.take_length, List.drop_length]
  have kp : ∀ b o, s.heap.get? b = some o → h₂.get? b = some o := fun b o e => hk b o (Nat.ne_of_lt (Heap.lt_size e)) (hs₁.extBut b o (Nat.ne_of_lt (Heap.lt_size e)) (Heap.get?_push_of_some _ e))
  have I2 : Inv X pins σ H { s with heap := h₂, toks := tk } := I.kept (t' := tk) kp
  refine wpAny_bind (wpAny_newList (hsz := by rw [hlen, sizeLine_eq]; omega) ?_)
  refine wpAny_pure ?_
  have hf : H h₂.objs.size = none := I2.hok.fresh (Nat.le_refl _)
  have I3 : Inv X pins σ (upd H h₂.objs.size (.lst xs)) { s with heap := h₂.push { cls := .type "list", data := .seq ys.toArray 0 }, toks := tk } := I2.laid (t' := tk) (fun b u e => Heap.get?_push_of_some _ e) (Nat.le_refl _) ⟨by rw [sizeLine_eq]; omega, ys, 0, r2, Heap.get?_push_size _ rfl⟩
  have q := h.run pins _ σ _ [x, .ref h₂.objs.size] [y, .ref h₂.objs.size] Q I3 (.cons r1 (.cons rfl .nil)) (hw _ hf)
  rw [he2] at q
  exact q
end L2
/-! zip of a text and a list -/
namespace L2
open PySem PySem.Spec PyProof.Rows
/-- the signs of z beside the items of the list at b, in new pairs -/
def ItSL (K : PySem.W.Frag) (z : Str) (b : Addr) : It :=
  ⟨fun i H => ∃ (ys : List V) (c : Nat) (y : V), SqL K H b ys ∧ z.cps[i]? = some c ∧ ys[i]? = some y,
    fun i H v H' => ∃ (T : Addr) (c : Nat) (y : V), v = .ref T ∧ H T = none ∧ H' = upd H T (.tup [.str ⟨#[c]⟩, y]) ∧ z.cps[i]? = some c ∧ ∀ ys, SqL K H b ys → ys[i]? = some y,
    fun i H => ∃ ys : List V, SqL K H b ys ∧ i ≤ z.cps.size ∧ i ≤ ys.length ∧ (i = z.cps.size ∨ i = ys.length)⟩
theorem turn_SL {P : Program} {w : World} {K : PySem.W.Frag} {elts : List Expr} {kk : Nat} {tpos : Pos} {z : Str} {zt : Tok} {b q TI TO i1 i2 : Addr} (hne : b ≠ i2) (S : ZipSep2 q TI TO i1 i2 [i1] [i2, b]) :
    Turn P w K (.Tuple elts kk tpos) (ItSL K z b) [q, TI, TO, i1, i2] q (fun i h => IsZip h q TI TO .none ∧ IsTupOf2 h TI (.ref i1) (.ref i2) ∧ (∃ x y, IsTupOf2 h TO x y) ∧ h.IsStrIter i1 (strIterType z) z zt i ∧ h.IsListIter i2 b i) where
  mem := by simp
  obj := fun i h st c hc => by
    obtain ⟨e1, e2, ⟨x, y, e3⟩, ⟨o1, e4, _, d1⟩, ⟨o2, e5, _, d2⟩⟩ := st
    simp only [List.mem_cons, List.not_mem_nil, or_false] at hc
    rcases hc with r | r | r | r | r <;> rw [r]
    · exact ⟨_, e1, fun v z => nomatch z⟩
    · exact ⟨_, e2, fun v z => nomatch z⟩
    · exact ⟨_, e3, fun v z => nomatch z⟩
    · exact ⟨o1, e4, fun v z => by rw [d1] at z; cases z⟩
    · exact ⟨o2, e5, fun v z => by rw [d2] at z; cases z⟩
  keep := fun i h h' st k => by
    obtain ⟨e1, e2, ⟨x, y, e3⟩, e4, e5⟩ := st
    have k4 : h'.IsStrIter i1 (strIterType z) z zt i := by
      obtain ⟨o1, e4, r⟩ := e4
      exact ⟨o1, k i1 (by simp) _ e4, r⟩
    exact ⟨k q (by simp) _ e1, k TI (by simp) _ e2, ⟨x, y, k TO (by simp) _ e3⟩, k4, e5.at fun o e => k i2 (by simp) o e⟩
  item := by
    intro X hP hw hK hc i pins s σ H E I hf st hg
    subst hP hw hK
    obtain ⟨hz, hTI, ⟨x0, y0, hTO⟩, h1, h2⟩ := st
    obtain ⟨ys, c, y, hy, hcz, hyi⟩ := hg
    obtain ⟨its, rv, p2, _⟩ := I.list hy
    obtain ⟨u2, hu2, ru2⟩ := rv.get hyi
    have hql : q < s.heap.objs.size := Heap.lt_size hz
    have hh := I.ok.hd hc
    have hi1 : i < z.cps.size := (Array.getElem?_eq_some_iff.mp hcz).1
    have hi2 : i < its.toArray.size := by
      have := (List.getElem?_eq_some_iff.mp hu2).1
      simpa using this
    have D1 := Draws.text (prog := X.prog) (w := X.w) (A := X.A.in1) hh i1 z zt
    have D2 := Draws.list (prog := X.prog) (w := X.w) (A := X.A.in1) hh i2 b hne its.toArray
    refine wpAny_pyNext_zipD2_item S D1 D2 hz hTI hTO h1 ⟨h2, p2.isList⟩ hi1 hi2 fun x1 x2 h' tk y1 y2 b1 b2 d1 d2 b5 b6 hk => ?_
    obtain ⟨c', t', hc', rfl⟩ := y1
    rw [hcz] at hc'
    cases hc'
    have y2 : its[i]? = some x2 := by simpa using y2
    rw [hu2] at y2
    cases y2
    refine ⟨_, rfl, wpAny_letOwnedTupleGo_zip (s := { s with heap := h', toks := tk }) b1 fun h'' z'' sb => ?_⟩
    have hT2 : h''.get? s.heap.objs.size = some { cls := .type "tuple", data := .seq #[.str ⟨#[c]⟩ t', u2] } := (sb.2 _ (Nat.ne_of_gt hql)).trans b5
    have new : ObjOk X.prog X.w (upd H s.heap.objs.size (.tup [.str ⟨#[c]⟩, y])) h'' s.heap.objs.size (.tup [.str ⟨#[c]⟩, y]) :=
      ⟨by show 2 ≤ sizeLine; decide, [.str ⟨#[c]⟩ t', u2], .cons ⟨t', rfl⟩ (.cons ru2 .nil), ⟨_, hT2, rfl, _, rfl⟩⟩
    have I1 : Inv X pins σ (upd H s.heap.objs.size (.tup [.str ⟨#[c]⟩, y])) { s with heap := h'', toks := tk } :=
      I.turnedNew (t' := tk) (ch := [q, TI, TO, i1, i2]) (fun d o hb e => by
        simp only [List.mem_cons, List.not_mem_nil, or_false, not_or] at hb
        exact (sb.2 d hb.1).trans (hk d o hb.1 hb.2.2.1 hb.2.2.2.1 hb.2.2.2.2 e)) hf (Nat.le_refl _) new
    refine ⟨.ref s.heap.objs.size, _, I1, rfl, ⟨_, c, y, rfl, I.hok.fresh (Nat.le_refl _), rfl, hcz, fun l hl => by rw [I.list_inj hl hy]; exact hyi⟩, ⟨z'', ?_, ⟨.str ⟨#[c]⟩ t', u2, ?_⟩, ?_, ?_⟩, fun d hd => ?_⟩
    · exact (sb.2 _ S.TIz).trans (hk _ _ S.TIz S.TITO S.TIi1 S.TIi2 hTI)
    · exact (sb.2 _ S.TOz).trans b2
    · obtain ⟨o1, e4, r⟩ := d1
      exact ⟨o1, (sb.2 _ S.zi1.symm).trans e4, r⟩
    · exact d2.1.at fun o e => (sb.2 _ S.zi2.symm).trans e
    · have hlt : d < s.heap.objs.size := by
        simp only [List.mem_cons, List.not_mem_nil, or_false] at hd
        rcases hd with r | r | r | r | r <;> rw [r]
        · exact hql
        · exact Heap.lt_size hTI
        · exact Heap.lt_size hTO
        · obtain ⟨_, e, _⟩ := h1; exact Heap.lt_size e
        · obtain ⟨_, e, _⟩ := h2; exact Heap.lt_size e
      rw [upd_ne (Nat.ne_of_lt hlt)]
      exact (hf d hd).1
  done := by
    intro X hP hw hK hc i pins s σ H E I hf st hg
    subst hP hw hK
    obtain ⟨hz, hTI, ⟨x0, y0, hTO⟩, h1, h2⟩ := st
    obtain ⟨ys, hy, l1, l2, l3⟩ := hg
    obtain ⟨its, rv, p2, _⟩ := I.list hy
    have hl := rv.length
    have hh := I.ok.hd hc
    have D1 := Draws.text (prog := X.prog) (w := X.w) (A := X.A.in1) hh i1 z zt
    have D2 := Draws.list (prog := X.prog) (w := X.w) (A := X.A.in1) hh i2 b hne its.toArray
    refine wpAny_pyNext_zipD2_end S D1 D2 hz hTI hTO h1 ⟨h2, p2.isList⟩ l1 (by simp; omega) (l3.imp id fun e => by simp; omega) fun h' tk hk => ⟨rfl, ?_⟩
    exact I.turnedL (t' := tk) (ch := [q, TI, TO, i1, i2]) (fun d o hb e => by
      simp only [List.mem_cons, List.not_mem_nil, or_false, not_or] at hb
      exact hk d o hb.1 hb.2.2.1 hb.2.2.2.1 hb.2.2.2.2 e) hf
  self := fun A i s Q E st h => wpAny_pyIter_zip st.1 h
def iZipSL (K : PySem.W.Frag) (ta : TA) : TI := fun σ H R => ta σ H fun vs H1 => ∃ z b ys, vs = [.str z, .ref b] ∧ SqL K H1 b ys ∧ R (ItSL K z b) H1
theorem pi_zipSL {X : Cx} {e e2 : Expr} {ta : TA} {p pos tpos : Pos} {elts : List Expr} {kk : Nat} (hg : Gl X "zip") (hm : X.mg "zip" = none) (ha : PA X [e, e2] ta)
    (hs : starEach [e, e2] X.env = (false, eval e X.env) :: starEach [e2] X.env := by rfl) (hpl : (backTo pos (starEach [e2] X.env)).any (·.1) = false := by rfl) :
    PI X (.Tuple elts kk tpos) (.Call (.Name "zip" p) [e, e2] [] pos) (iZipSL X.K ta) := by
  refine ⟨fun pins s σ H R I h => ?_⟩
  refine Call_ (ld_blt I hg hm boot_zip (callWith_type1 (thn (ha.run pos pins s σ H _ I h) fun us s1 ⟨vs, H1, I1, r1, q1⟩ => ?_) hs hpl))
  obtain ⟨z, b, ys, ex, qb, k⟩ := q1
  subst ex
  cases r1 with
  | cons ra rr =>
    cases rr with
    | cons rb rr =>
      cases rr
      obtain ⟨zt, rfl⟩ := ra
      cases rb
      obtain ⟨its, rv, p2, _⟩ := I1.list qb
      have hb : b < s1.heap.objs.size := p2.lt
      refine zip_begins2 (begins_text z zt) (begins_list b its.toArray) trivial p2.isList fun h' Z P1 P2 t1 t2 z5 kp => wpAny_pyIter_zip (s := { s1 with heap := h' }) Z ?_
      have I2 : Inv X pins σ H1 { s1 with heap := h' } := I1.kept (t' := s1.toks) kp
      have S := zip_sep2 (N := s1.heap.objs.size) (fp1 := []) (fp2 := [b]) (by simp) (by simpa using hb)
      refine ⟨s1.heap.objs.size + 4, [s1.heap.objs.size + 4, s1.heap.objs.size + 2, s1.heap.objs.size + 3, s1.heap.objs.size, s1.heap.objs.size + 1], _, _, H1, rfl, I2, turn_SL (zt := zt) (Nat.ne_of_lt (Nat.lt_succ_of_lt hb)) S, ⟨Z, P1, ⟨_, _, P2⟩, ⟨_, t1, rfl, rfl⟩, ⟨_, t2, rfl, rfl⟩⟩, fun c hcm => ?_, k⟩
      have hle : s1.heap.objs.size ≤ c := by
        simp only [List.mem_cons, List.not_mem_nil, or_false] at hcm
        rcases hcm with r | r | r | r | r <;> rw [r] <;> first | exact Nat.le_refl _ | exact Nat.le_add_right _ _
      exact I1.fpOk hle (I1.hok.fresh hle)
theorem pi_zipSLK (K : PySem.W.Frag) {X : Cx} {e e2 : Expr} {ta : TA} {p pos tpos : Pos} {elts : List Expr} {kk : Nat} (hg : Gl X "zip") (hm : X.mg "zip" = none) (ha : PA X [e, e2] ta)
    (hs : starEach [e, e2] X.env = (false, eval e X.env) :: starEach [e2] X.env := by rfl) (hpl : (backTo pos (starEach [e2] X.env)).any (·.1) = false := by rfl) (hK : X.K = K := by rfl) :
    PI X (.Tuple elts kk tpos) (.Call (.Name "zip" p) [e, e2] [] pos) (iZipSL K ta) := by
  subst hK
  exact pi_zipSL hg hm ha hs hpl
theorem walk_SL {K : PySem.W.Frag} {z : Str} {b : Addr} {ys : List V} (el : z.cps.size = ys.length) : Walk (ItSL K z b) ys.length (fun H => SqL K H b ys)
    (fun i H v H' => ∃ (T : Addr) (c : Nat) (y : V), v = .ref T ∧ H T = none ∧ H' = upd H T (.tup [.str ⟨#[c]⟩, y]) ∧ z.cps[i]? = some c ∧ ys[i]? = some y) := by
  refine ⟨fun i _ hi q => ?_, fun _ q => ⟨ys, q, by omega, Nat.le_refl _, .inr rfl⟩, fun i H v H' _ q y => ?_⟩
  · have h2 : i < z.cps.size := by omega
    exact ⟨ys, z.cps[i], ys[i], q, by simp [h2], by simp [hi]⟩
  · obtain ⟨T, c, u, h1, h2, h3, h4, h5⟩ := y
    exact ⟨T, c, u, h1, h2, h3, h4, h5 ys q⟩
end L2
/-! a dict of texts that the module's top has written -/
namespace L2
open PySem PySem.Spec PyProof.Rows
def kdv (ps : List (Str × Str)) (z : Str) : Option Str := (ps.find? fun p => decide (p.1 = z)).map (·.2)
def EntOf : List DictEntry → List (Str × Str) → Prop
  | [], [] => True
  | e :: es, p :: ps => ((∃ t, e.key = .str p.1 t) ∧ ∃ t, e.val = .str p.2 t) ∧ EntOf es ps
  | _, _ => False
structure KD (K : PySem.W.Frag) (w : World) (d : Addr) (ps : List (Str × Str)) : Prop where
  ex : ∃ (es : Array DictEntry) (n : Nat), KDict K w d es n ∧ EntOf es.toList ps
theorem ent_find (z : Str) : ∀ {es : List DictEntry} {ps : List (Str × Str)}, EntOf es ps → es.any (·.refKey) = false ∧ match ps.find? (fun p => decide (p.1 = z)) with
    | some p => ∃ e t, es.find? (·.key.isStr z) = some e ∧ e.val = .str p.2 t
    | none => es.find? (·.key.isStr z) = none
  | [], [], _ => ⟨rfl, rfl⟩
  | [], _ :: _, h => h.elim
  | _ :: _, [], h => h.elim
  | e :: es, p :: ps, h => by
    obtain ⟨⟨⟨t, hk⟩, u, hv⟩, h2⟩ := h
    obtain ⟨ih1, ih2⟩ := ent_find z h2
    refine ⟨?_, ?_⟩
    · rw [List.any_cons, ih1, Bool.or_false]
      unfold DictEntry.refKey
      rw [hk]
    · have hs : e.key.isStr z = decide (p.1 = z) := by
        rw [hk]
        show (p.1 == z) = _
        by_cases c : p.1 = z
        · subst c; simp
        · simp [c]
      rw [List.find?_cons, List.find?_cons, hs]
      by_cases c : p.1 = z
      · rw [decide_eq_true c]
        exact ⟨e, u, rfl, hv⟩
      · rw [decide_eq_false c]
        exact ih2
theorem KD.ns {K : PySem.W.Frag} {w : World} {d : Addr} {ps : List (Str × Str)} (D : KD K w d ps) (z : Str) : match kdv ps z with
    | some v => ∃ t, PySem.W.nsIn K d z = some (some (.str v t))
    | none => PySem.W.nsIn K d z = some none := by
  obtain ⟨es, n, D, E⟩ := D.ex
  obtain ⟨h1, h2⟩ := ent_find z E
  unfold kdv PySem.W.nsIn
  rw [D.at_]
  cases e : ps.find? (fun p => decide (p.1 = z)) with
  | none =>
    rw [e] at h2
    simp only [Option.map_none, h2, h1]
    rfl
  | some p =>
    rw [e] at h2
    obtain ⟨x, t, h3, h4⟩ := h2
    simp only [Option.map_some, h3]
    exact ⟨t, by rw [h4]⟩
section
variable {X : Cx} {d : Addr} {ps : List (Str × Str)}
def rKIn (d : Addr) (ps : List (Str × Str)) : R2 := fun x y H Q => ∃ z : Str, x = .str z ∧ y = .ref d ∧ Q (.bl (kdv ps z).isSome) H
def rKNotIn (d : Addr) (ps : List (Str × Str)) : R2 := fun x y H Q => ∃ z : Str, x = .str z ∧ y = .ref d ∧ Q (.bl (!(kdv ps z).isSome)) H
def rKIx (d : Addr) (ps : List (Str × Str)) : R2 := fun x y H Q => ∃ z v : Str, x = .ref d ∧ y = .str z ∧ kdv ps z = some v ∧ Q (.str v) H
theorem op_in_kdS (D : KD X.K X.w d ps) : OpR X (compareOp .In) (rKIn d ps) := by
  intro pins s σ H x y v u Q I rx ry h
  obtain ⟨z, e1, e2, q⟩ := h
  obtain ⟨es, n, D0, _⟩ := D.ex
  have hn := D.ns z
  cases e : kdv ps z with
  | none => rw [e] at hn q; exact op_in_kd D0 pins s σ H x y v u Q I rx ry ⟨z, _, e1, e2, hn, q⟩
  | some r => rw [e] at hn q; obtain ⟨t, hn⟩ := hn; exact op_in_kd D0 pins s σ H x y v u Q I rx ry ⟨z, _, e1, e2, hn, q⟩
theorem op_notIn_kdS (D : KD X.K X.w d ps) : OpR X (compareOp .NotIn) (rKNotIn d ps) := by
  intro pins s σ H x y v u Q I rx ry h
  obtain ⟨z, e1, e2, q⟩ := h
  obtain ⟨es, n, D0, _⟩ := D.ex
  have hn := D.ns z
  cases e : kdv ps z with
  | none => rw [e] at hn q; exact op_notIn_kd D0 pins s σ H x y v u Q I rx ry ⟨z, _, e1, e2, hn, q⟩
  | some r => rw [e] at hn q; obtain ⟨t, hn⟩ := hn; exact op_notIn_kd D0 pins s σ H x y v u Q I rx ry ⟨z, _, e1, e2, hn, q⟩
theorem ix_kdS (D : KD X.K X.w d ps) : IxR X (rKIx d ps) := by
  intro value slice pins s σ H x y v u Q I rx ry h hs
  obtain ⟨z, r, rfl, rfl, e, q⟩ := h
  cases rx
  obtain ⟨t, rfl⟩ := ry
  have hn := D.ns z
  rw [e] at hn
  obtain ⟨tk, hn⟩ := hn
  obtain ⟨es, n, D0, _⟩ := D.ex
  have hm := PySem.W.mapOf_K (prog := X.prog) I.kIn D0.at_ D0.lit
  exact tail_any hm.typeIs PySem.F.slot_dict_getitem.lookup (wpAny_getItem_of (PySem.strKind_is X.prog X.w z t) hm (PySem.W.find_K D0.at_ hn) ⟨.str r, H, I.tok _, ⟨tk, rfl⟩, q⟩) hs
end
end L2
/-! events as lists of words and numbers, their lines, a reader of lines -/
namespace EV
open PySem PySem.Spec PyProof.Rows L2 SX GN GR NumText TL
def PF : List (Str × Str) := [(Str.ofString "come", Str.ofString "WW"), (Str.ofString "drop", Str.ofString "W"), (Str.ofString "early", Str.ofString "W"), (Str.ofString "tick", Str.ofString ""), (Str.ofString "policy", Str.ofString "WWWW"), (Str.ofString "fail", Str.ofString "W"), (Str.ofString "repair", Str.ofString "W"), (Str.ofString "reserve", Str.ofString "WWN"), (Str.ofString "close", Str.ofString "WNN"), (Str.ofString "cancel", Str.ofString "WN"), (Str.ofString "shut", Str.ofString "W"), (Str.ofString "reopen", Str.ofString "W"), (Str.ofString "drain", Str.ofString "W")]
def LF : List (Str × Str) := [(Str.ofString "come", Str.ofString "nn"), (Str.ofString "drop", Str.ofString "n"), (Str.ofString "early", Str.ofString "n"), (Str.ofString "tick", Str.ofString ""), (Str.ofString "policy", Str.ofString "nnnn"), (Str.ofString "reserve", Str.ofString "nni"), (Str.ofString "close", Str.ofString "nii"), (Str.ofString "cancel", Str.ofString "ni"), (Str.ofString "shut", Str.ofString "n"), (Str.ofString "reopen", Str.ofString "n"), (Str.ofString "drain", Str.ofString "n"), (Str.ofString "fail", Str.ofString "n"), (Str.ofString "repair", Str.ofString "n")]
def fk (z : Str) : Option Str := kdv PF z
def cv (k : Nat) : Nat := if k = 78 then 105 else 110
def cvS (z : Str) : Str := ⟨(z.cps.toList.map cv).toArray⟩
theorem fk_mem {z k : Str} (h : fk z = some k) : (z, k) ∈ PF := by
  unfold fk kdv at h
  cases e : PF.find? (fun p => decide (p.1 = z)) with
  | none => rw [e] at h; cases h
  | some p =>
    rw [e] at h
    cases h
    have h1 := List.mem_of_find?_eq_some e
    have h2 : p.1 = z := by have := List.find?_some (p := fun p : Str × Str => decide (p.1 = z)) e; exact of_decide_eq_true this
    rw [← h2]
    exact h1
theorem fk_none {z : Str} (h : ¬ z ∈ PF.map (·.1)) : fk z = none := by
  unfold fk kdv
  rw [List.find?_eq_none.mpr (fun p hp => by
    intro c
    exact h (of_decide_eq_true c ▸ List.mem_map_of_mem hp))]
  rfl
theorem pf_facts : (PF.all fun p => decide (1 ≤ p.1.length) && decide (p.1.length ≤ 10) && decide (p.2.length ≤ 4) && !(p.1.cps.toList.contains 10) && !(p.1.cps.toList.contains 32) && p.2.cps.toList.all (fun c => c == 87 || c == 78)) = true := by decide +kernel
structure FkOk (z k : Str) : Prop where
  len : 1 ≤ z.length ∧ z.length ≤ 10 ∧ k.length ≤ 4
  nl : 10 ∉ z.cps.toList
  sp : 32 ∉ z.cps.toList
  ks : ∀ c ∈ k.cps.toList, c = 87 ∨ c = 78
theorem fk_ok {z k : Str} (h : fk z = some k) : FkOk z k := by
  have := List.all_eq_true.mp pf_facts _ (fk_mem h)
  simp only [Bool.and_eq_true, decide_eq_true_eq, Bool.not_eq_true'] at this
  obtain ⟨⟨⟨⟨⟨a, b⟩, c⟩, d⟩, e⟩, f⟩ := this
  refine ⟨⟨a, b, c⟩, fun m => ?_, fun m => ?_, fun x hx => ?_⟩
  · rw [List.contains_iff_mem.mpr m] at d; cases d
  · rw [List.contains_iff_mem.mpr m] at e; cases e
  · have := List.all_eq_true.mp f x hx
    simpa using this
theorem lf_in : ∀ z ∈ PF.map (·.1), LF.filter (fun p => decide (p.1 = z)) = ((fk z).map fun k => (z, cvS k)).toList := by decide +kernel
theorem lf_keys : ∀ p ∈ LF, p.1 ∈ PF.map (·.1) := by decide +kernel
theorem lf_filter (z : Str) : LF.filter (fun p => decide (p.1 = z)) = ((fk z).map fun k => (z, cvS k)).toList := by
  by_cases h : z ∈ PF.map (·.1)
  · exact lf_in z h
  · rw [fk_none h]
    show _ = []
    rw [List.filter_eq_nil_iff]
    intro p hp c
    exact h (of_decide_eq_true c ▸ lf_keys p hp)
theorem lf_fk : ∀ p ∈ LF, ∃ k, fk p.1 = some k ∧ cvS k = p.2 := by
  have h : ∀ p ∈ LF, (fk p.1).isSome = true ∧ (fk p.1).map cvS = some p.2 := by decide +kernel
  intro p hp
  obtain ⟨h1, h2⟩ := h p hp
  cases e : fk p.1 with
  | none => rw [e] at h1; cases h1
  | some k => rw [e] at h2; exact ⟨k, rfl, by injection h2⟩
/-- a number of at most six digits without a leading nought -/
def nm (t : List Nat) : Bool := lead t && decide (t.length ≤ 6)
def good (k : Nat) (t : List Nat) : Option N := if t = [] ∨ 10 ∈ t then none else if k = 78 then (if nm t = true then some (.num ((digitsVal t : Nat) : Int)) else none) else some (.wrd t)
def rdI : List Nat → List (List Nat) → Option (List N)
  | [], [] => some []
  | k :: ks, t :: ts => match good k t with
    | some a => (rdI ks ts).map (a :: ·)
    | none => none
  | _, _ => none
theorem rdI_len : ∀ {ks : List Nat} {ts : List (List Nat)} {ns : List N}, rdI ks ts = some ns → ks.length = ts.length ∧ ns.length = ks.length
  | [], [], _, h => by cases h; exact ⟨rfl, rfl⟩
  | [], _ :: _, _, h => by cases h
  | _ :: _, [], _, h => by cases h
  | k :: ks, t :: ts, ns, h => by
    unfold rdI at h
    cases e : good k t with
    | none => rw [e] at h; cases h
    | some a =>
      rw [e] at h
      cases e2 : rdI ks ts with
      | none => rw [e2] at h; cases h
      | some b =>
        rw [e2] at h
        cases h
        have := rdI_len e2
        exact ⟨by simp [this.1], by simp [this.2]⟩
theorem rdI_at : ∀ {ks : List Nat} {ts : List (List Nat)} {ns : List N} {i k : Nat} {t : List Nat}, rdI ks ts = some ns → ks[i]? = some k → ts[i]? = some t → ∃ n, good k t = some n ∧ ns[i]? = some n
  | [], _, _, i, _, _, _, h1, _ => by simp at h1
  | _ :: _, [], _, i, _, _, _, _, h2 => by simp at h2
  | k :: ks, t :: ts, ns, i, k', t', h, h1, h2 => by
    unfold rdI at h
    cases e : good k t with
    | none => rw [e] at h; cases h
    | some a =>
      rw [e] at h
      cases e2 : rdI ks ts with
      | none => rw [e2] at h; cases h
      | some b =>
        rw [e2] at h
        cases h
        cases i with
        | zero =>
          simp only [List.getElem?_cons_zero, Option.some.injEq] at h1 h2 ⊢
          subst h1 h2
          exact ⟨a, e, rfl⟩
        | succ i =>
          simp only [List.getElem?_cons_succ] at h1 h2 ⊢
          exact rdI_at e2 h1 h2
theorem rdI_mk : ∀ {ks : List Nat} {ts : List (List Nat)} {ns : List N}, ks.length = ts.length → ns.length = ks.length → (∀ (i k : Nat) (t : List Nat) (n : N), ks[i]? = some k → ts[i]? = some t → ns[i]? = some n → good k t = some n) → rdI ks ts = some ns
  | [], [], [], _, _, _ => rfl
  | [], [], _ :: _, _, h, _ => by simp at h
  | [], _ :: _, _, h, _, _ => by simp at h
  | _ :: _, [], _, h, _, _ => by simp at h
  | _ :: _, _ :: _, [], _, h, _ => by simp at h
  | k :: ks, t :: ts, n :: ns, h1, h2, h => by
    unfold rdI
    have h0 := h 0 k t n rfl rfl rfl
    rw [h0]
    have := rdI_mk (ks := ks) (ts := ts) (ns := ns) (by simpa using h1) (by simpa using h2) fun i k' t' n' a b c => h (i + 1) k' t' n' (by simpa using a) (by simpa using b) (by simpa using c)
    simp only [this, Option.map_some]
/-- what the items so far are -/
def Sofar (ks : List Nat) (ts : List (List Nat)) (i : Nat) (ns : List N) : Prop := ns.length = i ∧ ∀ (j k : Nat) (t : List Nat) (n : N), j < i → ks[j]? = some k → ts[j]? = some t → ns[j]? = some n → good k t = some n
theorem Sofar.nil {ks : List Nat} {ts : List (List Nat)} : Sofar ks ts 0 [] := ⟨rfl, fun j _ _ _ h => absurd h (Nat.not_lt_zero _)⟩
theorem Sofar.snoc {ks : List Nat} {ts : List (List Nat)} {i k : Nat} {t : List Nat} {n : N} {ns : List N} (h : Sofar ks ts i ns) (hk : ks[i]? = some k) (ht : ts[i]? = some t) (g : good k t = some n) : Sofar ks ts (i + 1) (ns ++ [n]) := by
  obtain ⟨hl, h⟩ := h
  refine ⟨by simp [hl], fun j k' t' n' hj a b c => ?_⟩
  by_cases e : j < i
  · exact h j k' t' n' e a b (by rw [List.getElem?_append_left (by omega)] at c; exact c)
  · obtain rfl : j = i := by omega
    rw [hk] at a
    rw [ht] at b
    rw [List.getElem?_append_right (by omega), hl, Nat.sub_self] at c
    cases a; cases b; cases c
    exact g
theorem Sofar.all {ks : List Nat} {ts : List (List Nat)} {ns : List N} (h : Sofar ks ts ts.length ns) (hl : ks.length = ts.length) : rdI ks ts = some ns :=
  rdI_mk hl (by rw [h.1, hl]) fun i k t n a b c => h.2 i k t n ((List.getElem?_eq_some_iff.mp b).1) a b c
theorem rdI_bad {ks : List Nat} {ts : List (List Nat)} {i k : Nat} {t : List Nat} (hk : ks[i]? = some k) (ht : ts[i]? = some t) (g : good k t = none) : rdI ks ts = none := by
  cases e : rdI ks ts with
  | none => rfl
  | some ns => obtain ⟨n, a, _⟩ := rdI_at e hk ht; rw [g] at a; cases a
theorem rdI_off {ks : List Nat} {ts : List (List Nat)} (h : ks.length ≠ ts.length) : rdI ks ts = none := by
  cases e : rdI ks ts with
  | none => rfl
  | some ns => exact absurd (rdI_len e).1 h
def parts (t : List Nat) : List (List Nat) := TL.spl [32] 0 [] t
theorem blank : Str.ofString " " = S [32] := by decide +kernel
theorem newl : Str.ofString "\n" = S [10] := by decide +kernel
theorem parts_split (t : List Nat) : Txt.split (S t) (Str.ofString " ") = (parts t).map S := by
  rw [blank]
  exact SX.split_S (a := t) (b := [32]) (by simp) (by decide)
theorem parts_ne (t : List Nat) : parts t ≠ [] := by
  intro z
  have := PyProof.Rows.split_pos (S t) (Str.ofString " ")
  rw [parts_split, z] at this
  exact absurd this (by decide)
theorem parts_join (t : List Nat) : TL.joinL [32] (parts t) = t := by
  have j := StrLaws.join_split (S t) (Str.ofString " ")
  rw [parts_split] at j
  have k := congrArg TL.tl j
  rw [TL.tl_join, map_S_tl] at k
  have s1 : TL.tl (Str.ofString " ") = [32] := by rw [blank]
  rw [s1] at k
  exact k
theorem parts_of {ts : List (List Nat)} (hne : ts ≠ []) (h : ∀ p ∈ ts, 32 ∉ p) : parts (TL.joinL [32] ts) = ts := SX.spl_join (c := 32) (sep := []) hne h
theorem joinL_mem {c : Nat} (hc : c ≠ 32) : ∀ {ts : List (List Nat)}, c ∈ TL.joinL [32] ts → ∃ p ∈ ts, c ∈ p
  | [], h => by cases h
  | [p], h => ⟨p, List.mem_singleton.mpr rfl, h⟩
  | p :: q :: r, h => by
    have h : c ∈ p ++ ([32] ++ TL.joinL [32] (q :: r)) := h
    rcases List.mem_append.mp h with e | e
    · exact ⟨p, List.mem_cons_self, e⟩
    · rcases List.mem_append.mp e with e | e
      · exact absurd (List.mem_singleton.mp e) hc
      · obtain ⟨x, hx, hm⟩ := joinL_mem hc e
        exact ⟨x, List.mem_cons_of_mem _ hx, hm⟩
theorem joinL_snoc {x : List Nat} : ∀ {ts : List (List Nat)}, ts ≠ [] → TL.joinL [32] (ts ++ [x]) = TL.joinL [32] ts ++ 32 :: x
  | [], h => absurd rfl h
  | [p], _ => rfl
  | p :: q :: r, _ => by
    have ih := joinL_snoc (x := x) (ts := q :: r) (by simp)
    show p ++ ([32] ++ TL.joinL [32] (q :: r ++ [x])) = p ++ ([32] ++ TL.joinL [32] (q :: r)) ++ 32 :: x
    rw [ih]
    simp only [List.append_assoc]
theorem joinL_len {m : Nat} : ∀ {ts : List (List Nat)}, (∀ p ∈ ts, p.length ≤ m) → (TL.joinL [32] ts).length ≤ ts.length * (m + 1)
  | [], _ => by simp [TL.joinL]
  | [p], h => by have := h p List.mem_cons_self; show p.length ≤ 1 * (m + 1); omega
  | p :: q :: r, h => by
    have h1 := h p List.mem_cons_self
    have ih := joinL_len (ts := q :: r) fun x hx => h x (List.mem_cons_of_mem _ hx)
    show (p ++ ([32] ++ TL.joinL [32] (q :: r))).length ≤ (r.length + 1 + 1) * (m + 1)
    rw [List.length_append, List.length_append, Nat.add_mul]
    rw [List.length_cons] at ih
    simp only [List.length_cons, List.length_nil]
    omega
theorem parts_len (t : List Nat) : ∀ p ∈ parts t, p.length ≤ t.length := by
  have key : ∀ ts : List (List Nat), ∀ p ∈ ts, p.length ≤ (TL.joinL [32] ts).length := by
    intro ts
    induction ts with
    | nil => intro p hp; cases hp
    | cons x ts ih =>
      intro p hp
      cases ts with
      | nil => rw [List.mem_singleton.mp hp]; exact Nat.le_refl _
      | cons y ts =>
        show p.length ≤ (x ++ ([32] ++ TL.joinL [32] (y :: ts))).length
        rw [List.length_append, List.length_append]
        rcases List.mem_cons.mp hp with e | e
        · rw [e]; omega
        · have := ih p e; omega
  intro p hp
  have := key (parts t) p hp
  rw [parts_join] at this
  exact this
theorem parts_cnt (t : List Nat) : (parts t).length ≤ t.length + 1 := by
  have key : ∀ ts : List (List Nat), ts.length ≤ (TL.joinL [32] ts).length + 1 := by
    intro ts
    induction ts with
    | nil => exact Nat.zero_le _
    | cons x ts ih =>
      cases ts with
      | nil => show 1 ≤ x.length + 1; omega
      | cons y ts =>
        show ts.length + 1 + 1 ≤ (x ++ ([32] ++ TL.joinL [32] (y :: ts))).length + 1
        rw [List.length_append, List.length_append]
        rw [List.length_cons] at ih
        simp only [List.length_cons, List.length_nil]
        omega
  have := key (parts t)
  rw [parts_join] at this
  exact this
def rdE (t : List Nat) : Option (List N) := match parts t with
  | w :: ts => match fk (S w) with
    | some ks => (rdI (TL.tl ks) ts).map (N.wrd w :: ·)
    | none => none
  | [] => none
structure RE (t : List Nat) (r : Option (List N)) : Prop where
  e : rdE t = r
theorem rdE_cons {t w : List Nat} {ts : List (List Nat)} (h : parts t = w :: ts) : rdE t = match fk (S w) with
    | some ks => (rdI (TL.tl ks) ts).map (N.wrd w :: ·)
    | none => none := by
  unfold rdE
  rw [h]
theorem good_nl {k : Nat} {t : List Nat} (h : 10 ∈ t) : good k t = none := by unfold good; rw [if_pos (.inr h)]
theorem good_nil {k : Nat} : good k [] = none := by unfold good; rw [if_pos (.inl rfl)]
theorem rdI_some {ks : List Nat} {ts : List (List Nat)} {ns : List N} (h : rdI ks ts = some ns) {t : List Nat} (ht : t ∈ ts) : t ≠ [] ∧ 10 ∉ t := by
  obtain ⟨i, hi, rfl⟩ := List.getElem_of_mem ht
  have hl := (rdI_len h).1
  obtain ⟨n, g, _⟩ := rdI_at h (List.getElem?_eq_getElem (show i < ks.length by omega)) (List.getElem?_eq_getElem hi)
  unfold good at g
  split at g
  · cases g
  · rename_i c
    exact ⟨fun e => c (.inl e), fun e => c (.inr e)⟩
theorem nl_none {t : List Nat} (h : 10 ∈ t) : rdE t = none := by
  cases e : parts t with
  | nil => exact absurd e (parts_ne t)
  | cons w ts =>
    rw [rdE_cons e]
    cases f : fk (S w) with
    | none => rfl
    | some ks =>
      cases g : rdI (TL.tl ks) ts with
      | none => simp only [g, Option.map_none]
      | some ns =>
        exfalso
        rw [← parts_join t, e] at h
        obtain ⟨p, hp, hm⟩ := joinL_mem (by decide) h
        rcases List.mem_cons.mp hp with q | q
        · rw [q] at hm; exact (fk_ok f).nl hm
        · exact (rdI_some g q).2 hm
theorem emp_none {t : List Nat} (h : [] ∈ parts t) : rdE t = none := by
  cases e : parts t with
  | nil => exact absurd e (parts_ne t)
  | cons w ts =>
    rw [rdE_cons e]
    cases f : fk (S w) with
    | none => rfl
    | some ks =>
      cases g : rdI (TL.tl ks) ts with
      | none => simp only [g, Option.map_none]
      | some ns =>
        exfalso
        rw [e] at h
        rcases List.mem_cons.mp h with q | q
        · have := (fk_ok f).len.1
          rw [← q] at this
          exact absurd this (by decide)
        · exact (rdI_some g q).1 rfl
/-! ### events -/
def flv : N → V
  | .wrd w => .str (S w)
  | .num i => .int i
  | _ => .non
structure NmOk (t : List Nat) : Prop where
  ne : t ≠ []
  len : t.length ≤ 60
  ch : ∀ c ∈ t, 33 ≤ c ∧ c ≤ 126
def ItOk (k : Nat) (n : N) : Prop := (k = 78 ∧ ∃ m : Nat, m ≤ 999999 ∧ n = .num (m : Int)) ∨ (k ≠ 78 ∧ ∃ t, n = .wrd t ∧ NmOk t)
structure EvOk (ns : List N) : Prop where
  ex : ∃ w ks its, ns = .wrd w :: its ∧ fk (S w) = some ks ∧ its.length = (TL.tl ks).length ∧ ∀ (i k : Nat) (n : N), (TL.tl ks)[i]? = some k → its[i]? = some n → ItOk k n
theorem num_len6 {m : Nat} (h : m ≤ 999999) : (numL m).length ≤ 6 := numL_len (by decide) (by omega)
theorem txt_num (m : Nat) : (N.num (m : Int)).txt = numL m := numT_nat m
theorem good_it {k : Nat} {n : N} (h : ItOk k n) : good k n.txt = some n ∧ 32 ∉ n.txt ∧ n.txt.length ≤ 60 := by
  rcases h with ⟨rfl, m, hm, rfl⟩ | ⟨hk, t, rfl, ht⟩
  · rw [txt_num]
    have hd := numL_digits m
    have f : ∀ c, c ∈ numL m → 48 ≤ c ∧ c ≤ 57 := hd
    refine ⟨?_, fun c => ?_, Nat.le_trans (num_len6 hm) (by decide)⟩
    · unfold good
      rw [if_neg (by rintro (e | e); exact numL_ne m e; have := f _ e; omega), if_pos rfl, if_pos ?_, numL_val]
      unfold nm
      rw [lead_num, decide_eq_true (num_len6 hm)]
      rfl
    · have := f _ c; omega
  · show good k t = some (.wrd t) ∧ 32 ∉ t ∧ t.length ≤ 60
    refine ⟨?_, fun c => ?_, ht.len⟩
    · unfold good
      rw [if_neg (by rintro (e | e); exact ht.ne e; have := ht.ch _ e; omega), if_neg hk]
    · have := ht.ch _ c; omega
def wt (ns : List N) : List Nat := TL.joinL [32] (ns.map N.txt)
theorem EvOk.txts {ns : List N} (h : EvOk ns) : (∀ p ∈ ns.map N.txt, 32 ∉ p ∧ p.length ≤ 60) ∧ 1 ≤ ns.length ∧ ns.length ≤ 5 := by
  obtain ⟨w, ks, its, rfl, hf, hl, hi⟩ := h.ex
  have ok := fk_ok hf
  refine ⟨fun p hp => ?_, by simp, ?_⟩
  · rw [List.map_cons] at hp
    rcases List.mem_cons.mp hp with e | e
    · rw [e]
      have := ok.len
      exact ⟨ok.sp, by have := ok.len.2.1; rw [S_len] at this; show w.length ≤ 60; omega⟩
    · obtain ⟨n, hn, rfl⟩ := List.mem_map.mp e
      obtain ⟨i, hi2, rfl⟩ := List.getElem_of_mem hn
      have hk : i < (TL.tl ks).length := by omega
      exact (good_it (hi i _ _ (List.getElem?_eq_getElem hk) (List.getElem?_eq_getElem hi2))).2
  · have := ok.len.2.2
    rw [TL.len_tl] at this
    rw [List.length_cons]
    omega
theorem EvOk.parts {ns : List N} (h : EvOk ns) : EV.parts (wt ns) = ns.map N.txt := by
  refine parts_of (fun e => ?_) fun p hp => (h.txts.1 p hp).1
  have := h.txts.2.1
  rw [List.map_eq_nil_iff] at e
  rw [e] at this
  exact absurd this (by decide)
theorem EvOk.len {ns : List N} (h : EvOk ns) : (wt ns).length ≤ 305 := by
  have := joinL_len (m := 60) (ts := ns.map N.txt) fun p hp => (h.txts.1 p hp).2
  rw [List.length_map] at this
  have h5 := h.txts.2.2
  have := Nat.mul_le_mul_right 61 h5
  unfold wt
  omega
theorem EvOk.rd {ns : List N} (h : EvOk ns) : rdE (wt ns) = some ns := by
  have hp := h.parts
  obtain ⟨w, ks, its, rfl, hf, hl, hi⟩ := h.ex
  rw [rdE_cons (w := w) (ts := its.map N.txt) (by rw [hp]; rfl), hf]
  have : rdI (TL.tl ks) (its.map N.txt) = some its := rdI_mk (by rw [List.length_map, hl]) hl fun i k t n a b c => by
    rw [List.getElem?_map, c] at b
    cases b
    exact (good_it (hi i k n a c)).1
  simp only [this, Option.map_some]
end EV
/-! enumerate of a list from a written number on -/
namespace L2
open PySem PySem.Spec PyProof.Rows
section
variable {M : Model} {A : Around} {E : Value → Shared → Prop} {s : Shared} {env : Env}
theorem withKw_type {pos : Pos} {T : String} {args : List (Bool × Sem Value)} {kws : List (Option Str × Sem Value)} {Q : Value → Shared → Prop} (h1 : args.any (·.1) = false) (h2 : kws.any (·.1.isNone) = false)
    (h : wpAny M A (evalArgs (.type T) true args kws) (fun a s1 => wpAny M A (call (.type T) a.pos a.kw) Q E s1) E s) : wpAny M A (callWith pos (.type T) [] args kws) Q E s := by
  unfold callWith
  refine wpAny_bind (wpAny_holding (wpAny_mono h (fun a s1 g => wpAny_bind (wpAny_standAt ?_)) fun _ _ x => x))
  simp only [h1, h2, Bool.or_false]
  refine wpAny_bind (wpAny_pure ?_)
  exact wpAny_bind (wpAny_mono g (fun r s2 hr => wpAny_bind (wpAny_holding (wpAny_point (wpAny_pure hr)))) fun _ _ x => x)
theorem call_typeKw {pos : Pos} {T : String} {e : Expr} {kws : List Keyword} {Q : Value → Shared → Prop}
    (h : wpAny M A (spliced (backTo pos (starEach [e] env))) (fun vs s1 => wpAny M A (evalAll ((backToKw pos (keywordEach kws env)).map (·.2)))
      (fun kvs s2 => wpAny M A (call (.type T) vs (((backToKw pos (keywordEach kws env)).filterMap (·.1)).zip kvs)) Q E s2) E s1) E s)
    (he : backTo pos (starEach [e] env) = (false, eval e env) :: backTo pos (starEach [] env)) (hpl : (backTo pos (starEach [e] env)).any (·.1) = false)
    (hall : (backToKw pos (keywordEach kws env)).all (·.1.isSome) = true) (hkw : (backToKw pos (keywordEach kws env)).any (·.1.isNone) = false) :
    wpAny M A (callWith pos (.type T) [] (backTo pos (starEach [e] env)) (backToKw pos (keywordEach kws env))) Q E s := by
  refine withKw_type hpl hkw ?_
  rw [he] at h ⊢
  exact evalArgs_kwB hall h
end
/-- the items of the list at a in new pairs, each behind its number, which is k and more -/
def ItES (K : PySem.W.Frag) (a : Addr) (k : Int) : It :=
  ⟨fun i H => ∃ (xs : List V) (x : V), SqL K H a xs ∧ xs[i]? = some x,
    fun i H v H' => ∃ (T : Addr) (x : V), v = .ref T ∧ H T = none ∧ H' = upd H T (.tup [.int (k + (i : Int)), x]) ∧ ∀ xs, SqL K H a xs → xs[i]? = some x,
    fun i H => ∃ xs : List V, SqL K H a xs ∧ i = xs.length⟩
theorem turn_ES {P : Program} {w : World} {K : PySem.W.Frag} {elts : List Expr} {kk : Nat} {tpos : Pos} {k : Int} {a e it : Addr} (hai : a ≠ it) (hei : e ≠ it) (hea : e ≠ a) :
    Turn P w K (.Tuple elts kk tpos) (ItES K a k) [e, it] e (fun i h => (∃ old, IsEnum h e it (k + (i : Int)) old) ∧ h.IsListIter it a i) where
  mem := by simp
  obj := fun i h st c hc => by
    obtain ⟨⟨old, e1⟩, ⟨o, e2, _, d2⟩⟩ := st
    simp only [List.mem_cons, List.not_mem_nil, or_false] at hc
    rcases hc with r | r <;> rw [r]
    · exact ⟨_, e1, fun v z => nomatch z⟩
    · exact ⟨o, e2, fun v z => by rw [d2] at z; cases z⟩
  keep := fun i h h' st g => by
    obtain ⟨⟨old, e1⟩, e2⟩ := st
    exact ⟨⟨old, g e (by simp) _ e1⟩, e2.at fun o q => g it (by simp) o q⟩
  item := by
    intro X hP hw hK hc i pins s σ H E I hf st hg
    subst hP hw hK
    obtain ⟨⟨old, he⟩, hi⟩ := st
    obtain ⟨xs, x, hq, hx⟩ := hg
    obtain ⟨its, rv, p, _⟩ := I.list hq
    obtain ⟨u, hu, ru⟩ := rv.get hx
    have hel : e < s.heap.objs.size := Heap.lt_size he
    have hil : it < s.heap.objs.size := by obtain ⟨_, q, _⟩ := hi; exact Heap.lt_size q
    have hlt : i < its.toArray.size := by
      have := (List.getElem?_eq_some_iff.mp hu).1
      simpa using this
    have D := Draws.list (prog := X.prog) (w := X.w) (A := X.A.in1) (I.ok.hd hc) it a hai its.toArray
    refine wpAny_pyNext_enum_itemC D he ⟨hi, p.isList⟩ hlt hei (by simp [hei, hea]) fun y h' tk hy ho hs hT hsz hk => ?_
    have hy : its[i]? = some y := by simpa using hy
    rw [hu] at hy
    cases hy
    refine ⟨_, rfl, wpAny_letOwnedTupleGo_enum (s := { s with heap := h', toks := tk + 1 }) ho fun h'' he' sb => ?_⟩
    have hT2 : h''.get? s.heap.objs.size = some { cls := .type "tuple", data := .seq #[.int (k + (i : Int)) tk, u] } := (sb.2 _ (Nat.ne_of_gt hel)).trans hT
    have new : ObjOk X.prog X.w (upd H s.heap.objs.size (.tup [.int (k + (i : Int)), x])) h'' s.heap.objs.size (.tup [.int (k + (i : Int)), x]) :=
      ⟨by show 2 ≤ sizeLine; decide, [.int (k + (i : Int)) tk, u], .cons ⟨tk, rfl⟩ (.cons ru .nil), ⟨_, hT2, rfl, _, rfl⟩⟩
    have I1 : Inv X pins σ (upd H s.heap.objs.size (.tup [.int (k + (i : Int)), x])) { s with heap := h'', toks := tk + 1 } :=
      I.turnedNew (t' := tk + 1) (ch := [e, it]) (fun b o hb q => by
        simp only [List.mem_cons, List.not_mem_nil, or_false, not_or] at hb
        exact (sb.2 b hb.1).trans (hk b o hb.1 hb.2 q)) hf (Nat.le_refl _) new
    refine ⟨.ref s.heap.objs.size, _, I1, rfl, ⟨_, x, rfl, I.hok.fresh (Nat.le_refl _), rfl, fun ys hy => by rw [I.list_inj hy hq]; exact hx⟩, ⟨⟨u, ?_⟩, ?_⟩, fun b hb => ?_⟩
    · have e1 : k + ((i + 1 : Nat) : Int) = k + (i : Int) + 1 := by omega
      rw [e1]; exact he'
    · exact hs.1.at fun o q => (sb.2 it (Ne.symm hei)).trans q
    · have hb' : b < s.heap.objs.size := by
        simp only [List.mem_cons, List.not_mem_nil, or_false] at hb
        rcases hb with r | r <;> rw [r]
        · exact hel
        · exact hil
      rw [upd_ne (Nat.ne_of_lt hb')]
      exact (hf b hb).1
  done := by
    intro X hP hw hK hc i pins s σ H E I hf st hg
    subst hP hw hK
    obtain ⟨⟨old, he⟩, hi⟩ := st
    obtain ⟨xs, hq, hx⟩ := hg
    obtain ⟨its, rv, p, _⟩ := I.list hq
    have hl := rv.length
    have D := Draws.list (prog := X.prog) (w := X.w) (A := X.A.in1) (I.ok.hd hc) it a hai its.toArray
    have hn : its.toArray.size = i := by simp; omega
    obtain ⟨f0, f1, f2, f3, f4, f5⟩ := hf it (by simp)
    refine wpAny_pyNext_enum_endD D he (by rw [hn]; exact ⟨hi, p.isList⟩) fun h' eb => ⟨rfl, I.turned (t' := s.toks) (fun b o hb q => eb b o hb q) f0 f1 f3 f4 f5⟩
  self := fun A i s Q E st h => let ⟨⟨_, he⟩, _⟩ := st; wpAny_pyIter_enum he h
def iEnumS (K : PySem.W.Frag) (ta : TA) (te : TE) : TI := fun σ H R => ta σ H fun vs H1 => ∃ a, vs = [.ref a] ∧ te σ H1 fun y H2 => ∃ (xs : List V) (k : Int), y = .int k ∧ -(2 ^ 63) ≤ k ∧ k < 2 ^ 63 ∧ SqL K H2 a xs ∧ R (ItES K a k) H2
theorem pi_enumS (K : PySem.W.Frag) {X : Cx} {e e2 : Expr} {ta : TA} {te : TE} {p pos tpos kp : Pos} {elts : List Expr} {kk : Nat} (hg : Gl X "enumerate") (hm : X.mg "enumerate" = none) (ha : PA X [e] ta) (hb : PE X e2 te)
    (he : backTo pos (starEach [e] X.env) = (false, eval e X.env) :: backTo pos (starEach [] X.env) := by rfl) (hpl : (backTo pos (starEach [e] X.env)).any (·.1) = false := by rfl)
    (hall : (backToKw pos (keywordEach [⟨some (Str.ofString "start"), e2, kp⟩] X.env)).all (·.1.isSome) = true := by rfl) (hkw : (backToKw pos (keywordEach [⟨some (Str.ofString "start"), e2, kp⟩] X.env)).any (·.1.isNone) = false := by rfl)
    (hev : eval (.Call (.Name "enumerate" p) [e] [⟨some (Str.ofString "start"), e2, kp⟩] pos) X.env = (do callWith pos (← eval (.Name "enumerate" p) X.env) [] (backTo pos (starEach [e] X.env)) (backToKw pos (keywordEach [⟨some (Str.ofString "start"), e2, kp⟩] X.env))) := by rfl)
    (hK : X.K = K := by rfl) :
    PI X (.Tuple elts kk tpos) (.Call (.Name "enumerate" p) [e] [⟨some (Str.ofString "start"), e2, kp⟩] pos) (iEnumS K ta te) := by
  subst hK
  refine ⟨fun pins s σ H R I h => ?_⟩
  rw [hev]
  refine wpAny_bind (ld_blt I hg hm boot_enumerate (call_typeKw (thn (ha.run pos pins s σ H _ I h) fun us s1 ⟨vs, H1, I1, r1, a, ex, q1⟩ => ?_) he hpl hall hkw))
  subst ex
  cases r1 with
  | cons r rr =>
    cases rr
    cases r
    refine kws_cons (thn (hb.run pins s1 σ H1 _ I1 q1) fun u s2 ⟨y, H2, I2, ry, xs, k, ey, k0, k1, hq, q⟩ => kws_nil ?_)
    subst ey
    obtain ⟨t, rfl⟩ : ∃ t, u = .int k t := ry
    obtain ⟨its, rv, p', _⟩ := I2.list hq
    have hal : a < s2.heap.objs.size := p'.lt
    show wpAny _ _ (call (.type "enumerate") [.ref a] [(Str.ofString "start", .int k t)]) _ _ _
    refine enum_begins_start (begins_list a its.toArray) p'.isList k0 k1 fun h' hE hI hsz hk => wpAny_pyIter_enum (s := { s2 with heap := h' }) hE ?_
    have I3 : Inv X pins σ H2 { s2 with heap := h' } := I2.kept (t' := s2.toks) hk
    have e0 : k + ((0 : Nat) : Int) = k := by omega
    refine ⟨s2.heap.objs.size + 1, [s2.heap.objs.size + 1, s2.heap.objs.size], _, _, H2, rfl, I3, turn_ES (k := k) (a := a) (Nat.ne_of_lt hal) (Nat.succ_ne_self _) (Nat.ne_of_gt (Nat.lt_succ_of_lt hal)), ⟨⟨.none, by rw [e0]; exact hE⟩, ⟨_, hI, rfl, rfl⟩⟩, fun c hcm => ?_, q⟩
    have hle : s2.heap.objs.size ≤ c := by
      simp only [List.mem_cons, List.not_mem_nil, or_false] at hcm
      rcases hcm with r | r <;> rw [r]
      · exact Nat.le_add_right _ _
      · exact Nat.le_refl _
    exact I2.fpOk hle (I2.hok.fresh hle)
theorem walk_ES {K : PySem.W.Frag} {a : Addr} {k : Int} {xs : List V} : Walk (ItES K a k) xs.length (fun H => SqL K H a xs)
    (fun i H v H' => ∃ (T : Addr) (x : V), v = .ref T ∧ H T = none ∧ H' = upd H T (.tup [.int (k + (i : Int)), x]) ∧ xs[i]? = some x) := by
  refine ⟨fun i _ hi q => ⟨xs, xs[i], q, by simp [hi]⟩, fun _ q => ⟨xs, q, rfl⟩, fun i H v H' _ q y => ?_⟩
  obtain ⟨T, x, h1, h2, h3, h4⟩ := y
  exact ⟨T, x, h1, h2, h3, h4 xs q⟩
theorem pe_bmK (K : PySem.W.Frag) {X : Cx} {T : String} {name : Str} {id : String} {r : V → List V → Hp → VK → Prop} {o e : Expr} {es : List Expr} {to : TE} {t : TA} {apos cpos : Pos} (pa : PlainAttrs T) (slot : Slot T name id) (hty : typeOf (.builtin id) = pure (.type "method_descriptor")) (hm : MtR X id r) (ho : PE X o to) (ha : PA X (e :: es) t)
    (hbase : attributeBase o name X.env (eval o X.env) = eval o X.env := by rfl)
    (hfew : ((backTo cpos (starEach (e :: es) X.env)).all (fun x => !x.1) && (backToKw cpos (keywordEach [] X.env)).all (fun x => x.1.isSome)
      && decide ((e :: es).length + ([] : List Keyword).length + (if ([] : List Keyword).isEmpty then 0 else 1) < 30)) = true := by rfl)
    (hline : (apos.endLine == cpos.line) = true := by rfl) (hs : starEach (e :: es) X.env = (false, eval e X.env) :: starEach es X.env := by rfl) (hplain : (backTo cpos (starEach es X.env)).any (·.1) = false := by rfl) (hK : X.K = K := by rfl) :
    PE X (.Call (.Attribute o name apos) (e :: es) [] cpos) (tBM K T r to t) := by
  subst hK
  exact pe_bm pa slot hty hm ho ha hbase hfew hline hs hplain
theorem cut_whole {xs : List V} {lo hi : Option Int} (h : HT.sIx xs.length 0 lo = 0 ∧ HT.sIx xs.length xs.length hi = xs.length) : cutV xs lo hi = xs := by
  unfold cutV
  rw [h.1, h.2]
  simp
/-- t + u, wherever it stands -/
def rCatE : R2 := fun x y H Q => ∃ a b xs ys, x = .ref a ∧ y = .ref b ∧ H a = some (.tup xs) ∧ H b = some (.tup ys) ∧ xs.length + ys.length ≤ sizeLine ∧ ∀ p H', Same H H' → H' p = some (.tup (xs ++ ys)) → Q (.ref p) H'
theorem op_catE {X : Cx} : OpR X (binaryOp .Add) rCatE := by
  intro pins s σ H x y v u Q I rx ry ⟨a, b, xs, ys, ex, ey, ha, hb, hz, q⟩
  refine op_catA pins s σ H x y v u Q I rx ry ⟨a, b, xs, ys, ex, ey, SqT.of ha, SqT.of hb, hz, fun e => ?_, fun _ e => ?_, fun _ _ p hp => ?_⟩
  · subst e
    exact q b H (Same.refl _) (by rw [List.nil_append]; exact hb)
  · subst e
    exact q a H (Same.refl _) (by rw [List.append_nil]; exact ha)
  · exact q p _ (same_new hp) upd_same
/-- t[lo:hi], wherever it stands -/
def rSlE : V → Option Int → Option Int → Hp → VK → Prop := fun x lo hi H Q => ∃ a xs, x = .ref a ∧ H a = some (.tup xs) ∧ ∀ p H', Same H H' → H' p = some (.tup (cutV xs lo hi)) → Q (.ref p) H'
theorem sl_tupE {X : Cx} : SlR X rSlE := by
  intro pins s σ H x v vl vu lo hi sl Q I rx hs pl pu ⟨a, xs, ex, ha, q⟩
  exact sl_tupA pins s σ H x v vl vu lo hi sl Q I rx hs pl pu ⟨a, xs, ex, SqT.of ha, fun h => q a H (Same.refl _) (by rw [cut_whole h]; exact ha), fun _ p hp => q p _ (same_new hp) upd_same⟩
end L2
namespace LW
open PySem PySem.Spec PyProof.Rows L2
def top (i : Nat) : Stmt := PySem.Challenge.pw_gangbooks_k65_book_text_and_edits.main.body.getD i (.Pass ⟨0, 0, 0, 0⟩)
abbrev s_GangError_init : Stmt := inClass (top 1) 0
abbrev s_is_digits : Stmt := top 7
abbrev s_is_number : Stmt := top 8
abbrev s_event_line : Stmt := top 12
abbrev s_read_event : Stmt := top 13
abbrev s_Book_init : Stmt := inClass (top 15) 0
abbrev s_Book_read : Stmt := inClass (top 15) 1
abbrev s_Book_text : Stmt := inClass (top 15) 2
abbrev s_Book_first : Stmt := inClass (top 15) 3
abbrev s_Book_without : Stmt := inClass (top 15) 4
abbrev s_Book_put : Stmt := inClass (top 15) 5
abbrev s_Book_add : Stmt := inClass (top 15) 6
abbrev s_Book_eq : Stmt := inClass (top 15) 7
abbrev s_Book_getitem : Stmt := inClass (top 15) 8
abbrev s_Book_len : Stmt := inClass (top 15) 9
abbrev s_Book_iter : Stmt := inClass (top 15) 10
abbrev s_mixed : Stmt := top 17
abbrev s_drawing : Stmt := top 18
abbrev s_take : Stmt := top 19
abbrev s_same : Stmt := top 20
abbrev s_forms : Stmt := top 21
abbrev s_written : Stmt := top 22
abbrev s_l_is_number : Stmt := top 23
abbrev s_read : Stmt := top 24
abbrev s_word : Stmt := top 25
abbrev s_drawn_event : Stmt := top 26
abbrev s_text : Stmt := top 27
abbrev s_reading : Stmt := top 28
abbrev s_answer : Stmt := top 29
abbrev s_changed : Stmt := top 30
abbrev s_is_book : Stmt := top 31
abbrev s_refusal : Stmt := top 32
abbrev s_edits : Stmt := top 33
abbrev s_law : Stmt := top 34
theorem sc_GangError_init : FnScope ["self", "subject"] ["self", "subject"] (defScope s_GangError_init) := ⟨rfl, rfl, rfl, by decide +kernel, rfl, by decide +kernel, by decide +kernel⟩
theorem sc_is_digits : FnScope ["text", "char"] ["text"] (defScope s_is_digits) := ⟨rfl, rfl, rfl, by decide +kernel, rfl, by decide +kernel, by decide +kernel⟩
theorem sc_is_number : FnScope ["word", "most"] ["word", "most"] (defScope s_is_number) := ⟨rfl, rfl, rfl, by decide +kernel, rfl, by decide +kernel, by decide +kernel⟩
theorem sc_event_line : FnScope ["event", "item"] ["event"] (defScope s_event_line) := ⟨rfl, rfl, rfl, by decide +kernel, rfl, by decide +kernel, by decide +kernel⟩
theorem sc_read_event : FnScope ["line", "word", "texts", "items", "kind", "text"] ["line"] (defScope s_read_event) := ⟨rfl, rfl, rfl, by decide +kernel, rfl, by decide +kernel, by decide +kernel⟩
theorem sc_Book_init : FnScope ["self", "events"] ["self", "events"] (defScope s_Book_init) := ⟨rfl, rfl, rfl, by decide +kernel, rfl, by decide +kernel, by decide +kernel⟩
theorem sc_Book_read : FnScope ["cls", "text", "lines", "events", "number", "line", "e"] ["cls", "text"] (defScope s_Book_read) := ⟨rfl, rfl, rfl, by decide +kernel, rfl, by decide +kernel, by decide +kernel⟩
theorem sc_Book_text : FnScope ["self", "event"] ["self"] (defScope s_Book_text) := ⟨rfl, rfl, rfl, by decide +kernel, rfl, by decide +kernel, by decide +kernel⟩
theorem sc_Book_first : FnScope ["self", "n"] ["self", "n"] (defScope s_Book_first) := ⟨rfl, rfl, rfl, by decide +kernel, rfl, by decide +kernel, by decide +kernel⟩
theorem sc_Book_without : FnScope ["self", "at"] ["self", "at"] (defScope s_Book_without) := ⟨rfl, rfl, rfl, by decide +kernel, rfl, by decide +kernel, by decide +kernel⟩
theorem sc_Book_put : FnScope ["self", "at", "event"] ["self", "at", "event"] (defScope s_Book_put) := ⟨rfl, rfl, rfl, by decide +kernel, rfl, by decide +kernel, by decide +kernel⟩
theorem sc_Book_add : FnScope ["self", "other"] ["self", "other"] (defScope s_Book_add) := ⟨rfl, rfl, rfl, by decide +kernel, rfl, by decide +kernel, by decide +kernel⟩
theorem sc_Book_eq : FnScope ["self", "other"] ["self", "other"] (defScope s_Book_eq) := ⟨rfl, rfl, rfl, by decide +kernel, rfl, by decide +kernel, by decide +kernel⟩
theorem sc_Book_getitem : FnScope ["self", "at"] ["self", "at"] (defScope s_Book_getitem) := ⟨rfl, rfl, rfl, by decide +kernel, rfl, by decide +kernel, by decide +kernel⟩
theorem sc_Book_len : FnScope ["self"] ["self"] (defScope s_Book_len) := ⟨rfl, rfl, rfl, by decide +kernel, rfl, by decide +kernel, by decide +kernel⟩
theorem sc_Book_iter : FnScope ["self"] ["self"] (defScope s_Book_iter) := ⟨rfl, rfl, rfl, by decide +kernel, rfl, by decide +kernel, by decide +kernel⟩
theorem sc_mixed : FnScope ["_law_number", "_law_k", "_law_first", "_law_second"] ["_law_number", "_law_k"] (defScope s_mixed) := ⟨rfl, rfl, rfl, by decide +kernel, rfl, by decide +kernel, by decide +kernel⟩
theorem sc_drawing : FnScope ["_law_script", "_law_pool", "_law_cell", "_law_seed", "_law_number", "_law_rest", "_law_k"] ["_law_script"] (defScope s_drawing) := ⟨rfl, rfl, rfl, by decide +kernel, rfl, by decide +kernel, by decide +kernel⟩
theorem sc_take : FnScope ["_law_draws", "_law_limit", "_law_at"] ["_law_draws", "_law_limit"] (defScope s_take) := ⟨rfl, rfl, rfl, by decide +kernel, rfl, by decide +kernel, by decide +kernel⟩
theorem sc_same : FnScope ["_law_told", "_law_due", "_law_k"] ["_law_told", "_law_due"] (defScope s_same) := ⟨rfl, rfl, rfl, by decide +kernel, rfl, by decide +kernel, by decide +kernel⟩
theorem sc_forms : FnScope [] [] (defScope s_forms) := ⟨rfl, rfl, rfl, by decide +kernel, rfl, by decide +kernel, by decide +kernel⟩
theorem sc_written : FnScope ["_law_event", "_law_text_here", "_law_item"] ["_law_event"] (defScope s_written) := ⟨rfl, rfl, rfl, by decide +kernel, rfl, by decide +kernel, by decide +kernel⟩
theorem sc_l_is_number : FnScope ["_law_word_here", "_law_sign"] ["_law_word_here"] (defScope s_l_is_number) := ⟨rfl, rfl, rfl, by decide +kernel, rfl, by decide +kernel, by decide +kernel⟩
theorem sc_read : FnScope ["_law_line", "_law_words", "_law_forms_here", "_law_kinds", "_law_items", "_law_k", "_law_form"] ["_law_line"] (defScope s_read) := ⟨rfl, rfl, rfl, by decide +kernel, rfl, by decide +kernel, by decide +kernel⟩
theorem sc_word : FnScope ["_law_pick", "_law_signs", "_law_size", "_law_rows", "_law_k", "_law_row"] ["_law_pick"] (defScope s_word) := ⟨rfl, rfl, rfl, by decide +kernel, rfl, by decide +kernel, by decide +kernel⟩
theorem sc_drawn_event : FnScope ["_law_draws", "_law_form", "_law_items", "_law_kind", "_law_pick", "_law_menu"] ["_law_draws"] (defScope s_drawn_event) := ⟨rfl, rfl, rfl, by decide +kernel, rfl, by decide +kernel, by decide +kernel⟩
theorem sc_text : FnScope ["_law_events", "_law_event"] ["_law_events"] (defScope s_text) := ⟨rfl, rfl, rfl, by decide +kernel, rfl, by decide +kernel, by decide +kernel⟩
theorem sc_reading : FnScope ["_law_text_here", "_law_events", "_law_lines", "_law_k", "_law_event"] ["_law_text_here"] (defScope s_reading) := ⟨rfl, rfl, rfl, by decide +kernel, rfl, by decide +kernel, by decide +kernel⟩
theorem sc_answer : FnScope ["_law_text_here", "_law_book", "e", "_law_right"] ["_law_text_here"] (defScope s_answer) := ⟨rfl, rfl, rfl, by decide +kernel, rfl, by decide +kernel, by decide +kernel⟩
theorem sc_changed : FnScope ["_law_draws", "_law_text_here", "_law_way", "_law_at", "_law_sign", "_law_lines", "_law_place", "_law_menu"] ["_law_draws", "_law_text_here"] (defScope s_changed) := ⟨rfl, rfl, rfl, by decide +kernel, rfl, by decide +kernel, by decide +kernel⟩
theorem sc_is_book : FnScope ["_law_told", "_law_events", "_law_k"] ["_law_told", "_law_events"] (defScope s_is_book) := ⟨rfl, rfl, rfl, by decide +kernel, rfl, by decide +kernel, by decide +kernel⟩
theorem sc_refusal : FnScope ["_law_book", "_law_way", "_law_at", "e", "_law_right"] ["_law_book", "_law_way", "_law_at"] (defScope s_refusal) := ⟨rfl, rfl, rfl, by decide +kernel, rfl, by decide +kernel, by decide +kernel⟩
theorem sc_edits : FnScope ["_law_draws", "_law_book", "_law_events", "_law_at", "_law_event", "_law_longer", "_law_way"] ["_law_draws", "_law_book", "_law_events"] (defScope s_edits) := ⟨rfl, rfl, rfl, by decide +kernel, rfl, by decide +kernel, by decide +kernel⟩
theorem sc_law : FnScope ["_law_script", "_law_draws", "_law_many", "_law_events", "_law_others", "_law_passed", "_law_book", "_law_other", "_law_alike", "_law_text_here", "_law_texts", "_law_k", "_law_row", "_law_back"] ["_law_script"] (defScope s_law) := ⟨rfl, rfl, rfl, by decide +kernel, rfl, by decide +kernel, by decide +kernel⟩
/-- where the top has put what the law uses -/
structure Adr where
  c_Book : Addr
  c_GangError : Addr
  c_BadLine : Addr
  c_BadEvent : Addr
  c_NoEvent : Addr
  kd_FORMS : Addr
  f_GangError_init : Addr
  d_GangError_init : FuncData
  f_is_digits : Addr
  d_is_digits : FuncData
  f_is_number : Addr
  d_is_number : FuncData
  f_event_line : Addr
  d_event_line : FuncData
  f_read_event : Addr
  d_read_event : FuncData
  f_Book_init : Addr
  d_Book_init : FuncData
  f_Book_read : Addr
  d_Book_read : FuncData
  f_Book_text : Addr
  d_Book_text : FuncData
  f_Book_first : Addr
  d_Book_first : FuncData
  f_Book_without : Addr
  d_Book_without : FuncData
  f_Book_put : Addr
  d_Book_put : FuncData
  f_Book_add : Addr
  d_Book_add : FuncData
  f_Book_eq : Addr
  d_Book_eq : FuncData
  f_Book_getitem : Addr
  d_Book_getitem : FuncData
  f_Book_len : Addr
  d_Book_len : FuncData
  f_Book_iter : Addr
  d_Book_iter : FuncData
  f_mixed : Addr
  d_mixed : FuncData
  f_drawing : Addr
  d_drawing : FuncData
  f_take : Addr
  d_take : FuncData
  f_same : Addr
  d_same : FuncData
  f_forms : Addr
  d_forms : FuncData
  f_written : Addr
  d_written : FuncData
  f_l_is_number : Addr
  d_l_is_number : FuncData
  f_read : Addr
  d_read : FuncData
  f_word : Addr
  d_word : FuncData
  f_drawn_event : Addr
  d_drawn_event : FuncData
  f_text : Addr
  d_text : FuncData
  f_reading : Addr
  d_reading : FuncData
  f_answer : Addr
  d_answer : FuncData
  f_changed : Addr
  d_changed : FuncData
  f_is_book : Addr
  d_is_book : FuncData
  f_refusal : Addr
  d_refusal : FuncData
  f_edits : Addr
  d_edits : FuncData
  f_law : Addr
  d_law : FuncData
structure Txt {w : World} (K : PySem.W.Frag) (mg : Str → Option Value) (A : Adr) : Prop where
  n_ValueError : mg "ValueError" = none
  n_abs : mg "abs" = none
  n_all : mg "all" = none
  n_bool : mg "bool" = none
  n_enumerate : mg "enumerate" = none
  n_int : mg "int" = none
  n_isinstance : mg "isinstance" = none
  n_iter : mg "iter" = none
  n_len : mg "len" = none
  n_list : mg "list" = none
  n_range : mg "range" = none
  n_str : mg "str" = none
  n_tuple : mg "tuple" = none
  n_zip : mg "zip" = none
  g_Book : mg "Book" = some (.ref A.c_Book)
  g_GangError : mg "GangError" = some (.ref A.c_GangError)
  g_BadLine : mg "BadLine" = some (.ref A.c_BadLine)
  g_BadEvent : mg "BadEvent" = some (.ref A.c_BadEvent)
  g_NoEvent : mg "NoEvent" = some (.ref A.c_NoEvent)
  F_GangError_init : Fun K "__init__" "GangError.__init__" s_GangError_init A.f_GangError_init A.d_GangError_init
  b_GangError_init : Binds K A.d_GangError_init ["self", "subject"] []
  me_GangError_init : Meth K A.c_GangError "__init__" A.f_GangError_init
  F_is_digits : Fun K "is_digits" "is_digits" s_is_digits A.f_is_digits A.d_is_digits
  b_is_digits : Binds K A.d_is_digits ["text"] []
  g_is_digits : mg "is_digits" = some (.ref A.f_is_digits)
  F_is_number : Fun K "is_number" "is_number" s_is_number A.f_is_number A.d_is_number
  b_is_number : Binds K A.d_is_number ["word", "most"] []
  g_is_number : mg "is_number" = some (.ref A.f_is_number)
  F_event_line : Fun K "event_line" "event_line" s_event_line A.f_event_line A.d_event_line
  b_event_line : Binds K A.d_event_line ["event"] []
  g_event_line : mg "event_line" = some (.ref A.f_event_line)
  F_read_event : Fun K "read_event" "read_event" s_read_event A.f_read_event A.d_read_event
  b_read_event : Binds K A.d_read_event ["line"] []
  g_read_event : mg "read_event" = some (.ref A.f_read_event)
  F_Book_init : Fun K "__init__" "Book.__init__" s_Book_init A.f_Book_init A.d_Book_init
  b_Book_init : Binds K A.d_Book_init ["self", "events"] []
  me_Book_init : Meth K A.c_Book "__init__" A.f_Book_init
  F_Book_read : Fun K "read" "Book.read" s_Book_read A.f_Book_read A.d_Book_read
  b_Book_read : Binds K A.d_Book_read ["cls", "text"] []
  rd_Book : ClX.CRead K A.c_Book (.type "type")
  cm_Book_read : ∃ p, ClX.CMet K A.c_Book (.type "type") "read" p A.f_Book_read
  F_Book_text : Fun K "text" "Book.text" s_Book_text A.f_Book_text A.d_Book_text
  b_Book_text : Binds K A.d_Book_text ["self"] []
  me_Book_text : Meth K A.c_Book "text" A.f_Book_text
  F_Book_first : Fun K "first" "Book.first" s_Book_first A.f_Book_first A.d_Book_first
  b_Book_first : Binds K A.d_Book_first ["self", "n"] []
  me_Book_first : Meth K A.c_Book "first" A.f_Book_first
  F_Book_without : Fun K "without" "Book.without" s_Book_without A.f_Book_without A.d_Book_without
  b_Book_without : Binds K A.d_Book_without ["self", "at"] []
  me_Book_without : Meth K A.c_Book "without" A.f_Book_without
  F_Book_put : Fun K "put" "Book.put" s_Book_put A.f_Book_put A.d_Book_put
  b_Book_put : Binds K A.d_Book_put ["self", "at", "event"] []
  me_Book_put : Meth K A.c_Book "put" A.f_Book_put
  F_Book_add : Fun K "__add__" "Book.__add__" s_Book_add A.f_Book_add A.d_Book_add
  b_Book_add : Binds K A.d_Book_add ["self", "other"] []
  me_Book_add : Meth K A.c_Book "__add__" A.f_Book_add
  F_Book_eq : Fun K "__eq__" "Book.__eq__" s_Book_eq A.f_Book_eq A.d_Book_eq
  b_Book_eq : Binds K A.d_Book_eq ["self", "other"] []
  me_Book_eq : Meth K A.c_Book "__eq__" A.f_Book_eq
  F_Book_getitem : Fun K "__getitem__" "Book.__getitem__" s_Book_getitem A.f_Book_getitem A.d_Book_getitem
  b_Book_getitem : Binds K A.d_Book_getitem ["self", "at"] []
  fn_Book_getitem : PySem.W.fnIn K A.f_Book_getitem = true
  me_Book_getitem : Meth K A.c_Book "__getitem__" A.f_Book_getitem
  F_Book_len : Fun K "__len__" "Book.__len__" s_Book_len A.f_Book_len A.d_Book_len
  b_Book_len : Binds K A.d_Book_len ["self"] []
  me_Book_len : Meth K A.c_Book "__len__" A.f_Book_len
  F_Book_iter : Fun K "__iter__" "Book.__iter__" s_Book_iter A.f_Book_iter A.d_Book_iter
  b_Book_iter : Binds K A.d_Book_iter ["self"] []
  me_Book_iter : Meth K A.c_Book "__iter__" A.f_Book_iter
  F_mixed : Fun K "_law_mixed" "_law_mixed" s_mixed A.f_mixed A.d_mixed
  b_mixed : Binds K A.d_mixed ["_law_number", "_law_k"] []
  g_mixed : mg "_law_mixed" = some (.ref A.f_mixed)
  F_drawing : Fun K "_law_drawing" "_law_drawing" s_drawing A.f_drawing A.d_drawing
  b_drawing : Binds K A.d_drawing ["_law_script"] []
  g_drawing : mg "_law_drawing" = some (.ref A.f_drawing)
  F_take : Fun K "_law_take" "_law_take" s_take A.f_take A.d_take
  b_take : Binds K A.d_take ["_law_draws", "_law_limit"] []
  g_take : mg "_law_take" = some (.ref A.f_take)
  F_same : Fun K "_law_same" "_law_same" s_same A.f_same A.d_same
  b_same : Binds K A.d_same ["_law_told", "_law_due"] []
  g_same : mg "_law_same" = some (.ref A.f_same)
  F_forms : Fun K "_law_forms" "_law_forms" s_forms A.f_forms A.d_forms
  b_forms : Binds K A.d_forms [] []
  g_forms : mg "_law_forms" = some (.ref A.f_forms)
  F_written : Fun K "_law_written" "_law_written" s_written A.f_written A.d_written
  b_written : Binds K A.d_written ["_law_event"] []
  g_written : mg "_law_written" = some (.ref A.f_written)
  F_l_is_number : Fun K "_law_is_number" "_law_is_number" s_l_is_number A.f_l_is_number A.d_l_is_number
  b_l_is_number : Binds K A.d_l_is_number ["_law_word_here"] []
  g_l_is_number : mg "_law_is_number" = some (.ref A.f_l_is_number)
  F_read : Fun K "_law_read" "_law_read" s_read A.f_read A.d_read
  b_read : Binds K A.d_read ["_law_line"] []
  g_read : mg "_law_read" = some (.ref A.f_read)
  F_word : Fun K "_law_word" "_law_word" s_word A.f_word A.d_word
  b_word : Binds K A.d_word ["_law_pick"] []
  g_word : mg "_law_word" = some (.ref A.f_word)
  F_drawn_event : Fun K "_law_drawn_event" "_law_drawn_event" s_drawn_event A.f_drawn_event A.d_drawn_event
  b_drawn_event : Binds K A.d_drawn_event ["_law_draws"] []
  g_drawn_event : mg "_law_drawn_event" = some (.ref A.f_drawn_event)
  F_text : Fun K "_law_text" "_law_text" s_text A.f_text A.d_text
  b_text : Binds K A.d_text ["_law_events"] []
  g_text : mg "_law_text" = some (.ref A.f_text)
  F_reading : Fun K "_law_reading" "_law_reading" s_reading A.f_reading A.d_reading
  b_reading : Binds K A.d_reading ["_law_text_here"] []
  g_reading : mg "_law_reading" = some (.ref A.f_reading)
  F_answer : Fun K "_law_answer" "_law_answer" s_answer A.f_answer A.d_answer
  b_answer : Binds K A.d_answer ["_law_text_here"] []
  g_answer : mg "_law_answer" = some (.ref A.f_answer)
  F_changed : Fun K "_law_changed" "_law_changed" s_changed A.f_changed A.d_changed
  b_changed : Binds K A.d_changed ["_law_draws", "_law_text_here"] []
  g_changed : mg "_law_changed" = some (.ref A.f_changed)
  F_is_book : Fun K "_law_is_book" "_law_is_book" s_is_book A.f_is_book A.d_is_book
  b_is_book : Binds K A.d_is_book ["_law_told", "_law_events"] []
  g_is_book : mg "_law_is_book" = some (.ref A.f_is_book)
  F_refusal : Fun K "_law_refusal" "_law_refusal" s_refusal A.f_refusal A.d_refusal
  b_refusal : Binds K A.d_refusal ["_law_book", "_law_way", "_law_at"] []
  g_refusal : mg "_law_refusal" = some (.ref A.f_refusal)
  F_edits : Fun K "_law_edits" "_law_edits" s_edits A.f_edits A.d_edits
  b_edits : Binds K A.d_edits ["_law_draws", "_law_book", "_law_events"] []
  g_edits : mg "_law_edits" = some (.ref A.f_edits)
  F_law : Fun K "law" "law" s_law A.f_law A.d_law
  b_law : Binds K A.d_law ["_law_script"] []
  g_law : mg "law" = some (.ref A.f_law)
  cl_Book : Cls K A.c_Book
  mk_Book : Mk K A.c_Book A.f_Book_init
  sf_Book : PySem.W.selfFirst K A.c_Book = true
  k1_Book : PySem.W.findIn K (.ref A.c_Book) "__class__" = some (some (.builtin "object.__class__"))
  k4_Book : PySem.W.mroIn K A.c_Book (.type "object") = some true
  no_Book_events : NoAttr K A.c_Book "events"
  kg : PySem.W.specialIn K (.builtin "object.__class__") "__get__" = some (some (.builtin "getset_descriptor.__get__"))
  kt : PySem.W.takesIn K (.builtin "object.__class__") = some true
  x_GangError : GExc K A.c_GangError A.f_GangError_init
  xf_GangError : XfC K A.c_GangError
  xc_GangError : ExcC K A.c_GangError
  xm_GangError : PySem.W.exmOne K (.ref A.c_GangError) (.ref A.c_GangError) = some true
  x_BadLine : GExc K A.c_BadLine A.f_GangError_init
  xf_BadLine : XfC K A.c_BadLine
  xc_BadLine : ExcC K A.c_BadLine
  xm_BadLine : PySem.W.exmOne K (.ref A.c_BadLine) (.ref A.c_GangError) = some true
  x_BadEvent : GExc K A.c_BadEvent A.f_GangError_init
  xf_BadEvent : XfC K A.c_BadEvent
  xc_BadEvent : ExcC K A.c_BadEvent
  xm_BadEvent : PySem.W.exmOne K (.ref A.c_BadEvent) (.ref A.c_GangError) = some true
  x_NoEvent : GExc K A.c_NoEvent A.f_GangError_init
  xf_NoEvent : XfC K A.c_NoEvent
  xc_NoEvent : ExcC K A.c_NoEvent
  xm_NoEvent : PySem.W.exmOne K (.ref A.c_NoEvent) (.ref A.c_GangError) = some true
  g_FORMS : mg "FORMS" = some (.ref A.kd_FORMS)
  D_FORMS : KD K w A.kd_FORMS EV.PF
  k_DIGITS : ∃ t, mg "DIGITS" = some (.str (Str.ofString "0123456789") t)
  k_MOST_DIGITS : ∃ t, mg "MOST_DIGITS" = some (.int 6 t)
  kt_BadEvent_BadEvent : PySem.W.kitOne K (.ref A.c_BadEvent) (.ref A.c_BadEvent) = some true
  kt_BadLine_BadLine : PySem.W.kitOne K (.ref A.c_BadLine) (.ref A.c_BadLine) = some true
  kt_BadLine_GangError : PySem.W.kitOne K (.ref A.c_BadLine) (.ref A.c_GangError) = some true
  kt_BadLine_ValueError : PySem.W.kitOne K (.ref A.c_BadLine) (.type "ValueError") = some true
  kt_BadLine_BadEvent : PySem.W.kitOne K (.ref A.c_BadLine) (.ref A.c_BadEvent) = some false
  kt_BadLine_NoEvent : PySem.W.kitOne K (.ref A.c_BadLine) (.ref A.c_NoEvent) = some false
  kt_NoEvent_NoEvent : PySem.W.kitOne K (.ref A.c_NoEvent) (.ref A.c_NoEvent) = some true
  kt_NoEvent_GangError : PySem.W.kitOne K (.ref A.c_NoEvent) (.ref A.c_GangError) = some true
  kt_NoEvent_BadLine : PySem.W.kitOne K (.ref A.c_NoEvent) (.ref A.c_BadLine) = some false
  kt_NoEvent_BadEvent : PySem.W.kitOne K (.ref A.c_NoEvent) (.ref A.c_BadEvent) = some false
  xs_BadEvent : PySem.W.exmOne K (.ref A.c_BadEvent) (.ref A.c_BadEvent) = some true
  xs_BadLine : PySem.W.exmOne K (.ref A.c_BadLine) (.ref A.c_BadLine) = some true
  xs_NoEvent : PySem.W.exmOne K (.ref A.c_NoEvent) (.ref A.c_NoEvent) = some true

open EV GN GR SX TL TX NumText
structure IsS (z : Str) (t : List Nat) : Prop where
  e : z = S t
theorem str_nil {t : List Nat} : (V.str (S t) = V.str (Str.ofString "")) ↔ t = [] := by
  have e : Str.ofString "" = S [] := by decide +kernel
  rw [e]
  constructor
  · intro h; injection h with h; exact S_inj h
  · intro h; rw [h]
theorem get_bl {t : List Nat} {f : Nat → Bool} {i c : Nat} {b : Bool} (h : t[i]? = some c) (e : f c = b) : ((t.map f).map V.bl)[i]? = some (.bl b) := by
  rw [List.getElem?_map, List.getElem?_map, h, ← e]; rfl
theorem isD_ne {t : List Nat} (h : t ≠ []) : isD t = (t.map fun c => decide (c ∈ digs)).all id := by
  unfold isD
  rw [decide_eq_true h, Bool.true_and, List.all_map]; rfl
theorem nl_is : V.str (Str.ofString "\n") = V.str ⟨#[10]⟩ := congrArg V.str newl
theorem zero_is : Str.ofString "0" = S [48] := by decide +kernel
theorem nm_eq {c : Nat} {r : List Nat} : nm (c :: r) = (isD (c :: r) && (decide ((c :: r).length ≤ 6) && (decide (c :: r = [48]) || decide (c ≠ 48)))) := by
  unfold nm lead
  by_cases h : c = 48
  · subst h
    cases r with
    | nil => rfl
    | cons d r => simp
  · simp [h]
theorem nmT {c : Nat} {r : List Nat} (h1 : isD (c :: r) = true) (h2 : ((S (c :: r)).length : Int) ≤ 6) (h3 : V.str (S (c :: r)) = V.str (Str.ofString "0")) : nm (c :: r) = true := by
  rw [S_len] at h2
  rw [zero_is] at h3
  rw [nm_eq, h1, decide_eq_true (show (c :: r).length ≤ 6 by omega), decide_eq_true (S_inj (by injection h3) : c :: r = [48])]; rfl
theorem sgn_iff {c d : Nat} {x : Str} (e : x = ⟨#[d]⟩) : (V.str ⟨#[c]⟩ = V.str x) ↔ c = d := by subst e; simp
theorem nmX {c : Nat} {r : List Nat} (h1 : isD (c :: r) = true) (h2 : ((S (c :: r)).length : Int) ≤ 6) (h3 : ¬ V.str (S (c :: r)) = V.str (Str.ofString "0")) : nm (c :: r) = !decide (V.str ⟨#[c]⟩ = V.str (Str.ofString "0")) := by
  rw [S_len] at h2
  rw [zero_is] at h3
  rw [nm_eq, h1, decide_eq_true (show (c :: r).length ≤ 6 by omega), decide_eq_false (fun e => h3 (by rw [e]) : ¬ c :: r = [48])]
  rw [Bool.true_and, Bool.true_and, Bool.false_or]
  rw [show decide (V.str ⟨#[c]⟩ = V.str (Str.ofString "0")) = decide (c = 48) from decide_eq_decide.mpr (sgn_iff zero_is)]
  by_cases h : c = 48 <;> simp [h]
theorem nmF {t : List Nat} (h2 : ¬ ((S t).length : Int) ≤ 6) : nm t = false := by
  rw [S_len] at h2
  unfold nm
  rw [decide_eq_false (show ¬ t.length ≤ 6 by omega), Bool.and_false]
theorem nmD {t : List Nat} (h : isD t = false) : nm t = false := by
  unfold nm lead
  rw [h]; rfl
theorem bool_abs {b : Bool} (h : b = false) (g : b = true) : False := by rw [h] at g; cases g
theorem bool_abs2 {b : Bool} (g : b = true) (h : b = false) : False := by rw [h] at g; cases g
theorem numS (a : Int) : Str.ofString (toString a) = S (numT a) := (mk_tl _).symm
theorem ev_flat {ns : List N} (h : EvOk ns) : ∀ n ∈ ns, (∃ w, n = .wrd w) ∨ ∃ m : Nat, m ≤ 999999 ∧ n = .num (m : Int) := by
  obtain ⟨w, ks, its, rfl, hf, hl, hi⟩ := h.ex
  intro n hn
  rcases List.mem_cons.mp hn with e | e
  · exact .inl ⟨w, e⟩
  · obtain ⟨i, hi2, rfl⟩ := List.getElem_of_mem e
    have hk : i < (tl ks).length := by omega
    rcases hi i _ _ (List.getElem?_eq_getElem hk) (List.getElem?_eq_getElem hi2) with ⟨_, m, hm, e⟩ | ⟨_, t, e, _⟩
    · exact .inr ⟨m, hm, e⟩
    · exact .inl ⟨t, e⟩
theorem log6 {m : Nat} (h : m ≤ 999999) : (m : Int).natAbs.log2 < 1920 := by
  exact Nat.lt_of_lt_of_le (PySem.Flt.log2_lt_of (show 0 < 20 by decide) (show m < 2 ^ 20 by omega)) (by decide)
theorem getMapG {α β : Type} {f : α → β} {l : List α} {i : Nat} {x : β} (h : (l.map f)[i]? = some x) : ∃ z, l[i]? = some z ∧ x = f z := by
  rw [List.getElem?_map] at h
  cases e : l[i]? with
  | none => rw [e] at h; cases h
  | some z => rw [e] at h; cases h; exact ⟨z, rfl, rfl⟩
theorem sum60 {l : List Str} (h : ∀ z ∈ l, z.length ≤ 100) (hl : l.length ≤ 100) {s : Str} (hs : s.length ≤ 1) : (l.map (·.length)).sum + l.length * s.length ≤ 16777216 := by
  have key : ∀ l : List Str, (∀ z ∈ l, z.length ≤ 100) → (l.map (·.length)).sum ≤ l.length * 100 := by
    intro l
    induction l with
    | nil => intro _; simp
    | cons z l ih =>
      intro h
      have := ih fun x hx => h x (List.mem_cons_of_mem _ hx)
      have := h z List.mem_cons_self
      rw [List.map_cons, List.sum_cons, List.length_cons, Nat.add_mul]
      omega
  have h1 := key l h
  have h2 := Nat.mul_le_mul_left l.length hs
  omega
theorem join_wt {ns : List N} : Txt.join (Str.ofString " ") ((ns.map N.txt).map S) = S (wt ns) := by rw [EV.blank, join_S]; rfl
structure ItsAt (H : Hp) (L : Addr) (ks : List Nat) (ts : List (List Nat)) (i : Nat) : Prop where
  ex : ∃ ns, H L = some (.lst (ns.map flv)) ∧ Sofar ks ts i ns
theorem goodN {t : List Nat} (h1 : t ≠ []) (h2 : 10 ∉ t) (h3 : nm t = true) : good 78 t = some (.num ((digitsVal t : Nat) : Int)) := by
  unfold good; rw [if_neg (fun h => h.elim h1 h2), if_pos rfl, if_pos h3]
theorem goodW {k : Nat} {t : List Nat} (h1 : t ≠ []) (h2 : 10 ∉ t) (h3 : k ≠ 78) : good k t = some (.wrd t) := by
  unfold good; rw [if_neg (fun h => h.elim h1 h2), if_neg h3]
theorem goodX {t : List Nat} (h3 : nm t = false) : good 78 t = none := by
  unfold good
  split
  · rfl
  · rw [if_pos rfl, if_neg (by rw [h3]; intro z; cases z)]
theorem nm_isD {t : List Nat} (h : nm t = true) : isD t = true ∧ t.length ≤ 6 := by
  unfold nm at h
  rw [Bool.and_eq_true, decide_eq_true_eq] at h
  exact ⟨(lead_back h.1).1, h.2⟩
theorem big_N : Str.ofString "N" = ⟨#[78]⟩ := by decide +kernel
structure DrawAt (H : Hp) (p q : Addr) : Prop where
  ex : ∃ (i sd : Int) (ms : List Int), H p = some (.lst [.int i, .ref q, .int sd]) ∧ H q = some (.lst (ms.map V.int)) ∧ q ≠ p ∧ 0 ≤ i
theorem DrawAt.mono {H H' : Hp} {p q : Addr} (h : DrawAt H p q) (s : Same H H') : DrawAt H' p q := let ⟨i, sd, ms, a, b, c, d⟩ := h.ex; ⟨i, sd, ms, s _ _ a, s _ _ b, c, d⟩
theorem draw_ne {H : Hp} {p pq t : Addr} {xs : List V} (P : DrawAt H p pq) (h : H t = some (.tup xs)) : t ≠ p := fun e => by
  obtain ⟨_, _, _, a, _⟩ := P.ex
  rw [e, a] at h; cases h
theorem draw_new {H : Hp} {p pq t : Addr} (P : DrawAt H p pq) (h : H t = none) : t ≠ p := fun e => by
  obtain ⟨_, _, _, a, _⟩ := P.ex
  rw [e, a] at h; cases h
inductive Eqv (H : Hp) : Nat → V → V → Prop
  | non (d : Nat) : Eqv H d .non .non
  | int (d : Nat) (i : Int) : Eqv H d (.int i) (.int i)
  | str (d : Nat) (z : Str) : Eqv H d (.str z) (.str z)
  | bl (d : Nat) (b : Bool) : Eqv H d (.bl b) (.bl b)
  | lst {d : Nat} {a b : Addr} {xs ys : List V} (ha : H a = some (.lst xs)) (hb : H b = some (.lst ys)) (hl : xs.length = ys.length) (hn : xs.length ≤ 1000) (h : ∀ (i : Nat) (x y : V), xs[i]? = some x → ys[i]? = some y → Eqv H d x y) : Eqv H (d + 1) (.ref a) (.ref b)
  | tup {d : Nat} {a b : Addr} {xs ys : List V} (ha : H a = some (.tup xs)) (hb : H b = some (.tup ys)) (hl : xs.length = ys.length) (hn : xs.length ≤ 1000) (h : ∀ (i : Nat) (x y : V), xs[i]? = some x → ys[i]? = some y → Eqv H d x y) : Eqv H (d + 1) (.ref a) (.ref b)
theorem Eqv.mono {H H' : Hp} (s : Same H H') {d : Nat} {x y : V} (h : Eqv H d x y) : Eqv H' d x y := by
  induction h with
  | non d => exact .non d
  | int d i => exact .int d i
  | str d z => exact .str d z
  | bl d b => exact .bl d b
  | lst ha hb hl hn _ ih => exact .lst (s _ _ ha) (s _ _ hb) hl hn ih
  | tup ha hb hl hn _ ih => exact .tup (s _ _ ha) (s _ _ hb) hl hn ih
theorem eqvEv {H : Hp} {a b : Addr} {ns : List N} (ha : H a = some (.tup (ns.map flv))) (hb : H b = some (.tup (ns.map flv))) (hn : ns.length ≤ 100) : Eqv H 1 (.ref a) (.ref b) :=
  .tup ha hb rfl (by rw [List.length_map]; omega) fun i x y hx hy => by
    rw [hx] at hy
    cases hy
    obtain ⟨n, _, rfl⟩ := getMapG hx
    cases n with
    | wrd w => exact .str 0 _
    | num i => exact .int 0 _
    | non => exact .non 0
    | tup l => exact .non 0
theorem eqvNo {H : Hp} {a b : Addr} {x y : Str} (ha : H a = some (.tup [.str x, .str y])) (hb : H b = some (.tup [.str x, .str y])) : Eqv H 1 (.ref a) (.ref b) :=
  .tup ha hb rfl (by simp) fun i u v hx hy => by
    rw [hx] at hy
    cases hy
    rcases i with _ | _ | i
    · cases hx; exact .str 0 _
    · cases hx; exact .str 0 _
    · cases hx
theorem eqvYes {H : Hp} {a b e f : Addr} {x : Str} {ns : List N} (ha : H a = some (.tup [.str x, .ref e])) (hb : H b = some (.tup [.str x, .ref f])) (he : H e = some (.tup (ns.map flv))) (hf : H f = some (.tup (ns.map flv))) (hn : ns.length ≤ 100) : Eqv H 2 (.ref a) (.ref b) :=
  .tup ha hb rfl (by simp) fun i u v hx hy => by
    rcases i with _ | _ | i
    · cases hx; cases hy; exact .str 1 _
    · cases hx; cases hy; exact eqvEv he hf hn
    · cases hx
theorem rd_len {t : List Nat} {ns : List N} (h : rdE t = some ns) : ns.length ≤ 100 := by
  cases e : parts t with
  | nil => exact absurd e (parts_ne t)
  | cons w ts =>
    rw [rdE_cons e] at h
    cases hf : fk (S w) with
    | none => rw [hf] at h; cases h
    | some ks =>
      rw [hf] at h
      have h : (rdI (tl ks) ts).map (fun x => N.wrd w :: x) = some ns := h
      cases hi : rdI (tl ks) ts with
      | none => rw [hi] at h; cases h
      | some its =>
        rw [hi] at h
        cases h
        have := (rdI_len hi).2
        have := (fk_ok hf).len.2.2
        have := len_tl ks
        rw [List.length_cons]; omega
def FormsAt (H : Hp) (a : Addr) : Prop := ∃ xs : List V, H a = some (.lst xs) ∧ xs.length = LF.length ∧ ∀ (i : Nat) (p : Str × Str), LF[i]? = some p → ∃ T : Addr, xs[i]? = some (.ref T) ∧ H T = some (.tup [.str p.1, .str p.2])
theorem FormsAt.mono {H H' : Hp} {a : Addr} (h : FormsAt H a) (s : Same H H') : FormsAt H' a := let ⟨xs, e, l, g⟩ := h; ⟨xs, s _ _ e, l, fun i p q => let ⟨T, u, v⟩ := g i p q; ⟨T, u, s _ _ v⟩⟩
def Bad (A : Adr) (E : XK) (H : Hp) (z : Str) : Prop := ∀ d H', Same H H' → H' d = some (.xd [(("subject" : Str), .str z)]) → E (.ref A.c_BadEvent) (some d) H'
def FinR (A : Adr) (Q : VK) (E : XK) (H : Hp) (t : List Nat) : Option (List N) → Prop
  | none => Bad A E H (S t)
  | some ns => ∀ p H', Same H H' → H' p = some (.tup (ns.map flv)) → Q (.ref p) H'
theorem bd {A : Adr} {Q : VK} {E : XK} {H : Hp} {t : List Nat} {r : Option (List N)} (hr : RE t r) (h : rdE t = none) (k : FinR A Q E H t r) : Bad A E H (S t) := by
  have e := hr.e
  rw [h] at e
  subst e
  exact k
theorem fine {A : Adr} {Q : VK} {E : XK} {H : Hp} {t : List Nat} {r : Option (List N)} {ns : List N} (hr : RE t r) (h : rdE t = some ns) (k : FinR A Q E H t r) : ∀ p H', Same H H' → H' p = some (.tup (ns.map flv)) → Q (.ref p) H' := by
  have e := hr.e
  rw [h] at e
  subst e
  exact k
def FinL (Q : VK) (H : Hp) : Option (List N) → Prop
  | none => ∀ H', Same H H' → Q .non H'
  | some ns => ∀ p H', Same H H' → H' p = some (.tup (ns.map flv)) → Q (.ref p) H'
theorem badl {Q : VK} {H : Hp} {t : List Nat} {r : Option (List N)} (hr : RE t r) (h : rdE t = none) (k : FinL Q H r) : ∀ H', Same H H' → Q .non H' := by
  have e := hr.e
  rw [h] at e
  subst e
  exact k
theorem finl {Q : VK} {H : Hp} {t : List Nat} {r : Option (List N)} {ns : List N} (hr : RE t r) (h : rdE t = some ns) (k : FinL Q H r) : ∀ p H', Same H H' → H' p = some (.tup (ns.map flv)) → Q (.ref p) H' := by
  have e := hr.e
  rw [h] at e
  subst e
  exact k
def FinA (Q : VK) (H : Hp) (t : List Nat) : Option (List N) → Prop
  | none => ∀ p H', Same H H' → H' p = some (.tup [.str (Str.ofString "refused"), .str (S t)]) → Q (.ref p) H'
  | some ns => ∀ p e H', Same H H' → H' p = some (.tup [.str (Str.ofString "read"), .ref e]) → H' e = some (.tup (ns.map flv)) → Q (.ref p) H'
theorem ix_seqK (K : PySem.W.Frag) {X : Cx} (hK : X.K = K := by rfl) : IxR X (rIx K) := hK ▸ ix_seq
theorem ix_l {K : PySem.W.Frag} {a : Addr} {xs : List V} {i : Int} {v : V} {H : Hp} {Q : VK} (h : SqL K H a xs) (e : atI xs i = some v) (q : Q v H) : rIx K (.ref a) (.int i) H Q := .inl ⟨a, xs, i, v, rfl, rfl, h, e, q⟩
theorem ix_t {K : PySem.W.Frag} {a : Addr} {xs : List V} {i : Int} {v : V} {H : Hp} {Q : VK} (h : SqT K H a xs) (e : atI xs i = some v) (q : Q v H) : rIx K (.ref a) (.int i) H Q := .inr (.inl ⟨a, xs, i, v, rfl, rfl, h, e, q⟩)
theorem modr {z l : Int} (h : 0 < l) : 0 ≤ z % l ∧ z % l < l := ⟨Int.emod_nonneg _ (by omega), Int.emod_lt_of_pos _ h⟩
structure IL (H : Hp) (p : Addr) (n : Nat) : Prop where
  ex : ∃ ms : List Int, H p = some (.lst (ms.map V.int)) ∧ ms.length ≤ n
def cutG {α : Type} (l : List α) (lo hi : Option Int) : List α := (l.drop (HT.sIx l.length 0 lo)).take (HT.sIx l.length l.length hi - HT.sIx l.length 0 lo)
theorem cutV_mapG {α : Type} {f : α → V} (l : List α) (lo hi : Option Int) : cutV (l.map f) lo hi = (cutG l lo hi).map f := by
  unfold cutV cutG
  rw [List.length_map, List.map_take, List.map_drop]
theorem cutG_len {α : Type} {l : List α} {lo hi : Option Int} : (cutG l lo hi).length ≤ l.length := by
  unfold cutG
  rw [List.length_take, List.length_drop]
  omega
theorem cutG_mem {α : Type} {l : List α} {lo hi : Option Int} {x : α} (h : x ∈ cutG l lo hi) : x ∈ l := List.mem_of_mem_drop (List.mem_of_mem_take h)
structure Sg (z : Str) : Prop where
  ex : ∃ c, z = S [c] ∧ 33 ≤ c ∧ c ≤ 126
theorem sgn_rng {z : Str} {n : Nat} (hl : z.length = n) (h0 : 0 < n) (hk : z.cps.toList.all (fun c => decide (33 ≤ c) && decide (c ≤ 126)) = true) {i : Int} : ∃ c, atI z.cps.toList (i % (z.length : Nat)) = some c ∧ Sg ⟨#[c]⟩ := by
  rw [hl]
  have hl2 : z.cps.toList.length = n := by rw [Array.length_toList]; exact hl
  have h1 : 0 ≤ i % (n : Int) := Int.emod_nonneg _ (by omega)
  have h2 : i % (n : Int) < n := Int.emod_lt_of_pos _ (by omega)
  obtain ⟨j, hj⟩ : ∃ j : Nat, i % (n : Int) = (j : Int) := ⟨(i % (n : Int)).toNat, by omega⟩
  rw [hj]
  have hj2 : j < z.cps.toList.length := by omega
  have := List.all_eq_true.mp hk _ (List.getElem_mem hj2)
  rw [Bool.and_eq_true, decide_eq_true_eq, decide_eq_true_eq] at this
  exact ⟨z.cps.toList[j], atI_nat (List.getElem?_eq_getElem hj2), _, rfl, this⟩
theorem inV_tt : ∀ n : Nat, inV (.bl false) (List.replicate n (V.bl true)) = false
  | 0 => rfl
  | n + 1 => by
    have ih := inV_tt n
    unfold inV at *
    rw [List.replicate_succ, List.any_cons, ih]
    rfl
theorem rep_lc {n i : Nat} (h : i < n) : (List.replicate n (V.bl true))[i]? = some (.bl true) := by rw [List.getElem?_replicate, if_pos h]
theorem kit_anyF {K : PySem.W.Frag} {t a b : Value} (h1 : PySem.W.kitOne K t a = some false) (h2 : PySem.W.kitOne K t b = some false) : PySem.W.kitAny K t [a, b] = some false := by
  unfold PySem.W.kitAny
  rw [h1]
  unfold PySem.W.kitAny
  rw [h2]
  rfl
theorem kit_anyT {K : PySem.W.Frag} {t a b : Value} (h1 : PySem.W.kitOne K t a = some false) (h2 : PySem.W.kitOne K t b = some true) : PySem.W.kitAny K t [a, b] = some true := by
  unfold PySem.W.kitAny
  rw [h1]
  unfold PySem.W.kitAny
  rw [h2]
def ndg (t : List Nat) : List Nat := t.filter fun c => decide (¬ c ∈ digs)
def sg1 (c : Nat) : Str := ⟨#[c]⟩
theorem ndg_step {t : List Nat} {i c : Nat} (h : t[i]? = some c) : ndg (t.take (i + 1)) = ndg (t.take i) ++ (if c ∈ digs then [] else [c]) := by
  unfold ndg
  obtain ⟨hl, rfl⟩ := List.getElem?_eq_some_iff.mp h
  rw [List.take_succ_eq_append_getElem hl, List.filter_append]
  congr 1
  by_cases q : t[i] ∈ digs
  · rw [if_pos q, List.filter_cons, List.filter_nil, decide_eq_false (fun h => h q)]; rfl
  · rw [if_neg q, List.filter_cons, List.filter_nil, decide_eq_true q]; rfl
theorem ndg_nil {t : List Nat} : ndg t = [] ↔ ∀ c ∈ t, c ∈ digs := by
  unfold ndg
  rw [List.filter_eq_nil_iff]
  constructor
  · intro h c hc
    have := h c hc
    simpa using this
  · intro h c hc
    simpa using h c hc
theorem nmG {c : Nat} {r : List Nat} (h2 : ¬ (6 : Int) < ((S (c :: r)).length : Nat)) (h3 : ¬ ((1 : Int) < ((S (c :: r)).length : Nat) ∧ V.str ⟨#[c]⟩ = V.str (Str.ofString "0"))) : nm (c :: r) = decide (((ndg (c :: r)).map sg1) = []) := by
  rw [S_len] at h2 h3
  rw [show decide (((ndg (c :: r)).map sg1) = []) = isD (c :: r) from by
    cases e : isD (c :: r)
    · refine decide_eq_false fun z => ?_
      have := ndg_nil.mp (List.map_eq_nil_iff.mp z)
      have : isD (c :: r) = true := isD_iff.mpr ⟨by simp, fun d hd => digs_range (this d hd)⟩
      rw [e] at this; cases this
    · refine decide_eq_true (List.map_eq_nil_iff.mpr (ndg_nil.mpr fun d hd => digs_of ((isD_iff.mp e).2 d hd)))]
  unfold nm lead
  rw [decide_eq_true (show (c :: r).length ≤ 6 by omega), Bool.and_true]
  have : (decide (1 < (c :: r).length) && decide ((c :: r)[0]? = some 48)) = false := by
    by_cases h1 : 1 < (c :: r).length
    · rw [decide_eq_false (show ¬ (c :: r)[0]? = some 48 from fun z => h3 ⟨by omega, (sgn_iff zero_is).mpr (by simpa using z)⟩), Bool.and_false]
    · rw [decide_eq_false h1, Bool.false_and]
  rw [this, Bool.not_false, Bool.and_true]
theorem nmF2 {t : List Nat} (h2 : (6 : Int) < ((S t).length : Nat)) : nm t = false := nmF (by omega)
theorem nmL {c : Nat} {r : List Nat} (h1 : (1 : Int) < ((S (c :: r)).length : Nat)) (h : V.str ⟨#[c]⟩ = V.str (Str.ofString "0")) : nm (c :: r) = false := by
  rw [S_len] at h1
  have h := (sgn_iff zero_is).mp h
  subst h
  unfold nm lead
  rw [decide_eq_true (show 1 < (48 :: r).length by omega), decide_eq_true (show (48 :: r)[0]? = some 48 from rfl)]
  simp
theorem sIx1 {n : Nat} (h : 1 ≤ n) (P : Prop) : ¬ (HT.sIx n 0 (some 1) = 0 ∧ P) := fun ⟨e, _⟩ => by
  have e : (if (1 : Int) < 0 then ((1 : Int) + n).toNat else min (1 : Int).toNat n) = 0 := e
  rw [if_neg (by decide)] at e
  have : (1 : Int).toNat = 1 := rfl
  omega
theorem cut1 {α : Type} {f : α → V} (x : α) (l : List α) : cutV ((x :: l).map f) (some 1) none = l.map f := by
  rw [cutV_mapG]
  unfold cutG
  have e : HT.sIx (x :: l).length 0 (some 1) = 1 := by
    show (if (1 : Int) < 0 then ((1 : Int) + ((x :: l).length : Nat)).toNat else min (1 : Int).toNat (x :: l).length) = 1
    rw [if_neg (by decide)]
    have : (1 : Int).toNat = 1 := rfl
    rw [List.length_cons]
    omega
  rw [e]
  show ((l.take ((l.length + 1) - 1)).map f) = _
  rw [Nat.add_sub_cancel, List.take_length]
theorem flat_tt : ∀ n : Nat, (List.replicate n (V.bl true)).all flatV = true
  | 0 => rfl
  | n + 1 => by rw [List.replicate_succ, List.all_cons, flat_tt n]; rfl
structure Cd (t : List Nat) : Prop where
  ok : ∀ c ∈ t, c < 0x110000
theorem cd_tx {n : Nat} {z : Str} (h : Tx n z) : Cd (tl z) := ⟨h.ok⟩
theorem cd_one {t : List Nat} (h : Cd t) {c : Nat} (hc : c ∈ t) : PyData.strOk (sg1 c) = true := (tx_one (h.ok c hc)).str
theorem ascii_keys : (PF.all fun p => p.1.cps.toList.all (· < 128)) = true := by decide +kernel
theorem ev_cd {ns : List N} (h : EvOk ns) : Cd (wt ns) := by
  refine ⟨fun c hc => ?_⟩
  by_cases e : c = 32
  · omega
  · obtain ⟨p, hp, hm⟩ := joinL_mem e hc
    obtain ⟨w, ks, its, rfl, hf, hl, hi⟩ := h.ex
    rw [List.map_cons] at hp
    rcases List.mem_cons.mp hp with q | q
    · subst q
      have := List.all_eq_true.mp (List.all_eq_true.mp ascii_keys _ (fk_mem hf)) c hm
      have := of_decide_eq_true this
      omega
    · obtain ⟨n, hn, rfl⟩ := List.mem_map.mp q
      obtain ⟨i, hi2, rfl⟩ := List.getElem_of_mem hn
      have hk : i < (tl ks).length := by omega
      rcases hi i _ _ (List.getElem?_eq_getElem hk) (List.getElem?_eq_getElem hi2) with ⟨_, m, hm2, e2⟩ | ⟨_, t, e2, ht⟩
      · rw [e2, txt_num] at hm
        have := numL_digits m c hm
        omega
      · rw [e2] at hm
        have := ht.ch c hm
        omega
theorem ev_cd2 {ns : List N} (h : EvOk ns) {n : N} (hn : n ∈ ns) : ∀ c ∈ n.txt, c < 0x110000 := by
  intro c hm
  obtain ⟨w, ks, its, rfl, hf, hl, hi⟩ := h.ex
  rcases List.mem_cons.mp hn with q | q
  · subst q
    have := List.all_eq_true.mp (List.all_eq_true.mp ascii_keys _ (fk_mem hf)) c hm
    have := of_decide_eq_true this
    omega
  · obtain ⟨i, hi2, rfl⟩ := List.getElem_of_mem q
    have hk : i < (tl ks).length := by omega
    rcases hi i _ _ (List.getElem?_eq_getElem hk) (List.getElem?_eq_getElem hi2) with ⟨_, m, hm2, e2⟩ | ⟨_, t, e2, ht⟩
    · rw [e2, txt_num] at hm
      have := numL_digits m c hm
      omega
    · rw [e2] at hm
      have := ht.ch c hm
      omega
theorem wt_tx {ns : List N} (h : EvOk ns) : Tx 305 (S (wt ns)) := ⟨by rw [S_len]; exact h.len, (ev_cd h).ok⟩
theorem wsnoc {ns : List N} {n : N} (h : ns ≠ []) : S (TL.joinL [32] ((ns ++ [n]).map N.txt)) = S (TL.joinL [32] (ns.map N.txt)) ++ Str.ofString " " ++ S n.txt := by
  rw [List.map_append, List.map_cons, List.map_nil, joinL_snoc (by simpa using h), EV.blank, S_cat, S_cat, List.append_assoc]
  rfl
theorem wcut {w : List Nat} {its : List N} {i : Nat} {n : N} (h : its[i]? = some n) : N.wrd w :: its.take (i + 1) = (N.wrd w :: its.take i) ++ [n] := by
  obtain ⟨hl, rfl⟩ := List.getElem?_eq_some_iff.mp h
  rw [List.take_succ_eq_append_getElem hl]
  rfl
theorem IL.le {H : Hp} {p : Addr} {n m : Nat} (h : IL H p n) (hm : n ≤ m) : IL H p m := let ⟨ms, a, b⟩ := h.ex; ⟨ms, a, Nat.le_trans b hm⟩
theorem allTx {l : List Str} {b : Nat} (h : l.all (fun z => decide (z.length ≤ b) && z.cps.toList.all (fun c => decide (c < 0x110000))) = true) : ∀ z ∈ l, Tx b z := fun z hz => by
  have := List.all_eq_true.mp h z hz
  rw [Bool.and_eq_true, decide_eq_true_eq, List.all_eq_true] at this
  exact ⟨this.1, fun c hc => of_decide_eq_true (this.2 c hc)⟩
theorem pickS (l : List Str) (b n : Nat) (h : l.length = n) (h0 : 0 < n) (hb : ∀ z ∈ l, Tx b z) (i : Int) : ∃ z : Str, Tx b z ∧ atI (l.map V.str) (i % (n : Nat)) = some (.str z) := by
  obtain ⟨j, hj⟩ : ∃ j : Nat, i % (n : Int) = (j : Int) := ⟨(i % (n : Int)).toNat, by have := Int.emod_nonneg i (show (n : Int) ≠ 0 by omega); omega⟩
  have h2 : i % (n : Int) < n := Int.emod_lt_of_pos _ (by omega)
  have hj2 : j < l.length := by omega
  have hm := List.getElem_mem hj2
  refine ⟨l[j], hb _ hm, ?_⟩
  rw [hj]
  exact atI_nat (by rw [List.getElem?_map, List.getElem?_eq_getElem hj2]; rfl)
theorem sg_tx {z : Str} (h : Sg z) : Tx 1 z := by
  obtain ⟨c, rfl, _, h2⟩ := h.ex
  exact tx_one (show c < 0x110000 by omega)
theorem allTx_snoc {l : List Str} {b : Nat} {z : Str} (h : ∀ z ∈ l, Tx b z) (g : Tx b z) : ∀ y ∈ l ++ [z], Tx b y := fun y hy => by
  rcases List.mem_append.mp hy with q | q
  · exact h y q
  · rw [List.mem_singleton.mp q]; exact g
theorem pickI {i : Int} (h0 : 0 ≤ i) (h1 : i < 6) : ∃ z : Int, (0 ≤ z ∧ z ≤ 999999) ∧ atI [V.int 0, V.int 9, V.int 10, V.int 99999, V.int 100000, V.int 999999] i = some (.int z) := by
  obtain ⟨j, rfl⟩ : ∃ j : Nat, i = (j : Int) := ⟨i.toNat, by omega⟩
  rcases j with _ | _ | _ | _ | _ | _ | j
  · exact ⟨0, by omega, rfl⟩
  · exact ⟨9, by omega, rfl⟩
  · exact ⟨10, by omega, rfl⟩
  · exact ⟨99999, by omega, rfl⟩
  · exact ⟨100000, by omega, rfl⟩
  · exact ⟨999999, by omega, rfl⟩
  · omega
theorem DrawAt.put {H : Hp} {p q L : Addr} {o : HO} (h : DrawAt H p q) (n : L ≠ p) (m : L ≠ q) : DrawAt (upd H L o) p q := by
  obtain ⟨i, sd, ms, a, b, c, d⟩ := h.ex
  exact ⟨i, sd, ms, by rw [upd_ne n.symm]; exact a, by rw [upd_ne m.symm]; exact b, c, d⟩
theorem draw_newq {H : Hp} {p q t : Addr} (P : DrawAt H p q) (h : H t = none) : t ≠ q := fun e => by
  obtain ⟨_, _, _, _, a, _⟩ := P.ex
  rw [e, a] at h; cases h
theorem draw_strq {H : Hp} {p q L : Addr} {z : Str} {r : List V} (P : DrawAt H p q) (e : H L = some (.lst (.str z :: r))) : L ≠ q := by
  obtain ⟨i, sd, ms, a, b, c, d⟩ := P.ex
  rintro rfl
  rw [e] at b
  injection b with b
  injection b with b
  cases ms with
  | nil => cases b
  | cons m ms => rw [List.map_cons] at b; injection b with b1 _; cases b1
theorem forms_ne {H : Hp} {a p pq : Addr} (h : FormsAt H a) (P : DrawAt H p pq) : a ≠ p := by
  rintro rfl
  obtain ⟨xs, e, l, _⟩ := h
  obtain ⟨_, _, _, a, _⟩ := P.ex
  rw [e] at a
  injection a with a
  injection a with a
  rw [a] at l
  cases l
theorem FormsAt.but {H H' : Hp} {a p pq : Addr} (h : FormsAt H a) (P : DrawAt H p pq) (s : SameBut p H H') : FormsAt H' a := by
  have n := forms_ne h P
  obtain ⟨xs, e, l, g⟩ := h
  exact ⟨xs, s _ _ n e, l, fun i q hq => let ⟨T, u, v⟩ := g i q hq; ⟨T, u, s _ _ (draw_ne P v) v⟩⟩
theorem pickF {H : Hp} {a : Addr} {r : Int} (h : FormsAt H a) (h0 : 0 ≤ r) (h1 : r < 13) : ∃ q : List V × Addr × List Nat × Str, H a = some (.lst q.1) ∧ atI q.1 r = some (.ref q.2.1) ∧ H q.2.1 = some (.tup [.str (S q.2.2.1), .str (S ((tl q.2.2.2).map cv))]) ∧ fk (S q.2.2.1) = some q.2.2.2 := by
  obtain ⟨j, rfl⟩ : ∃ j : Nat, r = (j : Int) := ⟨r.toNat, by omega⟩
  obtain ⟨xs, e, l, g⟩ := h
  have hlf : LF.length = 13 := by decide +kernel
  have hj : j < LF.length := by omega
  obtain ⟨ks, hk, hc⟩ := lf_fk _ (List.getElem_mem hj)
  obtain ⟨T, u, v⟩ := g j _ (List.getElem?_eq_getElem hj)
  have e1 : S (tl (LF[j]).1) = (LF[j]).1 := mk_tl _
  refine ⟨(xs, T, tl (LF[j]).1, ks), e, atI_nat u, ?_, ?_⟩
  · show H T = some (.tup [.str (S (tl (LF[j]).1)), .str (S ((tl ks).map cv))])
    rw [e1, v, ← hc]; rfl
  · show fk (S (tl (LF[j]).1)) = some ks
    rw [e1]; exact hk
theorem cv_i {k : Nat} : (V.str ⟨#[cv k]⟩ = V.str (Str.ofString "i")) ↔ k = 78 := (sgn_iff (show Str.ofString "i" = ⟨#[105]⟩ by decide +kernel)).trans (by unfold cv; split <;> simp_all)
structure EvSo (H : Hp) (L : Addr) (w : List Nat) (ks : Str) (i : Nat) : Prop where
  ex : ∃ its : List N, H L = some (.lst (.str (S w) :: its.map flv)) ∧ its.length = i ∧ ∀ (j k : Nat) (n : N), (tl ks)[j]? = some k → its[j]? = some n → ItOk k n
theorem so_snoc {P : Nat → N → Prop} {ks : List Nat} {its : List N} {i k : Nat} {n : N} (hl : its.length = i) (h : ∀ (j k : Nat) (n : N), ks[j]? = some k → its[j]? = some n → P k n) (hk : ks[i]? = some k) (hn : P k n) : ∀ (j k : Nat) (m : N), ks[j]? = some k → (its ++ [n])[j]? = some m → P k m := by
  intro j k2 m hj hm
  by_cases e : j < its.length
  · rw [List.getElem?_append_left e] at hm; exact h j k2 m hj hm
  · rw [List.getElem?_append_right (by omega)] at hm
    have : j - its.length = 0 := by
      have := (List.getElem?_eq_some_iff.mp hm).1
      simp at this; omega
    rw [this] at hm
    have : j = i := by omega
    subst this
    rw [hk] at hj
    cases hj; cases hm; exact hn
theorem EvSo.mono {H H' : Hp} {L p : Addr} {w : List Nat} {ks : Str} {i : Nat} (h : EvSo H L w ks i) (s : SameBut p H H') (n : L ≠ p) : EvSo H' L w ks i := let ⟨its, a, b⟩ := h.ex; ⟨its, s _ _ n a, b⟩
structure FIL (H : Hp) (D : Addr) (w : List Nat) (i : Nat) : Prop where
  ex : ∃ qs : List (Addr × Str × Str), H D = some (.lst ((qs.map (·.1)).map V.ref)) ∧ qs.map (·.2) = (LF.take i).filter (fun p => decide (p.1 = S w)) ∧ ∀ q ∈ qs, H q.1 = some (.tup [.str q.2.1, .str q.2.2])
theorem lf_step {i : Nat} {q : Str × Str} {P : Str × Str → Bool} (h : LF[i]? = some q) : (LF.take (i + 1)).filter P = (LF.take i).filter P ++ (if P q = true then [q] else []) := by
  rw [List.take_succ, h, List.filter_append]
  congr 1
  show List.filter P [q] = _
  rw [List.filter_cons, List.filter_nil]
theorem mem_joinL {c : Nat} {s p : List Nat} (hc : c ∈ p) : ∀ {ts : List (List Nat)}, p ∈ ts → c ∈ TL.joinL s ts
  | [], h => by cases h
  | [q], h => by rw [List.mem_singleton.mp h] at hc; exact hc
  | q :: r :: ts, h => by
    show c ∈ q ++ (s ++ TL.joinL s (r :: ts))
    rcases List.mem_cons.mp h with e | e
    · subst e; exact List.mem_append_left _ hc
    · exact List.mem_append_right _ (List.mem_append_right _ (mem_joinL hc e))
theorem cv_n {k : Nat} : (V.str ⟨#[cv k]⟩ = V.str (Str.ofString "n")) ↔ k ≠ 78 := (sgn_iff (show Str.ofString "n" = ⟨#[110]⟩ by decide +kernel)).trans (by unfold cv; split <;> simp_all)
structure ItW (H : Hp) (L : Addr) (w : List Nat) (ks : List Nat) (ts : List (List Nat)) (i : Nat) : Prop where
  ex : ∃ ns, H L = some (.lst (.str (S w) :: ns.map flv)) ∧ Sofar ks ts i ns
theorem emp_in {w : List Nat} {ts : List (List Nat)} (h : Str.ofString "" ∈ S w :: ts.map S) : [] ∈ w :: ts := by
  have e : Str.ofString "" = S [] := by decide +kernel
  rw [e] at h
  rcases List.mem_cons.mp h with q | q
  · rw [S_inj q]; exact List.mem_cons_self
  · obtain ⟨u, hu, e⟩ := List.mem_map.mp q
    rw [← S_inj e]; exact List.mem_cons_of_mem _ hu
theorem in_emp {w u : List Nat} {ts : List (List Nat)} (h : ¬ Str.ofString "" ∈ S w :: ts.map S) (hu : u ∈ ts) : u ≠ [] := fun e => h (by
  have e2 : Str.ofString "" = S [] := by decide +kernel
  rw [e2, ← e]; exact List.mem_cons_of_mem _ (List.mem_map_of_mem hu))
theorem shOne {x y : Str} (hx : PyData.strOk x = true) (hy : PyData.strOk y = true) : SeqAt.shaped (.list [.tuple [.str x, .str y]]) = true := by
  have e : (PyData.list [.tuple [.str x, .str y]]).canLay0 = true := by simp [PyData.canLay0, PyData.canLayAll0, hx, hy]
  have d : (PyData.list [.tuple [.str x, .str y]]).depth ≤ 64 := by
    simp [PyData.depth, PyData.depthAll]
  unfold SeqAt.shaped
  rw [e, decide_eq_true d]; rfl
theorem evOne {x y : Str} : PyData.eqv (.list [.tuple [.str x, .str y]]) (.list []) = false := by simp [PyData.eqv, PyData.eqvAll]
theorem ok_S {t : List Nat} (h : ∀ c ∈ t, c < 0x110000) : PyData.strOk (S t) = true := Tx.str (n := t.length) ⟨by rw [S_len]; exact Nat.le_refl _, h⟩
theorem cv_cd {ks : Str} : ∀ c ∈ (tl ks).map cv, c < 0x110000 := by
  intro c hc
  obtain ⟨k, _, rfl⟩ := List.mem_map.mp hc
  unfold cv; split <;> omega
theorem join1 {t : List Nat} : Txt.join (Str.ofString "") (t.map sg1) = S t := by
  have e : t.map sg1 = (t.map fun c => [c]).map S := by rw [List.map_map]; rfl
  rw [e, show Str.ofString "" = S [] from by decide +kernel, join_S]
  congr 1
  induction t with
  | nil => rfl
  | cons c t ih =>
    cases t with
    | nil => rfl
    | cons d t =>
      have ih := ih (by rw [List.map_map]; rfl)
      show [c] ++ ([] ++ TL.joinL [] ((d :: t).map fun c => [c])) = _
      rw [ih]; rfl
structure NmL (H : Hp) (D : Addr) (j : Nat) : Prop where
  ex : ∃ t : List Nat, H D = some (.lst ((t.map sg1).map V.str)) ∧ t.length = j ∧ ∀ c ∈ t, 33 ≤ c ∧ c ≤ 126
theorem cd_of {n : Nat} {u : List Nat} (h : Tx n (S u)) : Cd u := ⟨h.ok⟩
theorem tx_le {n : Nat} {u : List Nat} (h : Tx n (S u)) : u.length ≤ n := by have := h.len; rw [S_len] at this; exact this
theorem putF_len (n : Str) (v : V) : ∀ fs : List (Str × V), (putF n v fs).length ≤ fs.length + 1
  | [] => Nat.le_refl _
  | (x, y) :: fs => by
    have ih := putF_len n v fs
    unfold putF
    split
    · simp
    · simp only [List.length_cons]; omega
theorem put1 {n : Str} {v : V} : (putF n v []).length < 1000 := Nat.lt_of_le_of_lt (putF_len n v []) (by decide)
/-- an event: where it stands, and its items -/
abbrev Ev := Addr × List N
def rfs (l : List Ev) : List V := l.map fun q => V.ref q.1
theorem rfs_len {l : List Ev} : (rfs l).length = l.length := List.length_map ..
def EvAll (H : Hp) (l : List Ev) : Prop := ∀ q ∈ l, H q.1 = some (.tup (q.2.map flv))
theorem EvAll.mono {H H' : Hp} {l : List Ev} (h : EvAll H l) (s : Same H H') : EvAll H' l := fun q hq => s _ _ (h q hq)
theorem EvAll.put {H : Hp} {l : List Ev} {L : Addr} {xs : List V} {o : HO} (h : EvAll H l) (e : H L = some (.lst xs)) : EvAll (upd H L o) l := fun q hq => by
  rw [upd_ne (fun z => by have := h q hq; rw [z, e] at this; cases this)]
  exact h q hq
theorem EvAll.snoc {H : Hp} {l : List Ev} {q : Ev} (h : EvAll H l) (e : H q.1 = some (.tup (q.2.map flv))) : EvAll H (l ++ [q]) := fun r hr => by
  rcases List.mem_append.mp hr with u | u
  · exact h r u
  · rw [List.mem_singleton.mp u]; exact e
def bfl (t : Addr) : List (Str × V) := putF "events" (.ref t) []
theorem bf_events (t : Addr) : (bfl t).lookup ("events" : Str) = some (.ref t) := by unfold bfl; rw [lookup_putF, if_pos rfl]
structure BookAt (A : Adr) (H : Hp) (b : Addr) (l : List Ev) : Prop where
  ex : ∃ dx t, H b = some (.ins A.c_Book dx (bfl t)) ∧ H t = some (.tup (rfs l))
theorem BookAt.mono {A : Adr} {H H' : Hp} {b : Addr} {l : List Ev} (h : BookAt A H b l) (s : Same H H') : BookAt A H' b l := let ⟨dx, t, a, b⟩ := h.ex; ⟨dx, t, s _ _ a, s _ _ b⟩
theorem same_mk {H H' : Hp} {x dx : Addr} {o1 o2 : HO} (hx : H x = none) (hd : H dx = none) (s : SameBut x (upd (upd H dx o1) x o2) H') : Same H H' := fun a o e => by
  have ax : a ≠ x := fun z => by rw [z, hx] at e; cases e
  have ad : a ≠ dx := fun z => by rw [z, hd] at e; cases e
  exact s a o ax (by rw [upd_ne ax, upd_ne ad]; exact e)
def NewB (A : Adr) (Q : VK) (H : Hp) (l : List Ev) : Prop := ∀ b H', Same H H' → BookAt A H' b l → Q (.ref b) H'
def NoEv (A : Adr) (E : XK) (H : Hp) (i : Int) : Prop := ∀ d H', Same H H' → H' d = some (.xd [(("subject" : Str), .int i)]) → E (.ref A.c_NoEvent) (some d) H'
def spBI (A : Adr) : Sp := fun vs H Q _ => ∃ (p dx a : Addr) (l : List Ev), vs = [.ref p, .ref a] ∧ H p = some (.ins A.c_Book dx []) ∧ (H a = some (.lst (rfs l)) ∨ H a = some (.tup (rfs l))) ∧ l.length ≤ 6000 ∧ ∀ t H', SameBut p H H' → H' t = some (.tup (rfs l)) → H' p = some (.ins A.c_Book dx (bfl t)) → Q .non H'
theorem ev_lst {H : Hp} {a b : Addr} {l m : List Ev} (ha : H a = some (.lst (rfs l))) (hb : H b = some (.lst (rfs m))) (hl : EvAll H l) (hm : EvAll H m) (e : l.map (·.2) = m.map (·.2)) (hn : l.length ≤ 1000) (hk : ∀ q ∈ l, q.2.length ≤ 100) : Eqv H 2 (.ref a) (.ref b) := by
  have hlen : l.length = m.length := by have := congrArg List.length e; rw [List.length_map, List.length_map] at this; exact this
  refine .lst ha hb (by rw [rfs_len, rfs_len]; exact hlen) (by rw [rfs_len]; exact hn) fun i x y hx hy => ?_
  obtain ⟨q, hq, rfl⟩ := getMapG hx
  obtain ⟨r, hr, rfl⟩ := getMapG hy
  have e2 : q.2 = r.2 := by
    have h1 : (l.map (·.2))[i]? = some q.2 := by rw [List.getElem?_map, hq]; rfl
    rw [e, List.getElem?_map, hr] at h1
    exact (Option.some.inj h1).symm
  exact eqvEv (hl q (List.mem_of_getElem? hq)) (by rw [e2]; exact hm r (List.mem_of_getElem? hr)) (hk q (List.mem_of_getElem? hq))
/-- short events -/
structure EvS (ns : List N) : Prop where
  ok : EvOk ns
  short : ∀ n ∈ ns, n.txt.length ≤ 10
def EvsS (l : List Ev) : Prop := ∀ q ∈ l, EvS q.2
def tx2 (l : List Ev) : List Nat := TL.joinL [10] (l.map fun q => wt q.2)
theorem wt_short {ns : List N} (h : EvS ns) : (wt ns).length ≤ 55 := by
  have := joinL_len (m := 10) (ts := ns.map N.txt) (by
    intro p hp
    obtain ⟨n, hn, rfl⟩ := List.mem_map.mp hp
    exact h.short n hn)
  rw [List.length_map] at this
  have h5 := h.ok.txts.2.2
  have := Nat.mul_le_mul_right 11 h5
  show (TL.joinL [32] (ns.map N.txt)).length ≤ 55
  omega
theorem join_tx2 {l : List Ev} : Txt.join (Str.ofString "
") ((l.map fun q => wt q.2).map S) = S (tx2 l) := by rw [EV.newl, join_S]; rfl
theorem tx2_eq {l m : List Ev} (e : l.map (·.2) = m.map (·.2)) : tx2 l = tx2 m := by
  unfold tx2
  rw [show (l.map fun q => wt q.2) = (l.map (·.2)).map wt by rw [List.map_map]; rfl, e, List.map_map]; rfl
theorem sum2 {l : List Ev} (h : EvsS l) (hl : l.length ≤ 80) {s : Str} (hs : s.length ≤ 1) : (((l.map fun q => wt q.2).map S).map (·.length)).sum + ((l.map fun q => wt q.2).map S).length * s.length ≤ 16777216 :=
  sum60 (fun z hz => by
    obtain ⟨t, ht, rfl⟩ := List.mem_map.mp hz
    obtain ⟨q, hq, rfl⟩ := List.mem_map.mp ht
    rw [S_len]
    have := wt_short (h q hq)
    omega) (by rw [List.length_map, List.length_map]; omega) hs
structure IdxL (H : Hp) (D : Addr) (j : Nat) : Prop where
  ex : ∃ ms : List Int, H D = some (.lst (ms.map V.int)) ∧ ms.length = j ∧ ∀ m ∈ ms, 0 ≤ m ∧ m < 93
theorem sgn_at {z : Str} (hl : z.length = 93) (hk : z.cps.toList.all (fun c => decide (33 ≤ c) && decide (c ≤ 126)) = true) {i : Int} (h0 : 0 ≤ i) (h1 : i < 93) : ∃ c, atI z.cps.toList i = some c ∧ 33 ≤ c ∧ c ≤ 126 := by
  have hl2 : z.cps.toList.length = 93 := by rw [Array.length_toList]; exact hl
  obtain ⟨j, rfl⟩ : ∃ j : Nat, i = (j : Int) := ⟨i.toNat, by omega⟩
  have hj2 : j < z.cps.toList.length := by omega
  have := List.all_eq_true.mp hk _ (List.getElem_mem hj2)
  rw [Bool.and_eq_true, decide_eq_true_eq, decide_eq_true_eq] at this
  exact ⟨z.cps.toList[j], atI_nat (List.getElem?_eq_getElem hj2), this⟩
structure EvSoS (H : Hp) (L : Addr) (w : List Nat) (ks : Str) (i : Nat) : Prop where
  ex : ∃ its : List N, H L = some (.lst (.str (S w) :: its.map flv)) ∧ its.length = i ∧ (∀ (j k : Nat) (n : N), (tl ks)[j]? = some k → its[j]? = some n → ItOk k n) ∧ ∀ n ∈ its, n.txt.length ≤ 10
theorem short_snoc {its : List N} {n : N} (h : ∀ n ∈ its, n.txt.length ≤ 10) (g : n.txt.length ≤ 10) : ∀ m ∈ its ++ [n], m.txt.length ≤ 10 := fun m hm => by
  rcases List.mem_append.mp hm with q | q
  · exact h m q
  · rw [List.mem_singleton.mp q]; exact g
theorem pickM {i : Int} (h0 : 0 ≤ i) (h1 : i < 1000) : ∃ z : Int, (0 ≤ z ∧ z ≤ 999999) ∧ atI [V.int 0, V.int 9, V.int i, V.int 100000, V.int (i * 100), V.int 10] (i % 6) = some (.int z) := by
  obtain ⟨j, hj⟩ : ∃ j : Nat, i % 6 = (j : Int) := ⟨(i % 6).toNat, by omega⟩
  rw [hj]
  rcases j with _ | _ | _ | _ | _ | _ | j
  · exact ⟨0, by omega, rfl⟩
  · exact ⟨9, by omega, rfl⟩
  · exact ⟨i, by omega, rfl⟩
  · exact ⟨100000, by omega, rfl⟩
  · exact ⟨i * 100, by omega, rfl⟩
  · exact ⟨10, by omega, rfl⟩
  · omega
structure Sh (z : Str) : Prop where
  ex : ∃ t, z = S t ∧ NmOk t ∧ t.length ≤ 10
def spWord : Sp := fun vs H Q _ => ∃ i : Int, vs = [.int i] ∧ 0 ≤ i ∧ i < 1000 ∧ ∀ (z : Str) H', Sh z → Same H H' → Q (.str z) H'
def spEventS : Sp := fun vs H Q _ => ∃ (p pq : Addr), vs = [.ref p] ∧ DrawAt H p pq ∧ ∀ a ns H', EvS ns → H' a = some (.tup (ns.map flv)) → DrawAt H' p pq → SameBut p H H' → Q (.ref a) H'
def spBText (A : Adr) : Sp := fun vs H Q _ => ∃ (b : Addr) (l : List Ev), vs = [.ref b] ∧ BookAt A H b l ∧ EvAll H l ∧ EvsS l ∧ l.length ≤ 80 ∧ ∀ H', Same H H' → Q (.str (S (tx2 l))) H'
def spLText : Sp := fun vs H Q _ => ∃ (a : Addr) (l : List Ev), vs = [.ref a] ∧ H a = some (.lst (rfs l)) ∧ EvAll H l ∧ EvsS l ∧ l.length ≤ 80 ∧ ∀ H', Same H H' → Q (.str (S (tx2 l))) H'
noncomputable instance decN : DecidableEq N := fun _ _ => Classical.propDecidable _
def dN : N → PyData
  | .wrd w => .str (S w)
  | .num i => .int i
  | _ => .none
structure Flat (ns : List N) : Prop where
  f : ∀ n ∈ ns, (∃ w, n = .wrd w ∧ Cd w) ∨ ∃ i, n = .num i
theorem Flat.tail {n : N} {ns : List N} (h : Flat (n :: ns)) : Flat ns := ⟨fun x hx => h.f x (List.mem_cons_of_mem _ hx)⟩
theorem dpN {K : PySem.W.Frag} {H : Hp} : ∀ ns : List N, DpAll K H (ns.map flv) (ns.map dN)
  | [] => .nil
  | n :: ns => by
    refine .cons ?_ (dpN ns)
    cases n with
    | wrd w => exact .str _
    | num i => exact .int _
    | non => exact .non
    | tup l => exact .non
def dE (l : List Ev) : List PyData := l.map fun q => .tuple (q.2.map dN)
theorem dpE {K : PySem.W.Frag} {H : Hp} : ∀ {l : List Ev}, EvAll H l → DpAll K H (rfs l) (dE l)
  | [], _ => .nil
  | q :: l, h => .cons (.tup (SqT.of (h q List.mem_cons_self)) (dpN q.2)) (dpE (l := l) fun x hx => h x (List.mem_cons_of_mem _ hx))
theorem eqv_n {a b : N} (ha : (∃ w, a = .wrd w ∧ Cd w) ∨ ∃ i, a = .num i) (hb : (∃ w, b = .wrd w ∧ Cd w) ∨ ∃ i, b = .num i) : PyData.eqv (dN a) (dN b) = decide (a = b) := by
  rcases ha with ⟨w, rfl, _⟩ | ⟨i, rfl⟩ <;> rcases hb with ⟨u, rfl, _⟩ | ⟨j, rfl⟩
  · show PyData.eqv (.str (S w)) (.str (S u)) = _
    by_cases h : w = u
    · subst h; simp [PyData.eqv]
    · have : ¬ S w = S u := fun e => h (S_inj e)
      simp [PyData.eqv, h, this]
  · simp [dN, PyData.eqv]
  · simp [dN, PyData.eqv]
  · show PyData.eqv (.int i) (.int j) = _
    by_cases h : i = j
    · subst h; simp [PyData.eqv]
    · simp [PyData.eqv, h]
theorem eqvN : ∀ {ns ms : List N}, Flat ns → Flat ms → PyData.eqvAll (ns.map dN) (ms.map dN) = decide (ns = ms)
  | [], [], _, _ => by simp [PyData.eqvAll]
  | [], _ :: _, _, _ => by simp [PyData.eqvAll]
  | _ :: _, [], _, _ => by simp [PyData.eqvAll]
  | a :: as, b :: bs, h, g => by
    have ih := eqvN h.tail g.tail
    have e := eqv_n (h.f a List.mem_cons_self) (g.f b List.mem_cons_self)
    simp only [List.map_cons, PyData.eqvAll, ih, e]
    by_cases h1 : a = b <;> by_cases h2 : as = bs <;> simp [h1, h2]
def FlatS (l : List Ev) : Prop := ∀ q ∈ l, Flat q.2
theorem eqvE : ∀ {l m : List Ev}, FlatS l → FlatS m → PyData.eqvAll (dE l) (dE m) = decide (l.map (·.2) = m.map (·.2))
  | [], [], _, _ => by simp [PyData.eqvAll, dE]
  | [], _ :: _, _, _ => by simp [PyData.eqvAll, dE]
  | _ :: _, [], _, _ => by simp [PyData.eqvAll, dE]
  | a :: as, b :: bs, h, g => by
    have ih := eqvE (l := as) (m := bs) (fun x hx => h x (List.mem_cons_of_mem _ hx)) (fun x hx => g x (List.mem_cons_of_mem _ hx))
    have e := eqvN (h a List.mem_cons_self) (g b List.mem_cons_self)
    unfold dE at ih ⊢
    simp only [List.map_cons, PyData.eqvAll, ih, PyData.eqv, e]
    by_cases h1 : a.2 = b.2 <;> by_cases h2 : as.map (·.2) = bs.map (·.2) <;> simp [h1, h2]
theorem eqvT2 {l m : List Ev} (h : FlatS l) (g : FlatS m) : PyData.eqv (.tuple (dE l)) (.tuple (dE m)) = decide (l.map (·.2) = m.map (·.2)) := by simp only [PyData.eqv]; exact eqvE h g
theorem eqvL2 {l m : List Ev} (h : FlatS l) (g : FlatS m) : PyData.eqv (.list (dE l)) (.list (dE m)) = decide (l.map (·.2) = m.map (·.2)) := by simp only [PyData.eqv]; exact eqvE h g
theorem layN : ∀ {ns : List N}, Flat ns → PyData.canLayAll0 (ns.map dN) = true ∧ PyData.depthAll (ns.map dN) = 0
  | [], _ => ⟨rfl, rfl⟩
  | n :: ns, h => by
    obtain ⟨i1, i2⟩ := layN h.tail
    rcases h.f n List.mem_cons_self with ⟨w, rfl, hw⟩ | ⟨i, rfl⟩
    · have := ok_S hw.ok
      exact ⟨by simp [dN, PyData.canLay0, PyData.canLayAll0, this, i1], by simp [dN, PyData.depth, PyData.depthAll, i2]⟩
    · exact ⟨by simp [dN, PyData.canLay0, PyData.canLayAll0, i1], by simp [dN, PyData.depth, PyData.depthAll, i2]⟩
theorem layE : ∀ {l : List Ev}, FlatS l → PyData.canLayAll0 (dE l) = true ∧ PyData.depthAll (dE l) ≤ 1
  | [], _ => ⟨rfl, by simp [dE, PyData.depthAll]⟩
  | q :: l, h => by
    obtain ⟨i1, i2⟩ := layE (l := l) fun x hx => h x (List.mem_cons_of_mem _ hx)
    obtain ⟨j1, j2⟩ := layN (h q List.mem_cons_self)
    unfold dE at i1 i2 ⊢
    refine ⟨by simp [PyData.canLay0, PyData.canLayAll0, i1, j1], ?_⟩
    simp only [List.map_cons, PyData.depthAll, PyData.depth, j2]
    omega
theorem shE {l : List Ev} (h : FlatS l) : SeqAt.shaped (.tuple (dE l)) = true := by
  obtain ⟨i1, i2⟩ := layE h
  have d : (PyData.tuple (dE l)).depth ≤ 64 := by simp only [PyData.depth]; omega
  have c : (PyData.tuple (dE l)).canLay0 = true := by simp only [PyData.canLay0]; exact i1
  unfold SeqAt.shaped
  rw [c, decide_eq_true d]; rfl
theorem shEL {l : List Ev} (h : FlatS l) : SeqAt.shaped (.list (dE l)) = true := by
  obtain ⟨i1, i2⟩ := layE h
  have d : (PyData.list (dE l)).depth ≤ 64 := by simp only [PyData.depth]; omega
  have c : (PyData.list (dE l)).canLay0 = true := by simp only [PyData.canLay0]; exact i1
  unfold SeqAt.shaped
  rw [c, decide_eq_true d]; rfl
theorem flat_ev {ns : List N} (h : EvOk ns) : Flat ns := ⟨fun n hn => by
  rcases ev_flat h n hn with ⟨w, rfl⟩ | ⟨m, _, rfl⟩
  · exact .inl ⟨w, rfl, ⟨ev_cd2 h hn⟩⟩
  · exact .inr ⟨_, rfl⟩⟩
def spBEq (A : Adr) : Sp := fun vs H Q _ => ∃ (a b : Addr) (l m : List Ev), vs = [.ref a, .ref b] ∧ BookAt A H a l ∧ BookAt A H b m ∧ EvAll H l ∧ EvAll H m ∧ FlatS l ∧ FlatS m ∧ Q (.bl (decide (l.map (·.2) = m.map (·.2)))) H
def nls (t : List Nat) : List (List Nat) := TL.spl [10] 0 [] t
theorem nls_split (t : List Nat) : Txt.split (S t) (Str.ofString "
") = (nls t).map S := by
  rw [EV.newl]
  exact SX.split_S (a := t) (b := [10]) (by simp) (by decide)
theorem nls_join (t : List Nat) : TL.joinL [10] (nls t) = t := by
  have j := StrLaws.join_split (S t) (Str.ofString "
")
  rw [nls_split] at j
  have k := congrArg TL.tl j
  rw [TL.tl_join, map_S_tl] at k
  have s1 : TL.tl (Str.ofString "
") = [10] := by rw [EV.newl]
  rw [s1] at k
  exact k
theorem piece_len {s : List Nat} : ∀ {ts : List (List Nat)} {p : List Nat}, p ∈ ts → p.length ≤ (TL.joinL s ts).length
  | [], _, h => by cases h
  | [q], p, h => by rw [List.mem_singleton.mp h]; exact Nat.le_refl _
  | q :: r :: ts, p, h => by
    show p.length ≤ (q ++ (s ++ TL.joinL s (r :: ts))).length
    rw [List.length_append, List.length_append]
    rcases List.mem_cons.mp h with e | e
    · rw [e]; omega
    · have := piece_len (s := s) e; omega
theorem piece_cnt {c : Nat} : ∀ {ts : List (List Nat)}, ts.length ≤ (TL.joinL [c] ts).length + 1
  | [] => Nat.zero_le _
  | [q] => by show 1 ≤ q.length + 1; omega
  | q :: r :: ts => by
    have ih := piece_cnt (c := c) (ts := r :: ts)
    show ts.length + 1 + 1 ≤ (q ++ ([c] ++ TL.joinL [c] (r :: ts))).length + 1
    rw [List.length_append, List.length_append]
    rw [List.length_cons] at ih
    simp only [List.length_cons, List.length_nil]
    omega
def LS (t : List Nat) : List (List Nat) := if t = [] then [] else nls t
theorem ls_fine {t u : List Nat} (h : u ∈ LS t) : u.length ≤ t.length ∧ ∀ c ∈ u, c ∈ t := by
  unfold LS at h
  split at h
  · cases h
  · refine ⟨?_, fun c hc => ?_⟩
    · have := piece_len (s := [10]) h
      rw [nls_join] at this; exact this
    · have := mem_joinL (s := [10]) hc h
      rw [nls_join] at this; exact this
theorem ls_cnt {t : List Nat} : (LS t).length ≤ t.length + 1 := by
  unfold LS
  split
  · exact Nat.zero_le _
  · have := piece_cnt (c := 10) (ts := nls t)
    rw [nls_join] at this; exact this
structure All2 (L : List (List Nat)) (es : List (List N)) : Prop where
  len : es.length = L.length
  pos : ∀ (i : Nat) (l : List Nat) (ns : List N), L[i]? = some l → es[i]? = some ns → rdE l = some ns
theorem joinL_low {m c : Nat} : ∀ {ts : List (List Nat)}, (∀ p ∈ ts, m ≤ p.length) → ts.length * (m + 1) ≤ (TL.joinL [c] ts).length + 1
  | [], _ => by simp
  | [p], h => by
    have := h p List.mem_cons_self
    show 1 * (m + 1) ≤ p.length + 1
    omega
  | p :: q :: r, h => by
    have h1 := h p List.mem_cons_self
    have ih := joinL_low (m := m) (c := c) (ts := q :: r) fun x hx => h x (List.mem_cons_of_mem _ hx)
    show (r.length + 1 + 1) * (m + 1) ≤ (p ++ ([c] ++ TL.joinL [c] (q :: r))).length + 1
    rw [List.length_append, List.length_append, Nat.add_mul]
    rw [List.length_cons] at ih
    simp only [List.length_cons, List.length_nil]
    omega
theorem pf_long : (PF.all fun p => decide (4 ≤ p.1.length)) = true := by decide +kernel
theorem rd_long {u : List Nat} {ns : List N} (h : rdE u = some ns) : 4 ≤ u.length := by
  cases e : parts u with
  | nil => exact absurd e (parts_ne u)
  | cons w ts =>
    rw [rdE_cons e] at h
    cases hf : fk (S w) with
    | none => rw [hf] at h; cases h
    | some ks =>
      have := of_decide_eq_true (List.all_eq_true.mp pf_long _ (fk_mem hf))
      have h4 : 4 ≤ w.length := by rw [← S_len]; exact this
      have := parts_len u w (by rw [e]; exact List.mem_cons_self)
      omega
theorem all2_len {t : List Nat} {es : List (List N)} (h : All2 (LS t) es) : es.length * 5 ≤ t.length + 1 := by
  rw [h.len]
  have key : ∀ p ∈ LS t, 4 ≤ p.length := fun p hp => by
    obtain ⟨i, hi, rfl⟩ := List.getElem_of_mem hp
    exact rd_long (h.pos i _ _ (List.getElem?_eq_getElem hi) (List.getElem?_eq_getElem (by rw [h.len]; exact hi)))
  unfold LS at key ⊢
  split
  · simp
  · rename_i h0
    rw [if_neg h0] at key
    have := joinL_low (m := 4) (c := 10) key
    rw [nls_join] at this
    exact this
structure FBad (L : List (List Nat)) (j : Nat) : Prop where
  ex : ∃ l, L[j]? = some l ∧ rdE l = none
  pre : ∀ (i : Nat) (l : List Nat), i < j → L[i]? = some l → rdE l ≠ none
inductive RB (L : List (List Nat)) : Sum Nat (List (List N)) → Prop
  | bad {j : Nat} : FBad L j → RB L (.inl j)
  | all {es : List (List N)} : All2 L es → RB L (.inr es)
theorem no_both {L : List (List Nat)} {es : List (List N)} {j : Nat} (a : All2 L es) (b : FBad L j) : False := by
  obtain ⟨l, hl, hn⟩ := b.ex
  have hj := (List.getElem?_eq_some_iff.mp hl).1
  have := a.pos j l _ hl (List.getElem?_eq_getElem (by rw [a.len]; exact hj))
  rw [hn] at this; cases this
theorem RB.isAll {L : List (List Nat)} {es : List (List N)} {r : Sum Nat (List (List N))} (h : RB L r) (a : All2 L es) : r = .inr es := by
  cases h with
  | bad b => exact (no_both a b).elim
  | all b =>
    congr 1
    rename_i fs
    refine List.ext_getElem? fun i => ?_
    by_cases hi : i < L.length
    · have e1 := a.pos i _ _ (List.getElem?_eq_getElem hi) (List.getElem?_eq_getElem (by rw [a.len]; exact hi))
      have e2 := b.pos i _ _ (List.getElem?_eq_getElem hi) (List.getElem?_eq_getElem (by rw [b.len]; exact hi))
      rw [e1] at e2
      rw [List.getElem?_eq_getElem (by rw [b.len]; exact hi), List.getElem?_eq_getElem (by rw [a.len]; exact hi)]
      exact e2.symm
    · rw [List.getElem?_eq_none (by rw [b.len]; omega), List.getElem?_eq_none (by rw [a.len]; omega)]
theorem RB.isBad {L : List (List Nat)} {j : Nat} {r : Sum Nat (List (List N))} (h : RB L r) (a : FBad L j) : r = .inl j := by
  cases h with
  | all b => exact (no_both b a).elim
  | bad b =>
    rename_i i
    obtain ⟨l, hl, hn⟩ := a.ex
    obtain ⟨u, hu, hm⟩ := b.ex
    have h1 : ¬ i < j := fun q => a.pre i u q hu hm
    have h2 : ¬ j < i := fun q => b.pre j l q hl hn
    congr 1
    omega
structure BkSo (H : Hp) (L : Addr) (ls : List (List Nat)) (i : Nat) : Prop where
  ex : ∃ l : List Ev, H L = some (.lst (rfs l)) ∧ EvAll H l ∧ l.length = i ∧ ∀ (j : Nat) (u : List Nat) (q : Ev), ls[j]? = some u → l[j]? = some q → rdE u = some q.2
theorem so_bad {ls : List (List Nat)} {l : List Ev} {i : Nat} {u : List Nat} (hl : l.length = i) (h : ∀ (j : Nat) (u : List Nat) (q : Ev), ls[j]? = some u → l[j]? = some q → rdE u = some q.2) (hu : ls[i]? = some u) (hn : rdE u = none) : FBad ls i :=
  ⟨⟨u, hu, hn⟩, fun j v hj hv e => by
    have := h j v _ hv (List.getElem?_eq_getElem (by omega))
    rw [e] at this; cases this⟩
theorem so_all {ls : List (List Nat)} {l : List Ev} (hl : l.length = ls.length) (h : ∀ (j : Nat) (u : List Nat) (q : Ev), ls[j]? = some u → l[j]? = some q → rdE u = some q.2) : All2 ls (l.map (·.2)) :=
  ⟨by rw [List.length_map]; exact hl, fun i u ns hu hn => by
    obtain ⟨q, hq, rfl⟩ := getMapG hn
    exact h i u q hu hq⟩
theorem so_snoc2 {ls : List (List Nat)} {l : List Ev} {i : Nat} {u : List Nat} {q : Ev} (hl : l.length = i) (h : ∀ (j : Nat) (u : List Nat) (q : Ev), ls[j]? = some u → l[j]? = some q → rdE u = some q.2) (hu : ls[i]? = some u) (hq : rdE u = some q.2) : ∀ (j : Nat) (u : List Nat) (r : Ev), ls[j]? = some u → (l ++ [q])[j]? = some r → rdE u = some r.2 := by
  intro j v r hv hr
  by_cases e : j < l.length
  · rw [List.getElem?_append_left e] at hr; exact h j v r hv hr
  · rw [List.getElem?_append_right (by omega)] at hr
    have h0 : j - l.length = 0 := by
      have := (List.getElem?_eq_some_iff.mp hr).1
      simp at this; omega
    rw [h0] at hr
    have : j = i := by omega
    subst this
    rw [hu] at hv
    cases hv; cases hr; exact hq
def BadLn (A : Adr) (E : XK) (H : Hp) (i : Int) : Prop := ∀ d H', Same H H' → H' d = some (.xd [(("subject" : Str), .int i)]) → E (.ref A.c_BadLine) (some d) H'
def FinB (A : Adr) (Q : VK) (E : XK) (H : Hp) : Sum Nat (List (List N)) → Prop
  | .inl j => BadLn A E H (1 + (j : Int))
  | .inr es => ∀ b l H', Same H H' → BookAt A H' b l → EvAll H' l → l.map (·.2) = es → Q (.ref b) H'
theorem finb_bad {A : Adr} {Q : VK} {E : XK} {H : Hp} {L : List (List Nat)} {r : Sum Nat (List (List N))} (h : RB L r) (k : FinB A Q E H r) {j : Nat} (b : FBad L j) : BadLn A E H (1 + (j : Int)) := by
  have e := h.isBad b
  subst e
  exact k
theorem finb_all {A : Adr} {Q : VK} {E : XK} {H : Hp} {L : List (List Nat)} {r : Sum Nat (List (List N))} (h : RB L r) (k : FinB A Q E H r) {es : List (List N)} (b : All2 L es) : ∀ b l H', Same H H' → BookAt A H' b l → EvAll H' l → l.map (·.2) = es → Q (.ref b) H' := by
  have e := h.isAll b
  subst e
  exact k
def spBRead (A : Adr) : Sp := fun vs H Q E => ∃ (z : Str) (t : List Nat) (r : Sum Nat (List (List N))), vs = [.ref A.c_Book, .str z] ∧ IsS z t ∧ t.length ≤ 5000 ∧ RB (LS t) r ∧ FinB A Q E H r
def FinG (Q : VK) (H : Hp) : Sum Nat (List (List N)) → Prop
  | .inl j => ∀ p H', Same H H' → H' p = some (.tup [.str (Str.ofString "refused"), .int (1 + (j : Int))]) → Q (.ref p) H'
  | .inr es => ∀ p a l H', Same H H' → H' p = some (.tup [.str (Str.ofString "read"), .ref a]) → H' a = some (.lst (rfs l)) → EvAll H' l → l.map (·.2) = es → Q (.ref p) H'
theorem fing_bad {Q : VK} {H : Hp} {L : List (List Nat)} {r : Sum Nat (List (List N))} (h : RB L r) (k : FinG Q H r) {j : Nat} (b : FBad L j) : ∀ p H', Same H H' → H' p = some (.tup [.str (Str.ofString "refused"), .int (1 + (j : Int))]) → Q (.ref p) H' := by
  have e := h.isBad b
  subst e
  exact k
theorem fing_all {Q : VK} {H : Hp} {L : List (List Nat)} {r : Sum Nat (List (List N))} (h : RB L r) (k : FinG Q H r) {es : List (List N)} (b : All2 L es) : ∀ p a l H', Same H H' → H' p = some (.tup [.str (Str.ofString "read"), .ref a]) → H' a = some (.lst (rfs l)) → EvAll H' l → l.map (·.2) = es → Q (.ref p) H' := by
  have e := h.isAll b
  subst e
  exact k
theorem eqv_tx {H : Hp} {l m : List Ev} (e : l.map (·.2) = m.map (·.2)) : Eqv H 0 (.str (S (tx2 l))) (.str (S (tx2 m))) := by rw [tx2_eq e]; exact .str 0 _
theorem evs_of {l m : List Ev} (e : l.map (·.2) = m.map (·.2)) (h : EvsS m) : EvsS l := fun q hq => by
  have : q.2 ∈ l.map (·.2) := List.mem_map_of_mem hq
  rw [e] at this
  obtain ⟨r, hr, er⟩ := List.mem_map.mp this
  rw [← er]; exact h r hr
theorem len_of {l m : List Ev} (e : l.map (·.2) = m.map (·.2)) : l.length = m.length := by have := congrArg List.length e; rw [List.length_map, List.length_map] at this; exact this
theorem at_of {l m : List Ev} (e : l.map (·.2) = m.map (·.2)) {i : Nat} {q r : Ev} (hq : l[i]? = some q) (hr : m[i]? = some r) : q.2 = r.2 := by
  have h1 : (l.map (·.2))[i]? = some q.2 := by rw [List.getElem?_map, hq]; rfl
  rw [e, List.getElem?_map, hr] at h1
  exact (Option.some.inj h1).symm
theorem at_rfs {l : List Ev} {i : Nat} {q : Ev} (h : l[i]? = some q) : atI (rfs l) (0 + (i : Int)) = some (.ref q.1) := by
  rw [Int.zero_add]
  exact atI_nat (by unfold rfs; rw [List.getElem?_map, h]; rfl)
def spIsB (A : Adr) : Sp := fun vs H Q _ => ∃ (b a : Addr) (l m : List Ev), vs = [.ref b, .ref a] ∧ BookAt A H b l ∧ H a = some (.lst (rfs m)) ∧ EvAll H l ∧ EvAll H m ∧ l.map (·.2) = m.map (·.2) ∧ EvsS m ∧ m.length ≤ 80 ∧ ∀ H', Same H H' → Q (.bl true) H'
def spRefu (A : Adr) : Sp := fun vs H Q _ => ∃ (b : Addr) (l : List Ev) (w n : Int), vs = [.ref b, .int w, .int n] ∧ BookAt A H b l ∧ l.length ≤ 1000 ∧ (w ≠ 1 → ¬ (0 ≤ n ∧ n ≤ l.length)) ∧ (w = 1 → ¬ (0 ≤ n ∧ n < l.length)) ∧ ∀ p H', Same H H' → H' p = some (.tup [.bl true, .int n]) → Q (.ref p) H'
def wl : List (List Nat) → Nat
  | [] => 0
  | p :: ts => (p.length + 1) + wl ts
theorem wl_app : ∀ a b : List (List Nat), wl (a ++ b) = wl a + wl b
  | [], b => by show wl b = 0 + wl b; omega
  | p :: a, b => by
    have ih := wl_app a b
    show (p.length + 1) + wl (a ++ b) = (p.length + 1) + wl a + wl b
    omega
theorem joinL_wl {c : Nat} : ∀ ts : List (List Nat), ts ≠ [] → (TL.joinL [c] ts).length + 1 = wl ts
  | [], h => absurd rfl h
  | [p], _ => by show p.length + 1 = (p.length + 1) + 0; omega
  | p :: q :: r, _ => by
    have ih := joinL_wl (c := c) (q :: r) (by simp)
    show (p ++ ([c] ++ TL.joinL [c] (q :: r))).length + 1 = (p.length + 1) + wl (q :: r)
    rw [List.length_append, List.length_append, ← ih]
    simp only [List.length_cons, List.length_nil]
    omega
theorem joinL_le {c : Nat} (ts : List (List Nat)) : (TL.joinL [c] ts).length ≤ wl ts := by
  cases ts with
  | nil => simp [TL.joinL]
  | cons p ts => have := joinL_wl (c := c) (p :: ts) (by simp); omega
theorem sum_wl : ∀ l : List Str, (l.map (·.length)).sum + l.length = wl (l.map tl)
  | [] => rfl
  | z :: l => by
    have ih := sum_wl l
    show (z.length + (l.map (·.length)).sum) + (l.length + 1) = ((tl z).length + 1) + wl (l.map tl)
    rw [← TL.len_tl]
    omega
theorem wl_take_drop (l : List (List Nat)) (k : Nat) : wl (l.take k) + wl (l.drop (k + 1)) ≤ wl l := by
  have h1 := wl_app (l.take k) (l.drop k)
  rw [List.take_append_drop] at h1
  have h2 : wl (l.drop (k + 1)) ≤ wl (l.drop k) := by
    rw [← List.drop_drop]
    cases l.drop k with
    | nil => exact Nat.le_refl _
    | cons p ts => show wl ts ≤ (p.length + 1) + wl ts; omega
  omega
theorem cut_lo {α : Type} (l : List α) (k : Nat) : cutG l none (some (k : Int)) = l.take k := by
  unfold cutG
  rw [HT.sIx_none, HT.sIx_nat, List.drop_zero, Nat.sub_zero]
  by_cases h : k ≤ l.length
  · rw [Nat.min_eq_left h]
  · rw [Nat.min_eq_right (by omega), List.take_length, List.take_of_length_le (by omega)]
theorem cut_hi {α : Type} (l : List α) (k : Nat) : cutG l (some (k : Int)) none = l.drop k := by
  unfold cutG
  rw [HT.sIx_none, HT.sIx_nat]
  by_cases h : k ≤ l.length
  · rw [Nat.min_eq_left h]; exact List.take_of_length_le (by rw [List.length_drop]; omega)
  · rw [Nat.min_eq_right (by omega), Nat.sub_self, List.take_zero, List.drop_eq_nil_of_le (by omega)]
theorem wl_nls (t : List Nat) : wl (nls t) ≤ t.length + 1 := by
  by_cases h : nls t = []
  · rw [h]; exact Nat.zero_le _
  · have := joinL_wl (c := 10) (nls t) h
    rw [nls_join] at this; omega
theorem nl_tx : Tx 1 (Str.ofString "
") := allTx (l := [Str.ofString "
"]) (by decide +kernel) _ List.mem_cons_self
theorem join_tx {l : List Str} {n m : Nat} (hok : ∀ z ∈ l, Tx m z) (h : wl (l.map tl) ≤ n) : Tx n (Txt.join (Str.ofString "
") l) := by
  refine ⟨?_, (tx_join (k := 1) nl_tx hok).ok⟩
  rw [TL.join_eq, TL.len_tl, TL.tl_join, show tl (Str.ofString "
") = [10] by rw [EV.newl]]
  exact Nat.le_trans (joinL_le _) h
theorem pickR (l : List Str) (b : Nat) (hb : ∀ z ∈ l, Tx b z) {i : Int} (h0 : 0 ≤ i) (h1 : i < l.length) : ∃ z : Str, Tx b z ∧ atI (l.map V.str) i = some (.str z) := by
  obtain ⟨j, rfl⟩ : ∃ j : Nat, i = (j : Int) := ⟨i.toNat, by omega⟩
  have hj : j < l.length := by omega
  exact ⟨l[j], hb _ (List.getElem_mem hj), atI_nat (by rw [List.getElem?_map, List.getElem?_eq_getElem hj]; rfl)⟩
theorem tx2_len {l : List Ev} (h : EvsS l) (hl : l.length ≤ 75) : (tx2 l).length ≤ 4200 := by
  unfold tx2
  have : ∀ l : List Ev, EvsS l → wl (l.map fun q => wt q.2) ≤ l.length * 56 := by
    intro l
    induction l with
    | nil => intro _; exact Nat.zero_le _
    | cons q l ih =>
      intro h
      have h1 := wt_short (h q List.mem_cons_self)
      have h2 := ih fun x hx => h x (List.mem_cons_of_mem _ hx)
      show ((wt q.2).length + 1) + wl (l.map fun q => wt q.2) ≤ (l.length + 1) * 56
      omega
  have h1 := this l h
  have h2 := joinL_le (c := 10) (l.map fun q => wt q.2)
  omega
theorem joinL_cd {c : Nat} : ∀ {ts : List (List Nat)}, c ∈ TL.joinL [10] ts → c = 10 ∨ ∃ p ∈ ts, c ∈ p
  | [], h => by cases h
  | [p], h => .inr ⟨p, List.mem_cons_self, h⟩
  | p :: q :: r, h => by
    have h : c ∈ p ++ ([10] ++ TL.joinL [10] (q :: r)) := h
    rcases List.mem_append.mp h with e | e
    · exact .inr ⟨p, List.mem_cons_self, e⟩
    · rcases List.mem_append.mp e with e | e
      · exact .inl (List.mem_singleton.mp e)
      · rcases joinL_cd e with z | ⟨x, hx, hm⟩
        · exact .inl z
        · exact .inr ⟨x, List.mem_cons_of_mem _ hx, hm⟩
theorem tx2_tx {l : List Ev} (h : EvsS l) (hl : l.length ≤ 75) : Tx 4200 (S (tx2 l)) := by
  refine ⟨by rw [S_len]; exact tx2_len h hl, fun c hc => ?_⟩
  have hc : c ∈ TL.joinL [10] (l.map fun q => wt q.2) := hc
  rcases joinL_cd hc with z | ⟨p, hp, hm⟩
  · omega
  · obtain ⟨q, hq, rfl⟩ := List.mem_map.mp hp
    exact (ev_cd (h q hq).ok).ok c hm
theorem cutS_len {z : Str} {lo hi : Option Int} : (cutS z lo hi).length = (cutG (tl z) lo hi).length := by rw [TL.len_tl]; rfl
theorem cut_pair {z : Str} {a b : Int} (h0 : 0 ≤ a) (hab : a ≤ b) : (cutS z none (some a)).length + (cutS z (some b) none).length ≤ z.length := by
  obtain ⟨j, rfl⟩ : ∃ j : Nat, a = (j : Int) := ⟨a.toNat, by omega⟩
  obtain ⟨k, rfl⟩ : ∃ k : Nat, b = (k : Int) := ⟨b.toNat, by omega⟩
  rw [cutS_len, cutS_len, cut_lo, cut_hi, List.length_take, List.length_drop, TL.len_tl z]
  omega
theorem tx_pair {z y : Str} {n m : Nat} {a b : Int} (h0 : 0 ≤ a) (hab : a ≤ b) (hz : Tx n z) (hy : Tx m y) : Tx (n + m) (cutS z none (some a) ++ y ++ cutS z (some b) none) := by
  refine ⟨?_, (tx_app (tx_app (tx_cut hz) hy) (tx_cut hz)).ok⟩
  have := @cut_pair z a b h0 hab
  have := hz.len
  have := hy.len
  rw [Str.length_append, Str.length_append]
  omega
theorem tx_pair0 {z : Str} {n : Nat} {a b : Int} (h0 : 0 ≤ a) (hab : a ≤ b) (hz : Tx n z) : Tx n (cutS z none (some a) ++ cutS z (some b) none) := by
  refine ⟨?_, (tx_app (tx_cut hz) (tx_cut hz)).ok⟩
  have := @cut_pair z a b h0 hab
  have := hz.len
  rw [Str.length_append]
  omega
theorem pieces_tx {t : List Nat} {n : Nat} (h : Tx n (S t)) : ∀ z ∈ (nls t).map S, Tx n z := fun z hz => by
  obtain ⟨u, hu, rfl⟩ := List.mem_map.mp hz
  have h1 := piece_len (s := [10]) hu
  rw [nls_join] at h1
  refine ⟨by rw [S_len]; have := h.len; rw [S_len] at this; omega, fun c hc => h.ok c ?_⟩
  have := mem_joinL (s := [10]) hc hu
  rw [nls_join] at this
  exact this
theorem wl_edit {t : List Nat} {y : Str} {a : Int} (h0 : 0 ≤ a) : wl ((cutG ((nls t).map S) none (some a) ++ [y] ++ cutG ((nls t).map S) (some (a + 1)) none).map tl) ≤ t.length + 2 + y.length := by
  obtain ⟨j, rfl⟩ : ∃ j : Nat, a = (j : Int) := ⟨a.toNat, by omega⟩
  have e : ((j : Int) + 1) = ((j + 1 : Nat) : Int) := by omega
  rw [e, cut_lo, cut_hi, List.map_append, List.map_append, wl_app, wl_app, ← List.map_take, ← List.map_drop, List.map_map, List.map_map]
  have f : (tl ∘ S) = (id : List Nat → List Nat) := rfl
  rw [f, List.map_id, List.map_id]
  have h1 := wl_take_drop (nls t) j
  have h2 := wl_nls t
  have h3 : wl ([y].map tl) = y.length + 1 := by show (tl y).length + 1 + 0 = _; rw [← TL.len_tl]
  omega
theorem rb_ex (L : List (List Nat)) : ∃ r, RB L r := by
  by_cases h : ∃ j, FBad L j
  · obtain ⟨j, b⟩ := h
    exact ⟨_, .bad b⟩
  · have key : ∀ (n i : Nat) (l : List Nat), i < n → L[i]? = some l → rdE l ≠ none := by
      intro n
      induction n with
      | zero => intro i l hi; omega
      | succ n ih =>
        intro i l hi hl e
        exact h ⟨i, ⟨l, hl, e⟩, fun j u hj hu => ih j u (by omega) hu⟩
    refine ⟨_, .all (es := L.map fun l => (rdE l).getD []) ⟨List.length_map .., fun i l ns hl hn => ?_⟩⟩
    rw [List.getElem?_map, hl] at hn
    cases e : rdE l with
    | none => exact absurd e (key (i + 1) i l (by omega) hl)
    | some ms =>
      have hn : some ((rdE l).getD []) = some ns := hn
      rw [e] at hn
      exact hn
theorem tx2_all {l : List Ev} (h : EvsS l) : All2 (LS (tx2 l)) (l.map (·.2)) := by
  cases l with
  | nil => exact ⟨rfl, fun i u ns hu _ => by cases hu⟩
  | cons q l =>
    have hno : ∀ p ∈ (q :: l).map (fun q => wt q.2), 10 ∉ p := fun p hp hm => by
      obtain ⟨r, hr, rfl⟩ := List.mem_map.mp hp
      have := nl_none hm
      rw [(h r hr).ok.rd] at this
      cases this
    have e1 : nls (tx2 (q :: l)) = (q :: l).map (fun q => wt q.2) := SX.spl_join (c := 10) (sep := []) (by simp) hno
    have e2 : tx2 (q :: l) ≠ [] := fun e => by
      have h1 := joinL_low (m := 4) (c := 10) (ts := (q :: l).map (fun q => wt q.2)) (fun p hp => by
        obtain ⟨r, hr, rfl⟩ := List.mem_map.mp hp
        exact rd_long (h r hr).ok.rd)
      have h2 : (TL.joinL [10] ((q :: l).map (fun q => wt q.2))).length = 0 := by
        have := congrArg List.length e
        exact this
      rw [h2] at h1
      simp at h1
      omega
    have e3 : LS (tx2 (q :: l)) = (q :: l).map (fun q => wt q.2) := by unfold LS; rw [if_neg e2, e1]
    rw [e3]
    refine ⟨by rw [List.length_map, List.length_map], fun i u ns hu hn => ?_⟩
    rw [List.getElem?_map] at hu hn
    cases er : (q :: l)[i]? with
    | none => rw [er] at hu; cases hu
    | some r =>
      rw [er] at hu hn
      cases hu
      cases hn
      exact (h r (List.mem_of_getElem? er)).ok.rd
theorem cut_snd {l : List Ev} {lo hi : Option Int} : (cutG l lo hi).map (·.2) = cutG (l.map (·.2)) lo hi := by
  unfold cutG
  rw [List.length_map, List.map_take, List.map_drop]
theorem EvAll.cut {H : Hp} {l : List Ev} {lo hi : Option Int} (h : EvAll H l) : EvAll H (cutG l lo hi) := fun q hq => h q (cutG_mem hq)
theorem EvAll.app {H : Hp} {l m : List Ev} (h : EvAll H l) (g : EvAll H m) : EvAll H (l ++ m) := fun q hq => (List.mem_append.mp hq).elim (h q) (g q)
theorem EvsS.cut {l : List Ev} {lo hi : Option Int} (h : EvsS l) : EvsS (cutG l lo hi) := fun q hq => h q (cutG_mem hq)
theorem EvsS.app {l m : List Ev} (h : EvsS l) (g : EvsS m) : EvsS (l ++ m) := fun q hq => (List.mem_append.mp hq).elim (h q) (g q)
theorem lst_ne {H : Hp} {p pq a : Addr} {l : List Ev} (P : DrawAt H p pq) (h : H a = some (.lst (rfs l))) : a ≠ p := by
  rintro rfl
  obtain ⟨_, _, _, e, _⟩ := P.ex
  rw [h] at e
  injection e with e
  injection e with e
  cases l with
  | nil => cases e
  | cons q l => injection e with e1 _; cases e1
theorem EvAll.but {H H' : Hp} {l : List Ev} {p pq : Addr} (h : EvAll H l) (P : DrawAt H p pq) (s : SameBut p H H') : EvAll H' l := fun q hq => s _ _ (draw_ne P (h q hq)) (h q hq)
theorem BookAt.but {A : Adr} {H H' : Hp} {b p pq : Addr} {l : List Ev} (h : BookAt A H b l) (P : DrawAt H p pq) (s : SameBut p H H') : BookAt A H' b l := by
  obtain ⟨dx, t, hb, ht⟩ := h.ex
  have nb : b ≠ p := by
    rintro rfl
    obtain ⟨_, _, _, e, _⟩ := P.ex
    rw [hb] at e; cases e
  exact ⟨dx, t, s _ _ nb hb, s _ _ (draw_ne P ht) ht⟩
theorem eqvBI {H : Hp} {a b : Addr} {i : Int} (ha : H a = some (.tup [.bl true, .int i])) (hb : H b = some (.tup [.bl true, .int i])) : Eqv H 1 (.ref a) (.ref b) :=
  .tup ha hb rfl (by simp) fun j u v hx hy => by
    rw [hx] at hy
    cases hy
    rcases j with _ | _ | j
    · cases hx; exact .bl 0 _
    · cases hx; exact .int 0 _
    · cases hx
structure EvL (H : Hp) (D : Addr) (j : Nat) : Prop where
  ex : ∃ l : List Ev, H D = some (.lst (rfs l)) ∧ EvAll H l ∧ EvsS l ∧ l.length = j
theorem EvL.snoc {H : Hp} {D a : Addr} {l : List Ev} {ns : List N} {j : Nat} (e : H D = some (.lst (rfs l))) (hE : EvAll H l) (hS : EvsS l) (hl : l.length = j) (hv : EvS ns) (ha : H a = some (.tup (ns.map flv))) : EvL (upd H D (.lst (rfs l ++ [.ref a]))) D (j + 1) :=
  ⟨l ++ [(a, ns)], by rw [upd_same]; unfold rfs; rw [List.map_append]; rfl, EvAll.put (EvAll.snoc (q := (a, ns)) hE ha) e, hS.app (fun q hq => by rw [List.mem_singleton.mp hq]; exact hv), by rw [List.length_append, hl]; rfl⟩
theorem pickN7 {i : Int} (h0 : 0 ≤ i) (h1 : i < 7) : ∃ m : Nat, m ≤ 8 ∧ atI [V.int 3, V.int 1, V.int 0, V.int 2, V.int 5, V.int 6, V.int 8] i = some (.int (m : Int)) := by
  obtain ⟨j, rfl⟩ : ∃ j : Nat, i = (j : Int) := ⟨i.toNat, by omega⟩
  rcases j with _ | _ | _ | _ | _ | _ | _ | j
  · exact ⟨3, by omega, rfl⟩
  · exact ⟨1, by omega, rfl⟩
  · exact ⟨0, by omega, rfl⟩
  · exact ⟨2, by omega, rfl⟩
  · exact ⟨5, by omega, rfl⟩
  · exact ⟨6, by omega, rfl⟩
  · exact ⟨8, by omega, rfl⟩
  · omega
theorem pickE {l : List Ev} {i : Int} (h0 : 0 ≤ i) (h1 : i < l.length) : ∃ q : Ev, q ∈ l ∧ atI (rfs l) i = some (.ref q.1) := by
  obtain ⟨j, rfl⟩ : ∃ j : Nat, i = (j : Int) := ⟨i.toNat, by omega⟩
  have hj : j < l.length := by omega
  exact ⟨l[j], List.getElem_mem hj, atI_nat (by unfold rfs; rw [List.getElem?_map, List.getElem?_eq_getElem hj]; rfl)⟩
theorem BookAt.put {A : Adr} {H : Hp} {b L : Addr} {l : List Ev} {xs : List V} {o : HO} (h : BookAt A H b l) (e : H L = some (.lst xs)) : BookAt A (upd H L o) b l := by
  obtain ⟨dx, t, hb, ht⟩ := h.ex
  exact ⟨dx, t, by rw [upd_ne (fun z => by rw [z, e] at hb; cases hb)]; exact hb, by rw [upd_ne (fun z => by rw [z, e] at ht; cases ht)]; exact ht⟩
theorem eqvSI {H : Hp} {a b : Addr} {x : Str} {i : Int} (ha : H a = some (.tup [.str x, .int i])) (hb : H b = some (.tup [.str x, .int i])) : Eqv H 1 (.ref a) (.ref b) :=
  .tup ha hb rfl (by simp) fun j u v hx hy => by
    rw [hx] at hy
    cases hy
    rcases j with _ | _ | j
    · cases hx; exact .str 0 _
    · cases hx; exact .int 0 _
    · cases hx
theorem eqvSR {H : Hp} {a b e f : Addr} {x : Str} (ha : H a = some (.tup [.str x, .ref e])) (hb : H b = some (.tup [.str x, .ref f])) (he : Eqv H 2 (.ref e) (.ref f)) : Eqv H 3 (.ref a) (.ref b) :=
  .tup ha hb rfl (by simp) fun i u v hx hy => by
    rcases i with _ | _ | i
    · cases hx; cases hy; exact .str 2 _
    · cases hx; cases hy; exact he
    · cases hx
theorem suff {α β : Type} {C : Prop} {G : α → β → Prop} (P : α → β → Prop) (main : (∀ a b, P a b → G a b) → C) (rest : ∀ a b, P a b → G a b) : C := main rest
theorem flat_tick : Flat [N.wrd (tl (Str.ofString "tick"))] := ⟨fun n hn => by
  rw [List.mem_singleton.mp hn]
  exact .inl ⟨_, rfl, ⟨fun c hc => by
    have h : ((tl (Str.ofString "tick")).all fun c => decide (c < 0x110000)) = true := by decide +kernel
    exact of_decide_eq_true (List.all_eq_true.mp h c hc)⟩⟩⟩
theorem longer_ne {l : List Ev} {q : Ev} : decide (l.map (·.2) = (l ++ [q]).map (·.2)) = false := decide_eq_false fun e => by
  have := congrArg List.length e
  simp at this
theorem tb_ins {A : Adr} {H : Hp} {b : Addr} {l : List Ev} {P : Prop} (h : BookAt A H b l) (f : ∀ dx t, H b = some (.ins A.c_Book dx (bfl t)) → P) : P := let ⟨dx, t, e, _⟩ := h.ex; f dx t e
theorem eqv_flip {H : Hp} {α : Type} {a b : α} [Decidable (a = b)] [Decidable (b = a)] : Eqv H 0 (.bl (decide (a = b))) (.bl (decide (b = a))) := by
  rw [show decide (a = b) = decide (b = a) from decide_eq_decide.mpr ⟨Eq.symm, Eq.symm⟩]
  exact .bl 0 _
structure TxL (H : Hp) (X : Addr) (n : Nat) : Prop where
  ex : ∃ zs : List Str, H X = some (.lst (zs.map V.str)) ∧ zs.length ≤ n ∧ ∀ z ∈ zs, Tx 4900 z
theorem TxL.snoc {H : Hp} {X : Addr} {zs : List Str} {z : Str} {n : Nat} (hl : zs.length ≤ n) (h : ∀ z ∈ zs, Tx 4900 z) (g : Tx 4900 z) : TxL (upd H X (.lst (zs.map V.str ++ [.str z]))) X (n + 1) :=
  ⟨zs ++ [z], by rw [upd_same, List.map_append]; rfl, by rw [List.length_append, List.length_singleton]; omega, allTx_snoc h g⟩
theorem all2_fine {t : List Nat} {l : List Ev} (h : All2 (LS t) (l.map (·.2))) (ht : t.length ≤ 4900) : l.length ≤ 1000 ∧ ∀ q ∈ l, q.2.length ≤ 100 := by
  have h1 := all2_len h
  rw [List.length_map] at h1
  refine ⟨by omega, fun q hq => ?_⟩
  obtain ⟨i, hi, rfl⟩ := List.getElem_of_mem hq
  have hl := h.len
  rw [List.length_map] at hl
  exact rd_len (h.pos i _ _ (List.getElem?_eq_getElem (by omega)) (by rw [List.getElem?_map, List.getElem?_eq_getElem hi]; rfl))
theorem eqvRd {H : Hp} {a b f g : Addr} {x : Str} {l m : List Ev} {es : List (List N)} {t : List Nat} (ha : H a = some (.tup [.str x, .ref f])) (hb : H b = some (.tup [.str x, .ref g])) (hf : H f = some (.lst (rfs l))) (hg : H g = some (.lst (rfs m))) (hl : EvAll H l) (hm : EvAll H m)
    (e1 : l.map (·.2) = es) (e2 : m.map (·.2) = es) (hA : All2 (LS t) es) (ht : t.length ≤ 4900) : Eqv H 3 (.ref a) (.ref b) := by
  subst e1
  obtain ⟨h1, h2⟩ := all2_fine hA ht
  exact eqvSR ha hb (ev_lst hf hg hl hm e2.symm h1 h2)
theorem bk_get {A : Adr} {H : Hp} {b : Addr} {l : List Ev} (h : BookAt A H b l) : H b = some (.ins A.c_Book h.ex.choose (bfl h.ex.choose_spec.choose)) := h.ex.choose_spec.choose_spec.1
theorem dec_abs {p : Prop} [Decidable p] (h : ¬ decide p = true) (g : p) : False := h (decide_eq_true g)
theorem flats {l : List Ev} (h : EvsS l) : FlatS l := fun q hq => flat_ev (h q hq).ok
def spEdits (A : Adr) : Sp := fun vs H Q _ => ∃ (p pq b a : Addr) (l m : List Ev), vs = [.ref p, .ref b, .ref a] ∧ DrawAt H p pq ∧ BookAt A H b l ∧ H a = some (.lst (rfs m)) ∧ EvAll H l ∧ EvAll H m ∧ l.map (·.2) = m.map (·.2) ∧ EvsS m ∧ m.length ≤ 75 ∧ ∀ H', DrawAt H' p pq → SameBut p H H' → Q (.bl true) H'
def spChg2 : Sp := fun vs H Q _ => ∃ (p pq : Addr) (z : Str) (l : List Ev), vs = [.ref p, .str z] ∧ DrawAt H p pq ∧ IsS z (tx2 l) ∧ EvsS l ∧ l.length ≤ 75 ∧ ∀ (u : List Nat) H', Tx 4900 (S u) → DrawAt H' p pq → SameBut p H H' → Q (.str (S u)) H'
def spLReading : Sp := fun vs H Q _ => ∃ (z : Str) (t : List Nat) (r : Sum Nat (List (List N))), vs = [.str z] ∧ IsS z t ∧ t.length ≤ 5000 ∧ Cd t ∧ RB (LS t) r ∧ FinG Q H r
def spLAnswer (A : Adr) : Sp := fun vs H Q _ => ∃ (z : Str) (t : List Nat) (r : Sum Nat (List (List N))), vs = [.str z] ∧ IsS z t ∧ t.length ≤ 4900 ∧ RB (LS t) r ∧ FinG Q H r
theorem book_made {A : Adr} {H : Hp} {Q : VK} {E : XK} {a : Addr} {l : List Ev} (ha : H a = some (.lst (rfs l)) ∨ H a = some (.tup (rfs l))) (hl : l.length ≤ 6000) (k : NewB A Q H l) : ∀ x dx, H x = none → H dx = none → dx ≠ x →
    spBI A (.ref x :: ([.ref a] ++ [])) (upd (upd H dx (.own x)) x (.ins A.c_Book dx [])) (fun v H2 => v = .non ∧ Q (.ref x) H2) E := by
  intro x dx hx hd hne
  have go : ∀ {o : HO}, H a = some o → (upd (upd H dx (.own x)) x (.ins A.c_Book dx [])) a = some o := fun {o} e => by
    rw [upd_ne (fun z => by rw [z, hx] at e; cases e), upd_ne (fun z => by rw [z, hd] at e; cases e)]; exact e
  exact ⟨x, dx, a, l, rfl, upd_same, ha.imp go go, hl, fun t H' sb ht hp => ⟨rfl, k x H' (same_mk hx hd sb) ⟨dx, t, hp, ht⟩⟩⟩
theorem book_made2 {A : Adr} {H : Hp} {R : Addr → Hp → Prop} {E : XK} {a : Addr} {l : List Ev} (ha : H a = some (.lst (rfs l)) ∨ H a = some (.tup (rfs l))) (hl : l.length ≤ 6000) (k : ∀ b H', Same H H' → BookAt A H' b l → R b H') : ∀ x dx, H x = none → H dx = none → dx ≠ x →
    spBI A (.ref x :: ([.ref a] ++ [])) (upd (upd H dx (.own x)) x (.ins A.c_Book dx [])) (fun v H2 => v = .non ∧ R x H2) E := by
  intro x dx hx hd hne
  have go : ∀ {o : HO}, H a = some o → (upd (upd H dx (.own x)) x (.ins A.c_Book dx [])) a = some o := fun {o} e => by
    rw [upd_ne (fun z => by rw [z, hx] at e; cases e), upd_ne (fun z => by rw [z, hd] at e; cases e)]; exact e
  exact ⟨x, dx, a, l, rfl, upd_same, ha.imp go go, hl, fun t H' sb ht hp => ⟨rfl, k x H' (same_mk hx hd sb) ⟨dx, t, hp, ht⟩⟩⟩
theorem cut_rfs {l : List Ev} {lo hi : Option Int} : cutV (rfs l) lo hi = rfs (cutG l lo hi) := cutV_mapG l lo hi
theorem rfs_cat {l m : List Ev} : rfs l ++ rfs m = rfs (l ++ m) := (List.map_append ..).symm
theorem NewB.mono {A : Adr} {Q : VK} {H H' : Hp} {l : List Ev} (k : NewB A Q H l) (s : Same H H') : NewB A Q H' l := fun b H2 s2 hb => k b H2 (s.trans s2) hb
def spBLen (A : Adr) : Sp := fun vs H Q _ => ∃ (b : Addr) (l : List Ev), vs = [.ref b] ∧ BookAt A H b l ∧ Q (.int (l.length : Nat)) H
def spBGet (A : Adr) : Sp := fun vs H Q _ => ∃ (b : Addr) (l : List Ev) (i : Int) (v : V), vs = [.ref b, .int i] ∧ BookAt A H b l ∧ atI (rfs l) i = some v ∧ Q v H
def spBIter (A : Adr) : Sp := fun vs H Q _ => ∃ (a dx t : Addr) (l : List Ev), vs = [.ref a] ∧ H a = some (.ins A.c_Book dx (bfl t)) ∧ H t = some (.tup (rfs l)) ∧ ∀ it, H it = none → Q (.ref it) (upd H it (ItT t it 0))
def spBAdd (A : Adr) : Sp := fun vs H Q _ => ∃ (a b : Addr) (l m : List Ev), vs = [.ref a, .ref b] ∧ BookAt A H a l ∧ BookAt A H b m ∧ l.length ≤ 1000 ∧ m.length ≤ 1000 ∧ NewB A Q H (l ++ m)
def spBFirst (A : Adr) : Sp := fun vs H Q E => ∃ (b : Addr) (l : List Ev) (n : Int), vs = [.ref b, .int n] ∧ BookAt A H b l ∧ l.length ≤ 1000 ∧ (0 ≤ n ∧ n ≤ l.length → NewB A Q H (cutG l none (some n))) ∧ (¬ (0 ≤ n ∧ n ≤ l.length) → NoEv A E H n)
def spBWithout (A : Adr) : Sp := fun vs H Q E => ∃ (b : Addr) (l : List Ev) (n : Int), vs = [.ref b, .int n] ∧ BookAt A H b l ∧ l.length ≤ 1000 ∧ (0 ≤ n ∧ n < l.length → NewB A Q H (cutG l none (some n) ++ cutG l (some (n + 1)) none)) ∧ (¬ (0 ≤ n ∧ n < l.length) → NoEv A E H n)
def spBPut (A : Adr) : Sp := fun vs H Q E => ∃ (b : Addr) (l : List Ev) (n : Int) (qa : Addr), vs = [.ref b, .int n, .ref qa] ∧ BookAt A H b l ∧ l.length ≤ 1000 ∧ (0 ≤ n ∧ n ≤ l.length → ∃ qn : List N, NewB A Q H (cutG l none (some n) ++ [(qa, qn)] ++ cutG l (some n) none)) ∧ (¬ (0 ≤ n ∧ n ≤ l.length) → NoEv A E H n)
def spT : Sp := fun vs _ _ _ => ∃ xs : List V, vs = xs ∧ False
def spDig : Sp := fun vs H Q _ => ∃ (z : Str) (t : List Nat), vs = [.str z] ∧ IsS z t ∧ t.length ≤ 5000 ∧ ∀ H', Same H H' → Q (.bl (isD t)) H'
def spNum : Sp := fun vs H Q _ => ∃ (z : Str) (t : List Nat), vs = [.str z, .int 6] ∧ IsS z t ∧ t.length ≤ 5000 ∧ ∀ H', Same H H' → Q (.bl (nm t)) H'
def spELine : Sp := fun vs H Q _ => ∃ (a : Addr) (ns : List N), vs = [.ref a] ∧ H a = some (.tup (ns.map flv)) ∧ EvOk ns ∧ ∀ H', Same H H' → Q (.str (S (wt ns))) H'
def spRead (A : Adr) : Sp := fun vs H Q E => ∃ (z : Str) (t : List Nat) (r : Option (List N)), vs = [.str z] ∧ IsS z t ∧ t.length ≤ 5000 ∧ RE t r ∧ FinR A Q E H t r
def spMixed : Sp := fun vs H Q _ => ∃ i j : Int, vs = [.int i, .int j] ∧ ∀ r : Int, 0 ≤ r → r < 2 ^ 31 → Q (.int r) H
def spDraw (K : PySem.W.Frag) : Sp := fun vs H Q _ => ∃ (a : Addr) (ns : List Int), vs = [.ref a] ∧ SqL K H a (ns.map V.int) ∧ ns.length ≤ 63 ∧ (∀ z ∈ ns, Builtin.Int.intBits z ≤ 1048576) ∧ ∀ p pq H', Same H H' → DrawAt H' p pq → H p = none → Q (.ref p) H'
def spTake : Sp := fun vs H Q _ => ∃ (p pq : Addr) (l : Int), vs = [.ref p, .int l] ∧ DrawAt H p pq ∧ 0 < l ∧ l ≤ 1000 ∧ ∀ (r : Int) H', 0 ≤ r → r < l → DrawAt H' p pq → SameBut p H H' → Q (.int r) H'
def spSame (d : Nat) : Sp := fun vs H Q _ => ∃ (x y : V) (n : Nat), vs = [x, y] ∧ Eqv H n x y ∧ n < d ∧ ∀ H', Same H H' → Q (.bl true) H'
def spForms : Sp := fun vs H Q _ => vs = [] ∧ ∀ a H', Same H H' → FormsAt H' a → Q (.ref a) H'
def spWr : Sp := fun vs H Q _ => ∃ (a : Addr) (ns : List N), vs = [.ref a] ∧ H a = some (.tup (ns.map flv)) ∧ EvOk ns ∧ ∀ H', Same H H' → Q (.str (S (wt ns))) H'
def spIsN : Sp := fun vs H Q _ => ∃ (z : Str) (t : List Nat), vs = [.str z] ∧ IsS z t ∧ t.length ≤ 5000 ∧ Cd t ∧ ∀ H', Same H H' → Q (.bl (nm t)) H'
def spLRd : Sp := fun vs H Q _ => ∃ (z : Str) (t : List Nat) (r : Option (List N)), vs = [.str z] ∧ IsS z t ∧ t.length ≤ 5000 ∧ Cd t ∧ RE t r ∧ FinL Q H r
def spSign : Sp := fun vs H Q _ => ∃ i : Int, vs = [.int i] ∧ ∀ z : Str, Sg z → Q (.str z) H
structure Nam (z : Str) : Prop where
  ex : ∃ t, z = S t ∧ NmOk t
def spName : Sp := fun vs H Q _ => ∃ (p pq : Addr), vs = [.ref p] ∧ DrawAt H p pq ∧ ∀ (z : Str) H', Nam z → DrawAt H' p pq → SameBut p H H' → Q (.str z) H'
def spInt : Sp := fun vs H Q _ => ∃ (p pq : Addr), vs = [.ref p] ∧ DrawAt H p pq ∧ ∀ (i : Int) H', 0 ≤ i → i ≤ 999999 → DrawAt H' p pq → SameBut p H H' → Q (.int i) H'
def spEvent : Sp := fun vs H Q _ => ∃ (p pq : Addr), vs = [.ref p] ∧ DrawAt H p pq ∧ ∀ a ns H', EvOk ns → H' a = some (.tup (ns.map flv)) → DrawAt H' p pq → SameBut p H H' → Q (.ref a) H'
structure WsAt (H : Hp) (a : Addr) (n : Nat) : Prop where
  ex : ∃ l : List Str, H a = some (.lst (l.map V.str)) ∧ 1 ≤ l.length ∧ l.length ≤ n ∧ ∀ z ∈ l, z.length ≤ 70
def spOther : Sp := fun vs H Q _ => ∃ (a : Addr) (l : List Str) (w pl pk : Int), vs = [.ref a, .int w, .int pl, .int pk] ∧ H a = some (.lst (l.map V.str)) ∧ 1 ≤ l.length ∧ l.length ≤ 5 ∧ (∀ z ∈ l, Tx 60 z) ∧ 0 ≤ pl ∧ pl < l.length ∧ ∀ b (m : List Str) H', Same H H' → H' b = some (.lst (m.map V.str)) → m.length ≤ 11 → (∀ z ∈ m, Tx 70 z) → Q (.ref b) H'
def spChg : Sp := fun vs H Q _ => ∃ (p pq : Addr) (z : Str) (ns : List N), vs = [.ref p, .str z] ∧ DrawAt H p pq ∧ IsS z (wt ns) ∧ EvOk ns ∧ ∀ (u : List Nat) H', Tx 5000 (S u) → DrawAt H' p pq → SameBut p H H' → Q (.str (S u)) H'
def spAns (A : Adr) : Sp := fun vs H Q _ => ∃ (z : Str) (t : List Nat) (r : Option (List N)), vs = [.str z] ∧ IsS z t ∧ t.length ≤ 5000 ∧ RE t r ∧ FinA Q H t r
def spLaw (K : PySem.W.Frag) : Sp := fun vs H Q _ => ∃ (a : Addr) (ns : List Int), vs = [.ref a] ∧ SqL K H a (ns.map V.int) ∧ ns.length ≤ 63 ∧ (∀ z ∈ ns, Builtin.Int.intBits z ≤ 1048576) ∧ ∀ H', Q (.bl true) H'
abbrev lawLvl : Nat := 12
local macro_rules | `(tactic| walk_at "gb same") => `(tactic| ((with_reducible show Same _ _); first | assumption | exact Same.refl _ | ((with_reducible show Same _ (upd _ _ _)); first | (refine same_nw ?_ (by assumption); walk_at "gb same") | (refine same_put ?_ (by assumption); walk_at "gb same")) | (refine Same.trans ?_ (by assumption); walk_at "gb same") | fail))
local macro_rules | `(tactic| walk_at "gb but") => `(tactic| ((with_reducible show SameBut _ _ _); first | assumption | exact SameBut.refl | (refine Same.but ?_; (first | assumption | exact Same.refl _ )) | ((with_reducible show SameBut _ _ (upd _ _ _)); first | (refine but_own ?_; walk_at "gb but") | (refine put_but ?_ (by assumption); walk_at "gb but") | (refine but_nw ?_ (by assumption); walk_at "gb but")) | (refine SameBut.trans ?_ (by assumption); walk_at "gb but") | (refine SameBut.trans ?_ (Same.but (by assumption)); walk_at "gb but") | fail))
local macro_rules | `(tactic| walk_at "gb ne") => `(tactic| ((with_reducible show _ ≠ _); first | assumption | exact Ne.symm (by assumption) | exact none_ne (by assumption) (by walk_at "gb hp") | exact Ne.symm (none_ne (by assumption) (by walk_at "gb hp")) | ((refine ne_of (by assumption) ?h2 ?d2); (case h2 => walk_at "gb hp"); (case d2 => (intro z; cases z))) | fail))
local macro_rules | `(tactic| walk_at "gb hp") => `(tactic| ((with_reducible show _ = some _); first | assumption | ((with_reducible show upd _ _ _ _ = some _); first | exact upd_same | (refine upd_fr ?_ (by assumption); walk_at "gb hp") | (refine upd_df ?_ (by walk_at "gb ne"); walk_at "gb hp")) | (refine (by assumption : Same _ _) _ _ ?_; walk_at "gb hp") | (refine (by assumption : SameBut _ _ _) _ _ (by walk_at "gb ne") ?_; walk_at "gb hp") | fail | fail))
local macro_rules | `(tactic| walk_at "gb leaf") => `(tactic| (first | ((with_reducible show IntMulOk _ _); first |  exact mulR ⟨by omega, by omega⟩ | exact mulL ⟨by omega, by omega⟩) | ((first | (with_reducible show @LE.le _ _ _ _) | (with_reducible show @LT.lt _ _ _ _)); (first | (first | omega | decide +kernel | (simp only [List.length_append, List.length_map, List.length_cons, List.length_nil, List.length_take, List.length_zipWith, List.length_replicate]; omega) | (rw [sizeLine_eq]; (first | omega | (simp only [List.length_append, List.length_map, List.length_cons, List.length_nil, List.length_take, List.length_zipWith, List.length_replicate]; omega))) | (simp only [List.length_append, List.length_map, List.length_cons, List.length_nil, List.length_take, List.length_zipWith, List.length_replicate] at *; omega) | fail) | assumption | (rw [sizeLine_eq]; simp only [Str.length_append]; omega) | exact tx_le (by assumption) | exact put1 | fail)) | ((fail_if_success (with_reducible show IntMulOk _ _)); (fail_if_success (first | (with_reducible show @LE.le _ _ _ _) | (with_reducible show @LT.lt _ _ _ _))); first | exact rfl | assumption | ((with_reducible show _ = _); walk_at "gb hp") | (first | exact (by assumption : Txt _ _ _).cl_Book | exact (by assumption : Txt _ _ _).no_Book_events | exact (by assumption : Txt _ _ _).x_BadEvent | exact (by assumption : Txt _ _ _).xc_BadEvent | exact (by assumption : Txt _ _ _).xm_BadEvent | exact (by assumption : Txt _ _ _).xs_BadEvent | exact (by assumption : Txt _ _ _).x_BadLine | exact (by assumption : Txt _ _ _).xc_BadLine | exact (by assumption : Txt _ _ _).xm_BadLine | exact (by assumption : Txt _ _ _).xs_BadLine | exact (by assumption : Txt _ _ _).x_NoEvent | exact (by assumption : Txt _ _ _).xc_NoEvent | exact (by assumption : Txt _ _ _).xm_NoEvent | exact (by assumption : Txt _ _ _).xs_NoEvent | exact (by assumption : Txt _ _ _).kt_BadEvent_BadEvent | exact (by assumption : Txt _ _ _).kt_BadLine_BadLine | exact (by assumption : Txt _ _ _).kt_BadLine_GangError | exact (by assumption : Txt _ _ _).kt_BadLine_ValueError | exact (by assumption : Txt _ _ _).kt_BadLine_BadEvent | exact (by assumption : Txt _ _ _).kt_BadLine_NoEvent | exact (by assumption : Txt _ _ _).kt_NoEvent_NoEvent | exact (by assumption : Txt _ _ _).kt_NoEvent_GangError | exact (by assumption : Txt _ _ _).kt_NoEvent_BadLine | exact (by assumption : Txt _ _ _).kt_NoEvent_BadEvent | exact bf_events _ | fail) | (first | exact .own _ | exact .ty _ | exact .base (.int _) | exact .base (.str _) | exact .base (.tup (by walk_at "gb hp")) | exact .base (.lst (by walk_at "gb hp")) | exact kit_same | exact kit_ty (by decide +kernel) | exact .base .non | exact .base (.bl _) | exact .base (.ins (by walk_at "gb hp") (by assumption : Txt _ _ _).cl_Book (by assumption : Txt _ _ _).k1_Book (by assumption : Txt _ _ _).kg (by assumption : Txt _ _ _).kt (by assumption : Txt _ _ _).k4_Book) | fail) | (first | ((with_reducible show SqL _ _ _ _); exact SqL.of (by walk_at "gb hp")) | ((with_reducible show SqT _ _ _ _); exact SqT.of (by walk_at "gb hp")) | ((with_reducible show SqL _ _ _ _ ∨ _); exact Or.inl (SqL.of (by walk_at "gb hp"))) | ((with_reducible show _ ∨ SqT _ _ _ _); exact Or.inr (SqT.of (by walk_at "gb hp"))) | ((with_reducible show SqT _ _ _ _ ∨ _); exact Or.inl (SqT.of (by walk_at "gb hp"))) | ((with_reducible show _ ∨ SqL _ _ _ _); exact Or.inr (SqL.of (by walk_at "gb hp"))) | ((with_reducible show ∃ _, SqT _ _ _ _); exact ⟨_, SqT.of (by walk_at "gb hp")⟩) | ((with_reducible show ∃ _, SqL _ _ _ _); exact ⟨_, SqL.of (by walk_at "gb hp")⟩) | fail) | (first | exact Or.inl ⟨rfl, _, SqL.of (by walk_at "gb hp")⟩ | exact .lst (SqL.of (by walk_at "gb hp")) (dpInts _) | exact .tup (SqT.of (by walk_at "gb hp")) (dpInts _) | exact .lst (SqL.of (by walk_at "gb hp")) (dpStrs _) | exact .tup (SqT.of (by walk_at "gb hp")) (dpStrs _) | exact .lst (SqL.of (by walk_at "gb hp")) .nil | exact .int _ | exact .str _ | exact .non | exact shL _ | exact shT _ | exact shSL (by assumption) | exact shST (by assumption) | exact fun _ h => h | exact flat_str _ | exact flat_int _ | fail) | (first | assumption | ((with_reducible show DrawAt _ _ _); first | assumption | exact DrawAt.mono (by assumption) (by walk_at "gb same")) | ((with_reducible show FormsAt _ _); first | assumption | exact FormsAt.mono (by assumption) (by walk_at "gb same")) | ((with_reducible show Eqv _ _ _ _); first | assumption | exact Eqv.str 0 _ | exact Eqv.int 0 _ | exact eqvNo (by walk_at "gb hp") (by walk_at "gb hp") | exact eqvYes (by walk_at "gb hp") (by walk_at "gb hp") (by walk_at "gb hp") (by walk_at "gb hp") (by omega) | exact eqvEv (by walk_at "gb hp") (by walk_at "gb hp") (by omega) | exact Eqv.mono (by walk_at "gb same") (by assumption)) | ((with_reducible show DrawAt _ _ _); exact DrawAt.put (by assumption) (by assumption) (by assumption)) | ((with_reducible show Cd _); exact cd_of (by assumption)) | ((with_reducible show Eqv _ _ (V.bl _) (V.bl _)); first | exact Eqv.bl 0 _ | exact eqv_flip) | ((with_reducible show Eqv _ _ _ _); exact eqvBI (by walk_at "gb hp") (by walk_at "gb hp")) | ((with_reducible show Eqv _ _ _ _); exact eqv_tx (by assumption)) | ((with_reducible show DrawAt _ _ _); exact DrawAt.put (DrawAt.mono (by assumption) (by walk_at "gb same")) (by assumption) (by assumption)) | ((with_reducible show BookAt _ _ _ _); first | assumption | exact BookAt.mono (by assumption) (by walk_at "gb same")) | ((with_reducible show EvAll _ _); first | assumption | exact EvAll.mono (by assumption) (by walk_at "gb same")) | fail) | walk_at "gb same" | walk_at "gb but" | (first | omega | decide +kernel | (simp only [List.length_append, List.length_map, List.length_cons, List.length_nil, List.length_take, List.length_zipWith, List.length_replicate]; omega) | (rw [sizeLine_eq]; (first | omega | (simp only [List.length_append, List.length_map, List.length_cons, List.length_nil, List.length_take, List.length_zipWith, List.length_replicate]; omega))) | (simp only [List.length_append, List.length_map, List.length_cons, List.length_nil, List.length_take, List.length_zipWith, List.length_replicate] at *; omega) | fail) | exact ⟨by omega, by omega⟩ | ((with_reducible show _ = some (HO.ins _ _ _)); exact bk_get (by first | assumption | exact BookAt.mono (by assumption) (by walk_at "gb same"))) | ((with_reducible show FlatS _); first | assumption | exact flats (by assumption) | exact flats (evs_of (by assumption) (by assumption))) | exact notFirst_self | ((with_reducible show TyX _ _ _ _); refine tb_ins (by first | assumption | exact BookAt.mono (by assumption) (by walk_at "gb same")) ?_; intro dxx ttx hbx; exact .base (.ins hbx (by assumption : Txt _ _ _).cl_Book (by assumption : Txt _ _ _).k1_Book (by assumption : Txt _ _ _).kg (by assumption : Txt _ _ _).kt (by assumption : Txt _ _ _).k4_Book)) | ((with_reducible show PySem.W.kitAny _ _ _ = _); first | exact kit_anyF (by assumption : Txt _ _ _).kt_BadLine_BadEvent (by assumption : Txt _ _ _).kt_BadLine_NoEvent | exact kit_anyF (by assumption : Txt _ _ _).kt_NoEvent_BadLine (by assumption : Txt _ _ _).kt_NoEvent_BadEvent) | ((show spBIter _ _ _ _ _); exact ⟨_, _, _, _, rfl, by walk_at "gb hp", by walk_at "gb hp", fun it h => ⟨it, rfl, h, rfl⟩⟩) | ((show spBLen _ _ _ _ _); exact ⟨_, _, rfl, BookAt.mono (by assumption) (by walk_at "gb same"), by rw [rfs_len], rfl⟩) | ((with_reducible show _ = some (HO.lst (rfs _)) ∨ _); first | exact Or.inl (by walk_at "gb hp") | exact Or.inr (by walk_at "gb hp")) | exact flat_tt _ | exact nl_is | ((with_reducible show ∃ z : Str, V.str _ = V.str z); exact ⟨_, rfl⟩) | ((with_reducible show SqL _ _ _ _); refine Same.seq ?ee (by assumption); (case ee => walk_at "gb same")) | ((with_reducible show SqL _ _ _ _ ∨ _); refine Or.inl (Same.seq ?ee (by assumption)); (case ee => walk_at "gb same")) | exact ⟨rfl⟩ | ((with_reducible show PySem.W.kitAny _ _ _ = _); first | exact kit_anyF (by assumption : Txt _ _ _).kt_BadEvent_BadLine (by assumption : Txt _ _ _).kt_BadEvent_BadName | exact kit_anyF (kit_ty (by decide +kernel)) (kit_ty (by decide +kernel)) | exact kit_anyT (kit_ty (by decide +kernel)) (kit_ty (by decide +kernel))) | ((with_reducible show Paired ClsV _ _); first | exact .cons (.own _) (.cons (.own _) .nil) | exact .cons (.ty _) (.cons (.ty _) .nil)) | ((with_reducible show ∃ _, SqL _ _ _ _); refine ⟨_, Same.seq ?ee (by assumption)⟩; (case ee => walk_at "gb same")) | exact sIx1 (by omega) _ | fail | fail) | fail))
local macro_rules | `(tactic| walk_at "gb num") => `(tactic| (first | omega | decide +kernel | (simp only [List.length_append, List.length_map, List.length_cons, List.length_nil, List.length_take, List.length_zipWith, List.length_replicate]; omega) | (rw [sizeLine_eq]; (first | omega | (simp only [List.length_append, List.length_map, List.length_cons, List.length_nil, List.length_take, List.length_zipWith, List.length_replicate]; omega))) | (simp only [List.length_append, List.length_map, List.length_cons, List.length_nil, List.length_take, List.length_zipWith, List.length_replicate] at *; omega) | fail))
local macro_rules | `(tactic| walk_at "gb step") => `(tactic| (first | ((with_reducible show RaiseG _ _ _ _ _ _); refine raiseG_in (by first | exact (by assumption : Txt _ _ _).cl_Book | exact (by assumption : Txt _ _ _).no_Book_events | exact (by assumption : Txt _ _ _).x_BadEvent | exact (by assumption : Txt _ _ _).xc_BadEvent | exact (by assumption : Txt _ _ _).xm_BadEvent | exact (by assumption : Txt _ _ _).xs_BadEvent | exact (by assumption : Txt _ _ _).x_BadLine | exact (by assumption : Txt _ _ _).xc_BadLine | exact (by assumption : Txt _ _ _).xm_BadLine | exact (by assumption : Txt _ _ _).xs_BadLine | exact (by assumption : Txt _ _ _).x_NoEvent | exact (by assumption : Txt _ _ _).xc_NoEvent | exact (by assumption : Txt _ _ _).xm_NoEvent | exact (by assumption : Txt _ _ _).xs_NoEvent | exact (by assumption : Txt _ _ _).kt_BadEvent_BadEvent | exact (by assumption : Txt _ _ _).kt_BadLine_BadLine | exact (by assumption : Txt _ _ _).kt_BadLine_GangError | exact (by assumption : Txt _ _ _).kt_BadLine_ValueError | exact (by assumption : Txt _ _ _).kt_BadLine_BadEvent | exact (by assumption : Txt _ _ _).kt_BadLine_NoEvent | exact (by assumption : Txt _ _ _).kt_NoEvent_NoEvent | exact (by assumption : Txt _ _ _).kt_NoEvent_GangError | exact (by assumption : Txt _ _ _).kt_NoEvent_BadLine | exact (by assumption : Txt _ _ _).kt_NoEvent_BadEvent | exact bf_events _ | fail) ?_) | ((show _ ∧ _); refine And.intro (by walk_at "gb leaf") ?_) | ((show (_ → _) ∧ (_ ≠ _ → _)); refine And.intro (fun _ => ?_) (fun h => absurd (by first | assumption | omega | (simp only [List.length_append, List.length_map, List.length_cons, List.length_nil, List.length_take, List.length_zipWith, List.length_replicate]; omega)) h)) | ((show Exists _); refine ⟨_, fun (_ : L2.St) (_ : Hp) h => h, ?_⟩) | ((show Exists _);  (fail_if_success show ∃ mm : Nat, mm < _ ∧ _); (fail_if_success refine Exists.intro (fun (_ : L2.St) (_ : Hp) => True) ?_); (fail_if_success refine Exists.intro (fun _ _ _ _ => True) ?_); (fail_if_success refine Exists.intro (fun (_ _ : Nat) (_ : List L2.V) (_ : L2.St) (_ : Hp) => True) ?_); (fail_if_success refine Exists.intro (fun _ _ _ => True) ?_); apply Exists.intro) | ((show ite _ _ _); (try (first | rw [eqv00] | rw [eqvL, decide_eq_true rfl] | rw [eqvT, decide_eq_true rfl] | rw [eqvL] | rw [eqvT] | rw [eqvSL, decide_eq_true rfl] | rw [eqvST, decide_eq_true rfl] | rw [eqvSL0] | rw [eqvSL] | rw [eqvST] | rw [inV_strs] | rw [inV_kv])); ((first | refine iteT ?_ | refine iteF ?_ | refine iteI (fun _ => ?_) (fun _ => ?_) | refine iteIN (fun _ => ?_) (fun _ => ?_) | refine iteD (fun _ => ?_) (fun _ => ?_) | refine iteDN (fun _ => ?_) (fun _ => ?_) | refine iteB (fun _ => ?_) (fun _ => ?_)) <;> try (exfalso; first | contradiction | omega | exact dec_abs (by assumption) (by assumption) | exact bool_abs (by assumption) (by assumption) | exact bool_abs2 (by assumption) (by assumption) | (rename_i hcc; revert hcc; simp; done)))) | ((show _ ∨ _); (first | (refine Or.inl ?_; apply Exists.intro; refine And.intro (by walk_at "gb leaf") ?_) | (refine Or.inr ?_; apply Exists.intro; refine And.intro (by walk_at "gb leaf") ?_) | (refine Or.inl (And.intro (by walk_at "gb leaf") ?_)) | (refine Or.inr (And.intro (by walk_at "gb leaf") ?_)))) | ((conv => whnf); (with_reducible show ∀ (x dx : Addr), _ = none → _ = none → dx ≠ x → _); first | (refine book_made (by walk_at "gb leaf") (by walk_at "gb leaf") ?_) | (refine book_made2 (by walk_at "gb leaf") (by walk_at "gb leaf") ?_)) | (first | ((with_reducible show Same _ _); walk_at "gb same") | ((with_reducible show SameBut _ _ _); walk_at "gb but")) | ((show rIx _ _ _ _ _); first | (refine ix_l (by walk_at "gb leaf") (by walk_at "gb leaf") ?_) | (refine ix_t (by walk_at "gb leaf") (by walk_at "gb leaf") ?_)) | intro _))
local macro_rules | `(tactic| walk_at "gb go") => `(tactic| (repeat' walk_at "gb step"))

section
variable {P : Program} {w : World} {K : PySem.W.Frag} {mg : Str → Option Value} {base : Heap} {A : Adr}
theorem ok_GangError_init (T : Txt (w := w) K mg A) : FnOk P w K mg base CX0 1 A.f_GangError_init A.d_GangError_init ["self", "subject"] (spGI K) := by
  refine T.F_GangError_init.ok sc_GangError_init (fun vs H Q E h => ?_) (fun cdv Ar outer s H vs Q E hr h => ?_)
  · obtain ⟨a, C, v, rfl, _⟩ := h
    rfl
  · obtain ⟨a, C, v, rfl, hT, hn, ha, k⟩ := h
    refine ⟨_, (pss_one (ps_ost (pv 0) (pv 1))), ?_⟩
    exact ⟨_, rfl, _, rfl, a, C, rfl, hT, hn, .inl ⟨ha, k⟩⟩
theorem okh_GangError_init (T : Txt (w := w) K mg A) : L2H.FnH P w K mg base CX0 1 A.f_GangError_init A.d_GangError_init ["self", "subject"] (spGI K) := by
  refine T.F_GangError_init.okH sc_GangError_init (fun vs H Q E h => ?_) (fun cdv Ar outer s H vs Q E p0 hot hr h => ?_)
  · obtain ⟨a, C, v, rfl, _⟩ := h
    rfl
  · obtain ⟨a, C, v, rfl, hT, hn, ha, k⟩ := h
    refine ⟨_, (pss_one (ps_ost (pv 0) (pv 1))), ?_⟩
    exact ⟨_, rfl, _, rfl, a, C, rfl, hT, hn, .inl ⟨ha, k⟩⟩
theorem ok_is_digits (T : Txt (w := w) K mg A) : FnOk P w K mg base CX0 1 A.f_is_digits A.d_is_digits ["text"] (spDig) := by
  refine T.F_is_digits.ok sc_is_digits (fun vs H Q E h => ?_) (fun cdv Ar outer s H vs Q E hr h => ?_)
  · obtain ⟨z, t, rfl, _⟩ := h
    rfl
  · obtain ⟨z, t, rfl, hz, hl, k⟩ := h
    refine ⟨_, (pss_one (ps_ret (pe_and (pe_cmpR op_ne (pv 0) pe_str (nomark _)) (pe_one (pe_callB (cr_all rfl) (by rfl) T.n_all (by decide +kernel) (pa_cons (pe_lc (own := [("char", 1)]) (g := gName 1) (tt := tYes) rfl sc_is_digits.nd (pi_str (pv 0)) (blkOk_by (N := ["text", "char"]) (sc := defScope s_is_digits) (by decide +kernel)) (fun _ _ _ _ _ => (pg_name (i := 1) sc_is_digits.nd rfl (Or.inl rfl))) (fun _ _ _ _ _ => pts_nil) (fun _ _ _ _ _ => (pe_cmpR op_in_sign (pv 1) (pe_glob (v := .str (Str.ofString "0123456789")) rfl T.k_DIGITS.choose_spec ⟨_, rfl⟩) rfl))) pa_nil)))))), ?_⟩
    obtain ⟨rfl⟩ := hz
    walk_at "gb go"
    · rename_i h
      have z := k H (Same.refl _)
      rw [str_nil.mp h] at z
      exact z
    · rename_i h D hD
      have hne : t ≠ [] := fun z => h (str_nil.mpr z)
      refine lc_txt (t := t) (fun i Hq => Same H Hq ∧ Hq D = some (.lst (((t.map fun c => decide (c ∈ digs)).map V.bl).take i))) ⟨same_new hD, upd_same⟩ ?_ ?_
      · rintro i c H' hi ⟨s', hD'⟩
        walk_at "gb go"
        exact lc_end (get_bl hi rfl)
      · rintro HD ⟨sD, hDD⟩
        rw [take_all (by simp)] at hDD
        have z := k HD sD
        rw [isD_ne hne] at z
        exact ⟨D, _, rfl, SqL.of hDD, z⟩
theorem ok_is_number (T : Txt (w := w) K mg A) : FnOk P w K mg base CX0 2 A.f_is_number A.d_is_number ["word", "most"] (spNum) := by
  refine T.F_is_number.ok sc_is_number (fun vs H Q E h => ?_) (fun cdv Ar outer s H vs Q E hr h => ?_)
  · obtain ⟨z, t, rfl, _⟩ := h
    rfl
  · obtain ⟨z, t, rfl, hz, hl, k⟩ := h
    refine ⟨_, (pss_one (ps_ret (pe_and (pe_call (ok_is_digits T) (hr.mono (by decide)) rfl T.g_is_digits T.F_is_digits.kp T.b_is_digits .nil pass0 (pa_cons (pv 0) pa_nil)) (pe_and (pe_cmpR op_le (pe_callB call_len_str (by rfl) T.n_len (by decide +kernel) (pa_cons (pv 0) pa_nil)) (pv 1) (nomark _)) (pe_one (pe_or (pe_cmpR op_eq (pv 0) pe_str (nomark _)) (pe_one (pe_cmpR op_ne (pe_ix ix_str (pv 0) pe_int (fun _ _ => rfl)) pe_str (nomark _))))))))), ?_⟩
    obtain ⟨rfl⟩ := hz
    have hsz : (S t).length ≤ sizeLine := by rw [S_len, sizeLine_eq]; omega
    have hln := S_len t
    cases t with
    | nil =>
      have e0 : isD [] = false := rfl
      have e1 : nm [] = false := rfl
      rw [e1] at k
      walk_at "gb go"
      exact k _ (by assumption)
    | cons c r =>
      have hc0 : atI (S (c :: r)).cps.toList 0 = some c := atI_nat (j := 0) rfl
      walk_at "gb go"
      · rename_i h1 h2 h3
        rw [nmT h1 h2 h3] at k
        exact k _ (by assumption)
      · rename_i h1 h2 h3
        rw [nmX h1 h2 h3] at k
        exact k _ (by assumption)
      · rename_i h1 h2
        rw [nmF h2] at k
        exact k _ (by assumption)
      · rename_i h1
        rw [nmD h1] at k
        exact k _ (by assumption)
theorem ok_event_line (T : Txt (w := w) K mg A) : FnOk P w K mg base CX0 1 A.f_event_line A.d_event_line ["event"] (spELine) := by
  refine T.F_event_line.ok sc_event_line (fun vs H Q E h => ?_) (fun cdv Ar outer s H vs Q E hr h => ?_)
  · obtain ⟨a, ns, rfl, _⟩ := h
    rfl
  · obtain ⟨a, ns, rfl, ha, hE, k⟩ := h
    refine ⟨_, (pss_one (ps_ret (pe_join pe_str (pe_lc (own := [("item", 1)]) (g := gName 1) (tt := tYes) rfl sc_event_line.nd (pi_tupK K (pv 0)) (blkOk_by (N := ["event", "item"]) (sc := defScope s_event_line) (by decide +kernel)) (fun _ _ _ _ _ => (pg_name (i := 1) sc_event_line.nd rfl (Or.inl rfl))) (fun _ _ _ _ _ => pts_nil) (fun _ _ _ _ _ => (pe_callTy call_str2 (by rfl) T.n_str (by decide +kernel) (pa_cons (pv 1) pa_nil))))))), ?_⟩
    have hT := hE.txts
    have hF := ev_flat hE
    walk_at "gb go"
    rename_i D hD
    refine lc_tup (K := K) (a := a) (xs := ns.map flv) (fun i Hq => Same H Hq ∧ Hq D = some (.lst ((((ns.map N.txt).map S).map V.str).take i))) ⟨same_new hD, upd_same⟩ (fun i Hq _ h => SqT.of (h.1 _ _ ha)) ?_ ?_
    · rintro i x Hq hi ⟨s1, e1⟩
      obtain ⟨n, hn, rfl⟩ := getMapG hi
      have hi' : i < ns.length := (List.getElem?_eq_some_iff.mp hn).1
      rcases hF n (List.mem_of_getElem? hn) with ⟨w, rfl⟩ | ⟨m, hm, rfl⟩
      · have hv : flv (.wrd w) = .str (S w) := rfl
        rw [hv]
        walk_at "gb go"
        exact lc_end (by rw [List.getElem?_map, List.getElem?_map, List.getElem?_map, hn]; rfl)
      · have hv : flv (.num (m : Int)) = .int (m : Int) := rfl
        rw [hv]
        have hlg := log6 hm
        walk_at "gb go"
        exact lc_end (by rw [List.getElem?_map, List.getElem?_map, List.getElem?_map, hn]; exact congrArg (fun z => some (V.str z)) (numS (m : Int)).symm)
    · rintro Hq ⟨s1, e1⟩
      have e2 : Hq D = some (.lst (((ns.map N.txt).map S).map V.str)) := by rw [e1, take_all (by simp)]
      have hsz := sum60 (l := (ns.map N.txt).map S) (s := Str.ofString " ") (by
        intro z hz
        obtain ⟨t, ht, rfl⟩ := List.mem_map.mp hz
        rw [S_len]
        have := (hT.1 t ht).2
        omega) (by simp; omega) (by decide +kernel)
      walk_at "gb go"
      rw [join_wt]
      exact k _ s1
theorem ok_read_event (T : Txt (w := w) K mg A) : FnOk P w K mg base (L2N.CX P w) 3 A.f_read_event A.d_read_event ["line"] (spRead A) := by
  refine T.F_read_event.okXN sc_read_event (fun vs H Q E h => ?_) (fun cdv Ar outer s H vs Q E hr h => ?_)
  · obtain ⟨z, t, r, rfl, _⟩ := h
    rfl
  · obtain ⟨z, t, r, rfl, hz, hl, hr2, k⟩ := h
    refine ⟨_, (pss_cons (ps_asg (pe_bm PySem.F.plainAttrs_str PySem.F.slot_str_split PySem.F.type_str_split mt_split (pv 0) (pa_cons pe_str pa_nil)) (pg_star rfl (pgs_cons (pg_name (i := 1) sc_read_event.nd rfl (Or.inl rfl)) (pgs_cons (pg_name (i := 2) sc_read_event.nd rfl (Or.inl rfl)) pgs_nil))))
        (pss_cons (ps_if (PW.pt (pw_or (pt_cmpR (op_notIn_kdS T.D_FORMS) (pv 1) (pe_glob (v := .ref A.kd_FORMS) rfl T.g_FORMS rfl) (by rfl)) (pw_or1 (pt_cmpR op_ne (pe_callB (call_len_seqK K) (by rfl) T.n_len (by decide +kernel) (pa_cons (pv 2) pa_nil)) (pe_callB call_len_str (by rfl) T.n_len (by decide +kernel) (pa_cons (pe_ix (ix_kdS T.D_FORMS) (pe_glob (v := .ref A.kd_FORMS) rfl T.g_FORMS rfl) (pv 1) (fun _ _ => rfl)) pa_nil)) (nomark _))))) (pss_one (ps_raiseGN rfl T.x_BadEvent (ok_GangError_init T) (hr.mono (by decide)) T.b_GangError_init rfl T.g_BadEvent (L2N.takes_of rfl rfl rfl rfl) (pv 0))) pss_nil)
        (pss_cons (ps_set (i := 3) sc_read_event.nd rfl (Or.inl rfl) (pe_lst pa_nil))
        (pss_cons (ps_for (passes_of rfl) rfl (pi_zipSLK K rfl T.n_zip (pa_cons (pe_ix (ix_kdS T.D_FORMS) (pe_glob (v := .ref A.kd_FORMS) rfl T.g_FORMS rfl) (pv 1) (fun _ _ => rfl)) (pa_cons (pv 2) pa_nil))) (pg_tup rfl (pgs_cons (pg_name (i := 4) sc_read_event.nd rfl (Or.inl rfl)) (pgs_cons (pg_name (i := 5) sc_read_event.nd rfl (Or.inl rfl)) pgs_nil)))
        (pss_cons (ps_if (PW.pt (pw_or (pt_cmpR op_eq (pv 5) pe_str (nomark _)) (pw_or (pt_cmpR op_in_sign pe_str (pv 5) rfl) (pw_or1 (PW.pt (pw_and (pt_cmpR op_eq (pv 4) pe_str (nomark _)) (pw_and1 (pt_not (pt_val (pe_call (ok_is_number T) (hr.mono (by decide)) rfl T.g_is_number T.F_is_number.kp T.b_is_number .nil pass0 (pa_cons (pv 5) (pa_cons (pe_glob (v := .int 6) rfl T.k_MOST_DIGITS.choose_spec ⟨_, rfl⟩) pa_nil))) (by intro _; rfl)))))))))) (pss_one (ps_raiseGN rfl T.x_BadEvent (ok_GangError_init T) (hr.mono (by decide)) T.b_GangError_init rfl T.g_BadEvent (L2N.takes_of rfl rfl rfl rfl) (pv 0))) pss_nil)
        (pss_one (ps_expr (pe_bm PySem.F.plainAttrs_list PySem.F.slot_list_append PySem.F.type_list_append mt_append (pv 3) (pa_cons (pe_ifExp (pt_cmpR op_eq (pv 4) pe_str (nomark _)) (pe_callTy call_int_str (by rfl) T.n_int (by decide +kernel) (pa_cons (pv 5) pa_nil)) (pv 5)) pa_nil))))))
        (pss_one (ps_ret (pe_tup (pa_cons (pv 1) (StX.pa_star (pv 3) pa_nil))))))))), ?_⟩
    obtain ⟨rfl⟩ := hz
    have hkb := fun h => bd hr2 h k
    have hkf := fun {ns : List N} (h : rdE t = some ns) => fine hr2 h k
    clear k
    obtain ⟨w, ts, hpt⟩ : ∃ w ts, parts t = w :: ts := by
      cases e : parts t with
      | nil => exact absurd e (parts_ne t)
      | cons w ts => exact ⟨w, ts, rfl⟩
    have hrd := rdE_cons hpt
    have hcnt := parts_cnt t
    have hpl := parts_len t
    rw [hpt] at hcnt hpl
    repeat' ((fail_if_success (show _ ∧ rNewStrs _ _ _)); walk_at "gb step")
    rw [parts_split, hpt]
    refine ⟨by rw [S_len, sizeLine_eq]; omega, ?_⟩
    simp only [List.map_cons]
    have hl1 : ((ts.map S).map V.str).length = ts.length := by simp
    have hl2 : ((ts.map S).map V.str).length ≤ 16000 := by simp only [List.length_cons] at hcnt; omega
    cases hf : kdv EV.PF (S w) with
    | none =>
      rw [show fk (S w) = none from hf] at hrd
      have hns : (!(none : Option Str).isSome) = true := rfl
      rw [← hf] at hns
      walk_at "gb go"
      exact hkb hrd _ _ (by walk_at "gb same") upd_same
    | some ks =>
      rw [show fk (S w) = some ks from hf] at hrd
      have hns : (!(some ks : Option Str).isSome) = false := rfl
      rw [← hf] at hns
      have hfk := fk_ok hf
      have hkl := len_tl ks
      have hks : ks.length ≤ sizeLine := by have := hfk.len.2.2; rw [sizeLine_eq]; omega
      by_cases hlen : (tl ks).length = ts.length
      · walk_at "gb go"
        rename_i p0 hp0 D hD _ _ L hL
        have sL : Same H (upd (upd (upd H p0 (HO.lst (List.map V.str (S w :: List.map S ts)))) D (HO.lst (List.map V.str (List.map S ts)))) L (.lst [])) := by walk_at "gb same"
        have hD2 : (upd (upd (upd H p0 (HO.lst (List.map V.str (S w :: List.map S ts)))) D (HO.lst (List.map V.str (List.map S ts)))) L (.lst [])) D = some (HO.lst (List.map V.str (List.map S ts))) := by walk_at "gb hp"
        have s0 : Same H (upd (upd H p0 (HO.lst (List.map V.str (S w :: List.map S ts)))) D (HO.lst (List.map V.str (List.map S ts)))) := by walk_at "gb same"
        have fL : H L = none := s0.free hL
        have nDL : D ≠ L := ne_of_none upd_same hL
        have eL : (upd (upd (upd H p0 (HO.lst (List.map V.str (S w :: List.map S ts)))) D (HO.lst (List.map V.str (List.map S ts)))) L (.lst [])) L = some (.lst []) := upd_same
        generalize (upd (upd (upd H p0 (HO.lst (List.map V.str (S w :: List.map S ts)))) D (HO.lst (List.map V.str (List.map S ts)))) L (.lst [])) = H1 at sL hD2 eL ⊢
        refine for_it (walk_SL (K := K) (z := ks) (b := D) (ys := (ts.map S).map V.str) (by rw [hl1, ← hlen]; exact hkl)) (fun i σ H' => ∃ v4 v5 : Option V, σ = [some (.str (S t)), some (.str (S w)), some (.ref D), some (.ref L), v4, v5] ∧ Same H H' ∧ H' D = some (.lst ((ts.map S).map V.str)) ∧ ItsAt H' L (tl ks) ts i) ⟨_, _, rfl, sL, hD2, [], eL, .nil⟩ (fun i σ H' _ ⟨_, _, _, _, h, _⟩ => SqL.of h) ?_ ?_
        · rintro i x σ H' H2 hi ⟨v4, v5, rfl, s1, d1, ns, e1, so⟩ ⟨T, c, y, rfl, hT, rfl, hc, hy⟩
          obtain ⟨y1, hy1, rfl⟩ := getMapG hy
          obtain ⟨u, hu, rfl⟩ := getMapG hy1
          clear hL hD hp0 s0 eL
          have hkc : (tl ks)[i]? = some c := by rw [← Array.getElem?_toList] at hc; exact hc
          have hcW := hfk.ks c (List.mem_of_getElem? hkc)
          have hul : u.length ≤ 5000 := Nat.le_trans (hpl u (List.mem_cons_of_mem _ (List.mem_of_getElem? hu))) hl
          have hnl := so.1
          have hil : i < ts.length := (List.getElem?_eq_some_iff.mp hu).1
          have hsl : (ns.map flv).length < sizeLine := by rw [List.length_map, hnl, sizeLine_eq]; simp only [List.length_cons] at hcnt; omega
          have hbad : good c u = none → rdE t = none := fun g => by rw [hrd]; simp only [rdI_bad hkc hu g, Option.map_none]
          have mk : ∀ n, good c u = some n → ∀ (A9 : Hp), A9 L = some (.lst (ns.map flv ++ [flv n])) → ItsAt A9 L (tl ks) ts (i + 1) := fun n g A9 e => ⟨ns ++ [n], by rw [e, List.map_append]; rfl, so.snoc hkc hu g⟩
          cases hnm : nm u with
          | false =>
            have hnn : (!nm u) = true := by rw [hnm]; rfl
            walk_at "gb go"
            · rename_i h _ _
              exact hkb (hbad (by rw [str_nil.mp h]; exact good_nil)) _ _ (by walk_at "gb same") upd_same
            · rename_i h _ _
              exact hkb (hbad (good_nl h)) _ _ (by walk_at "gb same") upd_same
            · rename_i h _ _ _ _ _
              exact hkb (hbad (by rw [(sgn_iff big_N).mp h]; exact goodX hnm)) _ _ (by walk_at "gb same") upd_same
            · rename_i h1 h2 h3 _
              exact mk _ (goodW (fun e => h1 (str_nil.mpr e)) h2 (fun e => h3 ((sgn_iff big_N).mpr e))) _ upd_same
          | true =>
            have hnn : (!nm u) = false := by rw [hnm]; rfl
            have hin := int_dig (nm_isD hnm).1 (by have := (nm_isD hnm).2; omega)
            have hle : (S u).length ≤ 640 := by rw [S_len]; have := (nm_isD hnm).2; omega
            walk_at "gb go"
            · rename_i h _ _
              exact hkb (hbad (by rw [str_nil.mp h]; exact good_nil)) _ _ (by walk_at "gb same") upd_same
            · rename_i h _ _
              exact hkb (hbad (good_nl h)) _ _ (by walk_at "gb same") upd_same
            · rename_i h1 h2 h3 _ _ _ _
              have h3 := (sgn_iff big_N).mp h3
              subst h3
              exact mk _ (goodN (fun e => h1 (str_nil.mpr e)) h2 hnm) _ upd_same
            · rename_i h1 h2 h3 _
              exact mk _ (goodW (fun e => h1 (str_nil.mpr e)) h2 (fun e => h3 ((sgn_iff big_N).mpr e))) _ upd_same
        · rintro σ H' ⟨v4, v5, rfl, s1, d1, ns, e1, so⟩
          clear hL hD hp0 s0 eL
          rw [hl1] at so
          have hok := so.all hlen
          have hnl := so.1
          have hsl : (ns.map flv).length ≤ 16000 := by rw [List.length_map, hnl]; simp only [List.length_cons] at hcnt; omega
          walk_at "gb go"
          exact hkf (ns := .wrd w :: ns) (by rw [hrd]; simp only [hok, Option.map_some]) _ _ (by walk_at "gb same") (by rw [upd_same, List.append_nil]; rfl)
      · have hoff := rdI_off hlen
        walk_at "gb go"
        exact hkb (by rw [hrd]; simp only [hoff, Option.map_none]) _ _ (by walk_at "gb same") upd_same
theorem ok_Book_init (T : Txt (w := w) K mg A) : FnOk P w K mg base CX0 1 A.f_Book_init A.d_Book_init ["self", "events"] (spBI A) := by
  refine T.F_Book_init.ok sc_Book_init (fun vs H Q E h => ?_) (fun cdv Ar outer s H vs Q E hr h => ?_)
  · obtain ⟨p, dx, a, l, rfl, _⟩ := h
    rfl
  · obtain ⟨p, dx, a, l, rfl, hp, ha, hl, k⟩ := h
    refine ⟨_, (pss_one (ps_fld (pv 0) (pe_callTy call_tuple_of (by rfl) T.n_tuple (by decide +kernel) (pa_cons (pv 1) pa_nil)) rfl)), ?_⟩
    have hrl := @rfs_len l
    have nap : a ≠ p := fun z => by
      rcases ha with ha | ha
      · rw [z, hp] at ha; cases ha
      · rw [z, hp] at ha; cases ha
    rcases ha with ha | ha
    · walk_at "gb go"
      exact k _ _ (by walk_at "gb but") (by walk_at "gb hp") upd_same
    · walk_at "gb go"
      exact k _ _ (by walk_at "gb but") (by walk_at "gb hp") upd_same
theorem ok_Book_read (T : Txt (w := w) K mg A) : FnOk P w K mg base (L2.CX P w) 5 A.f_Book_read A.d_Book_read ["cls", "text"] (spBRead A) := by
  refine T.F_Book_read.okX sc_Book_read (fun vs H Q E h => ?_) (fun cdv Ar outer s H vs Q E hr h => ?_)
  · obtain ⟨z, t, r, rfl, _⟩ := h
    rfl
  · obtain ⟨z, t, r, rfl, hz, hl, hr2, k⟩ := h
    refine ⟨_, (pss_cons (ps_set (i := 2) sc_Book_read.nd rfl (Or.inl rfl) (pe_ifExp (pt_cmpR op_ne (pv 1) pe_str (nomark _)) (pe_bm PySem.F.plainAttrs_str PySem.F.slot_str_split PySem.F.type_str_split mt_split (pv 1) (pa_cons pe_str pa_nil)) (pe_lst pa_nil))) (pss_cons (ps_set (i := 3) sc_Book_read.nd rfl (Or.inl rfl) (pe_lst pa_nil)) (pss_cons (ps_for (passes_of rfl) rfl (pi_enumS K rfl T.n_enumerate (pa_cons (pv 2) pa_nil) pe_int) (pg_tup rfl (pgs_cons (pg_name (i := 4) sc_Book_read.nd rfl (Or.inl rfl)) (pgs_cons (pg_name (i := 5) sc_Book_read.nd rfl (Or.inl rfl)) pgs_nil))) (pss_one (ps_try_asXD K (i := 6) rfl rfl sc_Book_read.nd rfl rfl ⟨rfl, by decide, Or.inl T.g_BadEvent⟩ (L2.takes_of rfl rfl rfl rfl) (fun W pn xe tk _ => (pss_one (ps_expr (pe_bmK K PySem.F.plainAttrs_list PySem.F.slot_list_append PySem.F.type_list_append mt_append (pv 3) (pa_cons (pe_callS (ok_read_event T) (hr.mono (by decide)) rfl T.g_read_event T.F_read_event.kp T.b_read_event (fun σ => L2N.passAt tk σ) (pa_cons (pv 5) pa_nil)) pa_nil))))) (fun a oe cls d pn xe hz hf tk2 hot => (pss_one (ps_raiseFromGK K (i := 6) hot T.x_BadLine (okh_GangError_init T) (L2H.roomH_mark (hr.mono (show 2 ≤ 4 by decide)) _) T.b_GangError_init rfl T.g_BadLine tk2 (pv 4) rfl (Or.inl rfl) List.mem_cons_self hz.1 hf.choose_spec)))))) (pss_one (ps_ret (pe_mkL (i := 0) rfl (Or.inl rfl) T.mk_Book (ok_Book_init T) (hr.mono (by decide)) T.b_Book_init .nil pass0 (pa_cons (pv 3) pa_nil))))))), ?_⟩
    obtain ⟨rfl⟩ := hz
    have hcnt := @ls_cnt t
    have hln := S_len t
    by_cases h0 : t = []
    · have hem : V.str (S t) = V.str (Str.ofString "") := str_nil.mpr h0
      walk_at "gb go"
      rename_i a0 h9 L hL
      have s0 : Same H (upd H a0 (.lst [])) := same_new h9
      have ha0 : upd H a0 (.lst []) a0 = some (.lst (((LS t).map S).map V.str)) := by rw [upd_same]; unfold LS; rw [if_pos h0]; rfl
      clear h9
      generalize upd H a0 (.lst []) = H0 at s0 ha0 hL ⊢
      have fL : H L = none := s0.free hL
      have naL : a0 ≠ L := ne_of_none ha0 hL
      refine for_it (walk_ES (K := K) (a := a0) (k := 1) (xs := ((LS t).map S).map V.str)) (fun i σ H' => ∃ v4 v5 v6 : Option V, σ = [some (.ref A.c_Book), some (.str (S t)), some (.ref a0), some (.ref L), v4, v5, v6] ∧ Same H H' ∧ H' a0 = some (.lst (((LS t).map S).map V.str)) ∧ BkSo H' L (LS t) i) ⟨_, _, _, rfl, same_nw s0 hL, by walk_at "gb hp", [], upd_same, (fun q h => by cases h), rfl, fun j u q _ h => by cases h⟩ (fun i σ H' _ ⟨_, _, _, _, _, h, _⟩ => SqL.of h) ?_ ?_
      · rintro i x σ H' H2 hi ⟨v4, v5, v6, rfl, s1, d1, l, e1, e2, e3, e4⟩ ⟨T2, y, rfl, hT, rfl, hy⟩
        obtain ⟨y1, hy1, rfl⟩ := getMapG hy
        obtain ⟨u, hu, rfl⟩ := getMapG hy1
        have hum := List.mem_of_getElem? hu
        have huf := ls_fine hum
        have hil : i < (LS t).length := (List.getElem?_eq_some_iff.mp hu).1
        have hsl : (rfs l).length < sizeLine := by rw [rfs_len, sizeLine_eq]; omega
        have hul : u.length ≤ 5000 := by omega
        clear s0 ha0 hL hi hy hy1
        cases hru : rdE u with
        | none =>
          have hre : RE u none := ⟨hru⟩
          have kb := finb_bad hr2 k (so_bad e3 e4 hu hru)
          clear k
          walk_at "gb go"
          refine ⟨fun _ ex hex => ?_, fun q => nomatch q⟩
          walk_at "gb go"
          exact ⟨kb _ _ (by walk_at "gb same") upd_same, rfl, _, rfl, T.x_BadEvent.oex⟩
        | some ns =>
          have hre : RE u (some ns) := ⟨hru⟩
          clear k
          walk_at "gb go"
          rename_i p9 H9 s9 e9
          have s8 : Same H' H9 := (same_new hT).trans s9
          exact ⟨l ++ [(p9, ns)], by rw [← rfs_cat]; exact upd_same, EvAll.put (EvAll.snoc (e2.mono s8) e9) (s8 _ _ e1), by simp; omega, so_snoc2 e3 e4 hu hru⟩
      · rintro σ H' ⟨v4, v5, v6, rfl, s1, d1, l, e1, e2, e3, e4⟩
        rw [List.length_map, List.length_map] at e3
        have ka := finb_all hr2 k (so_all e3 e4)
        have hll : l.length ≤ 6000 := by omega
        clear k s0 ha0 hL
        walk_at "gb go"
        rename_i b9 H9 s9 hB
        exact ka b9 l H9 (s1.trans s9) hB (e2.mono s9) rfl
    · have hem : ¬ V.str (S t) = V.str (Str.ofString "") := fun e => h0 (str_nil.mp e)
      repeat' ((fail_if_success (show _ ∧ rNewStrs _ _ _)); walk_at "gb step")
      rw [nls_split]
      refine ⟨by rw [S_len, sizeLine_eq]; omega, ?_⟩
      walk_at "gb go"
      rename_i a0 h9 L hL
      have els : LS t = nls t := by unfold LS; rw [if_neg h0]
      rw [← els] at hL ⊢
      have s0 : Same H (upd H a0 (.lst (((LS t).map S).map V.str))) := same_new h9
      have ha0 : upd H a0 (.lst (((LS t).map S).map V.str)) a0 = some (.lst (((LS t).map S).map V.str)) := upd_same
      clear h9
      generalize upd H a0 (.lst (((LS t).map S).map V.str)) = H0 at s0 ha0 hL ⊢
      have fL : H L = none := s0.free hL
      have naL : a0 ≠ L := ne_of_none ha0 hL
      refine for_it (walk_ES (K := K) (a := a0) (k := 1) (xs := ((LS t).map S).map V.str)) (fun i σ H' => ∃ v4 v5 v6 : Option V, σ = [some (.ref A.c_Book), some (.str (S t)), some (.ref a0), some (.ref L), v4, v5, v6] ∧ Same H H' ∧ H' a0 = some (.lst (((LS t).map S).map V.str)) ∧ BkSo H' L (LS t) i) ⟨_, _, _, rfl, same_nw s0 hL, by walk_at "gb hp", [], upd_same, (fun q h => by cases h), rfl, fun j u q _ h => by cases h⟩ (fun i σ H' _ ⟨_, _, _, _, _, h, _⟩ => SqL.of h) ?_ ?_
      · rintro i x σ H' H2 hi ⟨v4, v5, v6, rfl, s1, d1, l, e1, e2, e3, e4⟩ ⟨T2, y, rfl, hT, rfl, hy⟩
        obtain ⟨y1, hy1, rfl⟩ := getMapG hy
        obtain ⟨u, hu, rfl⟩ := getMapG hy1
        have hum := List.mem_of_getElem? hu
        have huf := ls_fine hum
        have hil : i < (LS t).length := (List.getElem?_eq_some_iff.mp hu).1
        have hsl : (rfs l).length < sizeLine := by rw [rfs_len, sizeLine_eq]; omega
        have hul : u.length ≤ 5000 := by omega
        clear s0 ha0 hL hi hy hy1
        cases hru : rdE u with
        | none =>
          have hre : RE u none := ⟨hru⟩
          have kb := finb_bad hr2 k (so_bad e3 e4 hu hru)
          clear k
          walk_at "gb go"
          refine ⟨fun _ ex hex => ?_, fun q => nomatch q⟩
          walk_at "gb go"
          exact ⟨kb _ _ (by walk_at "gb same") upd_same, rfl, _, rfl, T.x_BadEvent.oex⟩
        | some ns =>
          have hre : RE u (some ns) := ⟨hru⟩
          clear k
          walk_at "gb go"
          rename_i p9 H9 s9 e9
          have s8 : Same H' H9 := (same_new hT).trans s9
          exact ⟨l ++ [(p9, ns)], by rw [← rfs_cat]; exact upd_same, EvAll.put (EvAll.snoc (e2.mono s8) e9) (s8 _ _ e1), by simp; omega, so_snoc2 e3 e4 hu hru⟩
      · rintro σ H' ⟨v4, v5, v6, rfl, s1, d1, l, e1, e2, e3, e4⟩
        rw [List.length_map, List.length_map] at e3
        have ka := finb_all hr2 k (so_all e3 e4)
        have hll : l.length ≤ 6000 := by omega
        clear k s0 ha0 hL
        walk_at "gb go"
        rename_i b9 H9 s9 hB
        exact ka b9 l H9 (s1.trans s9) hB (e2.mono s9) rfl
theorem ok_Book_text (T : Txt (w := w) K mg A) : FnOk P w K mg base CX0 2 A.f_Book_text A.d_Book_text ["self"] (spBText A) := by
  refine T.F_Book_text.ok sc_Book_text (fun vs H Q E h => ?_) (fun cdv Ar outer s H vs Q E hr h => ?_)
  · obtain ⟨b, l, rfl, _⟩ := h
    rfl
  · obtain ⟨b, l, rfl, hB, hE, hS, hl, k⟩ := h
    refine ⟨_, (pss_one (ps_ret (pe_join pe_str (pe_lc (own := [("event", 1)]) (g := gName 1) (tt := tYes) rfl sc_Book_text.nd (pi_tupK K (pe_fldK K (pv 0) rfl)) (blkOk_by (N := ["self", "event"]) (sc := defScope s_Book_text) (by decide +kernel)) (fun _ _ _ _ _ => (pg_name (i := 1) sc_Book_text.nd rfl (Or.inl rfl))) (fun _ _ _ _ _ => pts_nil) (fun _ _ _ _ _ => (pe_call (ok_event_line T) (hr.mono (by decide)) rfl T.g_event_line T.F_event_line.kp T.b_event_line .nil pass0 (pa_cons (pv 1) pa_nil))))))), ?_⟩
    obtain ⟨dx, t, hb, ht⟩ := hB.ex
    have hrl := @rfs_len l
    have hcl : ∀ lo hi, (cutV (rfs l) lo hi).length ≤ l.length := fun lo hi => by rw [cut_rfs, rfs_len]; exact cutG_len
    
    have hsz := sum2 hS hl (s := Str.ofString "\n") (by decide +kernel)
    walk_at "gb go"
    rename_i D hD
    refine lc_tup (K := K) (a := t) (xs := rfs l) (fun i Hq => Same H Hq ∧ Hq D = some (.lst ((((l.map fun q => wt q.2).map S).map V.str).take i))) ⟨same_new hD, upd_same⟩ (fun i Hq _ h => SqT.of (h.1 _ _ ht)) ?_ ?_
    · rintro i x Hq hi ⟨s1, e1⟩
      obtain ⟨q, hq, rfl⟩ := getMapG hi
      have hm := List.mem_of_getElem? hq
      have hEv := (hS q hm).ok
      have eq1 : Hq q.1 = some (.tup (q.2.map flv)) := s1 _ _ (hE q hm)
      have hi' : i < l.length := (List.getElem?_eq_some_iff.mp hq).1
      have hsl : ((((l.map fun q => wt q.2).map S).map V.str).take i).length < sizeLine := by rw [List.length_take, sizeLine_eq]; omega
      clear hi
      walk_at "gb go"
      refine lc_end ?_
      rw [List.getElem?_map, List.getElem?_map, List.getElem?_map, hq]; rfl
    · rintro Hq ⟨s1, e1⟩
      have e2 : Hq D = some (.lst (((l.map fun q => wt q.2).map S).map V.str)) := by rw [e1, take_all (by simp [rfs])]
      clear e1
      walk_at "gb go"
      rw [join_tx2]
      exact k _ s1
theorem ok_Book_first (T : Txt (w := w) K mg A) : FnOk P w K mg base (L2N.CX P w) 3 A.f_Book_first A.d_Book_first ["self", "n"] (spBFirst A) := by
  refine T.F_Book_first.okXN sc_Book_first (fun vs H Q E h => ?_) (fun cdv Ar outer s H vs Q E hr h => ?_)
  · obtain ⟨b, l, n, rfl, _⟩ := h
    rfl
  · obtain ⟨b, l, n, rfl, hB, hl, k, k2⟩ := h
    refine ⟨_, (pss_cons (ps_if (pt_not (pt_chain op_le op_le pe_int (pv 1) (pe_callB (call_len_seqK K) (by rfl) T.n_len (by decide +kernel) (pa_cons (pe_fldK K (pv 0) rfl) pa_nil)))) (pss_one (ps_raiseGN rfl T.x_NoEvent (ok_GangError_init T) (hr.mono (by decide)) T.b_GangError_init rfl T.g_NoEvent (L2N.takes_of rfl rfl rfl rfl) (pv 1))) pss_nil)
        (pss_one (ps_ret (pe_make T.mk_Book (ok_Book_init T) (hr.mono (by decide)) rfl T.g_Book T.b_Book_init .nil pass0 (pa_cons (pe_slice sl_tupE (pe_fldK K (pv 0) rfl) po_none (po_some (pv 1))) pa_nil))))), ?_⟩
    obtain ⟨dx, t, hb, ht⟩ := hB.ex
    have hrl := @rfs_len l
    have hcl : ∀ lo hi, (cutV (rfs l) lo hi).length ≤ l.length := fun lo hi => by rw [cut_rfs, rfs_len]; exact cutG_len
    have c1 := hcl none (some n)
    repeat' ((fail_if_success (show ∀ (x dx : Addr), _ = none → _ = none → dx ≠ x → _)); walk_at "gb step")
    
    · rename_i h0 h1 p1 H1 s1 e1
      rw [cut_rfs] at e1
      exact book_made (.inr e1) (Nat.le_trans cutG_len (by omega)) ((k ⟨h0, by omega⟩).mono s1)
    · exact k2 (by omega) _ _ (by walk_at "gb same") upd_same
    · exact k2 (by omega) _ _ (by walk_at "gb same") upd_same
theorem ok_Book_without (T : Txt (w := w) K mg A) : FnOk P w K mg base (L2N.CX P w) 3 A.f_Book_without A.d_Book_without ["self", "at"] (spBWithout A) := by
  refine T.F_Book_without.okXN sc_Book_without (fun vs H Q E h => ?_) (fun cdv Ar outer s H vs Q E hr h => ?_)
  · obtain ⟨b, l, n, rfl, _⟩ := h
    rfl
  · obtain ⟨b, l, n, rfl, hB, hl, k, k2⟩ := h
    refine ⟨_, (pss_cons (ps_if (pt_not (pt_chain op_le op_lt pe_int (pv 1) (pe_callB (call_len_seqK K) (by rfl) T.n_len (by decide +kernel) (pa_cons (pe_fldK K (pv 0) rfl) pa_nil)))) (pss_one (ps_raiseGN rfl T.x_NoEvent (ok_GangError_init T) (hr.mono (by decide)) T.b_GangError_init rfl T.g_NoEvent (L2N.takes_of rfl rfl rfl rfl) (pv 1))) pss_nil)
        (pss_one (ps_ret (pe_make T.mk_Book (ok_Book_init T) (hr.mono (by decide)) rfl T.g_Book T.b_Book_init .nil pass0 (pa_cons (pe_op op_catE (pe_slice sl_tupE (pe_fldK K (pv 0) rfl) po_none (po_some (pv 1))) (pe_slice sl_tupE (pe_fldK K (pv 0) rfl) (po_some (pe_op op_add (pv 1) pe_int)) po_none)) pa_nil))))), ?_⟩
    obtain ⟨dx, t, hb, ht⟩ := hB.ex
    have hrl := @rfs_len l
    have hcl : ∀ lo hi, (cutV (rfs l) lo hi).length ≤ l.length := fun lo hi => by rw [cut_rfs, rfs_len]; exact cutG_len
    have c1 := hcl none (some n)
    have c2 := hcl (some (n + 1)) none
    repeat' ((fail_if_success (show ∀ (x dx : Addr), _ = none → _ = none → dx ≠ x → _)); walk_at "gb step")
    
    · rename_i h0 h1 p1 H1 s1 e1 p2 H2 s2 e2 p3 H3 s3 e3
      rw [cut_rfs, cut_rfs, rfs_cat] at e3
      exact book_made (.inr e3) (by rw [List.length_append]; have := @cutG_len _ l none (some n); have := @cutG_len _ l (some (n + 1)) none; omega) ((k ⟨h0, by omega⟩).mono ((s1.trans s2).trans s3))
    · exact k2 (by omega) _ _ (by walk_at "gb same") upd_same
    · exact k2 (by omega) _ _ (by walk_at "gb same") upd_same
theorem ok_Book_put (T : Txt (w := w) K mg A) : FnOk P w K mg base (L2N.CX P w) 3 A.f_Book_put A.d_Book_put ["self", "at", "event"] (spBPut A) := by
  refine T.F_Book_put.okXN sc_Book_put (fun vs H Q E h => ?_) (fun cdv Ar outer s H vs Q E hr h => ?_)
  · obtain ⟨b, l, n, qa, rfl, _⟩ := h
    rfl
  · obtain ⟨b, l, n, qa, rfl, hB, hl, k, k2⟩ := h
    refine ⟨_, (pss_cons (ps_if (pt_not (pt_chain op_le op_le pe_int (pv 1) (pe_callB (call_len_seqK K) (by rfl) T.n_len (by decide +kernel) (pa_cons (pe_fldK K (pv 0) rfl) pa_nil)))) (pss_one (ps_raiseGN rfl T.x_NoEvent (ok_GangError_init T) (hr.mono (by decide)) T.b_GangError_init rfl T.g_NoEvent (L2N.takes_of rfl rfl rfl rfl) (pv 1))) pss_nil)
        (pss_one (ps_ret (pe_make T.mk_Book (ok_Book_init T) (hr.mono (by decide)) rfl T.g_Book T.b_Book_init .nil pass0 (pa_cons (pe_op op_catE (pe_op op_catE (pe_slice sl_tupE (pe_fldK K (pv 0) rfl) po_none (po_some (pv 1))) (pe_tup (pa_cons (pv 2) pa_nil))) (pe_slice sl_tupE (pe_fldK K (pv 0) rfl) (po_some (pv 1)) po_none)) pa_nil))))), ?_⟩
    obtain ⟨dx, t, hb, ht⟩ := hB.ex
    have hrl := @rfs_len l
    have hcl : ∀ lo hi, (cutV (rfs l) lo hi).length ≤ l.length := fun lo hi => by rw [cut_rfs, rfs_len]; exact cutG_len
    have c1 := hcl none (some n)
    have c2 := hcl (some n) none
    have hq1 : [V.ref qa].length = 1 := rfl
    repeat' ((fail_if_success (show ∀ (x dx : Addr), _ = none → _ = none → dx ≠ x → _)); walk_at "gb step")
    
    · rename_i h0 h1 p1 H1 s1 e1 p2 hp2 p3 H3 s3 e3 p4 H4 s4 e4 p5 H5 s5 e5
      obtain ⟨qn, k⟩ := k ⟨h0, by omega⟩
      rw [cut_rfs, cut_rfs, show [V.ref qa] = rfs [(qa, qn)] from rfl, rfs_cat, rfs_cat] at e5
      exact book_made (.inr e5) (by rw [List.length_append, List.length_append, List.length_singleton]; have := @cutG_len _ l none (some n); have := @cutG_len _ l (some n) none; omega) (k.mono ((((s1.trans (same_new hp2)).trans s3).trans s4).trans s5))
    · exact k2 (by omega) _ _ (by walk_at "gb same") upd_same
    · exact k2 (by omega) _ _ (by walk_at "gb same") upd_same
theorem ok_Book_add (T : Txt (w := w) K mg A) : FnOk P w K mg base CX0 3 A.f_Book_add A.d_Book_add ["self", "other"] (spBAdd A) := by
  refine T.F_Book_add.ok sc_Book_add (fun vs H Q E h => ?_) (fun cdv Ar outer s H vs Q E hr h => ?_)
  · obtain ⟨a, b, l, m, rfl, _⟩ := h
    rfl
  · obtain ⟨a, b, l, m, rfl, hA, hB, hl, hm, k⟩ := h
    refine ⟨_, (pss_one (ps_ret (pe_make T.mk_Book (ok_Book_init T) (hr.mono (by decide)) rfl T.g_Book T.b_Book_init .nil pass0 (pa_cons (pe_op op_catE (pe_fldK K (pv 0) rfl) (pe_fldK K (pv 1) rfl)) pa_nil)))), ?_⟩
    obtain ⟨dx, t, hb, ht⟩ := hA.ex
    obtain ⟨dx2, t2, hb2, ht2⟩ := hB.ex
    have hrl := @rfs_len l
    have hrm := @rfs_len m
    repeat' ((fail_if_success (show ∀ (x dx : Addr), _ = none → _ = none → dx ≠ x → _)); walk_at "gb step")
    
    rename_i p1 H1 s1 e1
    rw [rfs_cat] at e1
    exact book_made (.inr e1) (by rw [List.length_append]; omega) (k.mono s1)
theorem ok_Book_eq (T : Txt (w := w) K mg A) : FnOk P w K mg base CX0 1 A.f_Book_eq A.d_Book_eq ["self", "other"] (spBEq A) := by
  refine T.F_Book_eq.ok sc_Book_eq (fun vs H Q E h => ?_) (fun cdv Ar outer s H vs Q E hr h => ?_)
  · obtain ⟨a, b, l, m, rfl, _⟩ := h
    rfl
  · obtain ⟨a, b, l, m, rfl, hA, hB, hl, hm, fl, fm, k⟩ := h
    refine ⟨_, (pss_one (ps_ret (pe_and (pe_callB (call_isiK' K) (by rfl) T.n_isinstance (by decide +kernel) (pa_cons (pv 1) (pa_cons (pe_glob (v := .ref A.c_Book) rfl T.g_Book rfl) pa_nil))) (pe_one (pe_cmpR (op_eqDK K hr.units) (pe_fldK K (pv 0) rfl) (pe_fldK K (pv 1) rfl) (nomark _)))))), ?_⟩
    obtain ⟨dx, t, hb, ht⟩ := hA.ex
    obtain ⟨dx2, t2, hb2, ht2⟩ := hB.ex
    have d1 : Dp K H (.ref t) (.tuple (dE l)) := .tup (SqT.of ht) (dpE hl)
    have d2 : Dp K H (.ref t2) (.tuple (dE m)) := .tup (SqT.of ht2) (dpE hm)
    have sh1 := shE fl
    have sh2 := shE fm
    have hev := eqvT2 fl fm
    walk_at "gb go"
    rw [hev]
    exact k
theorem ok_Book_getitem (T : Txt (w := w) K mg A) : FnOk P w K mg base CX0 1 A.f_Book_getitem A.d_Book_getitem ["self", "at"] (spBGet A) := by
  refine T.F_Book_getitem.ok sc_Book_getitem (fun vs H Q E h => ?_) (fun cdv Ar outer s H vs Q E hr h => ?_)
  · obtain ⟨b, l, i, v, rfl, _⟩ := h
    rfl
  · obtain ⟨b, l, i, v, rfl, hB, hv, k⟩ := h
    refine ⟨_, (pss_one (ps_ret (pe_ix (ix_tupK K) (pe_fldK K (pv 0) rfl) (pv 1) (fun _ _ => rfl)))), ?_⟩
    obtain ⟨dx, t, hb, ht⟩ := hB.ex
    have hrl := @rfs_len l
    have hcl : ∀ lo hi, (cutV (rfs l) lo hi).length ≤ l.length := fun lo hi => by rw [cut_rfs, rfs_len]; exact cutG_len
    walk_at "gb go"
    exact k
theorem ok_Book_len (T : Txt (w := w) K mg A) : FnOk P w K mg base CX0 1 A.f_Book_len A.d_Book_len ["self"] (spBLen A) := by
  refine T.F_Book_len.ok sc_Book_len (fun vs H Q E h => ?_) (fun cdv Ar outer s H vs Q E hr h => ?_)
  · obtain ⟨b, l, rfl, _⟩ := h
    rfl
  · obtain ⟨b, l, rfl, hB, k⟩ := h
    refine ⟨_, (pss_one (ps_ret (pe_callB (call_len_seqK K) (by rfl) T.n_len (by decide +kernel) (pa_cons (pe_fldK K (pv 0) rfl) pa_nil)))), ?_⟩
    obtain ⟨dx, t, hb, ht⟩ := hB.ex
    have hrl := @rfs_len l
    have hcl : ∀ lo hi, (cutV (rfs l) lo hi).length ≤ l.length := fun lo hi => by rw [cut_rfs, rfs_len]; exact cutG_len
    walk_at "gb go"
    rw [rfs_len]
    exact k
theorem ok_Book_iter (T : Txt (w := w) K mg A) : FnOk P w K mg base CX0 1 A.f_Book_iter A.d_Book_iter ["self"] (spBIter A) := by
  refine T.F_Book_iter.ok sc_Book_iter (fun vs H Q E h => ?_) (fun cdv Ar outer s H vs Q E hr h => ?_)
  · obtain ⟨a, dx, t, l, rfl, _⟩ := h
    rfl
  · obtain ⟨a, dx, t, l, rfl, ha, ht, k⟩ := h
    refine ⟨_, (pss_one (ps_ret (pe_callB (call_iterTK K) (by rfl) T.n_iter (by decide +kernel) (pa_cons (pe_fldK K (pv 0) rfl) pa_nil)))), ?_⟩
    walk_at "gb go"
    exact k _ (by assumption)
theorem ok_mixed (T : Txt (w := w) K mg A) : FnOk P w K mg base CX0 1 A.f_mixed A.d_mixed ["_law_number", "_law_k"] (spMixed) := by
  refine T.F_mixed.ok sc_mixed (fun vs H Q E h => ?_) (fun cdv Ar outer s H vs Q E hr h => ?_)
  · obtain ⟨i, j, rfl, _⟩ := h
    rfl
  · obtain ⟨i, j, rfl, k⟩ := h
    refine ⟨_, (pss_cons (ps_set (i := 2) sc_mixed.nd rfl (Or.inl rfl) (pe_op op_mod (pe_callTy call_int1 (by rfl) T.n_int (by decide +kernel) (pa_cons (pe_op op_add (pe_op op_add (pe_op op_mulX (pv 0) pe_int) (pe_op op_mulX (pv 1) pe_int)) pe_int) pa_nil)) pe_int))
        (pss_cons (ps_set (i := 3) sc_mixed.nd rfl (Or.inl rfl) (pe_op op_mod (pe_callTy call_int1 (by rfl) T.n_int (by decide +kernel) (pa_cons (pe_op op_add (pe_op op_add (pe_op op_mulX (pe_op op_add (pe_op op_fdiv (pv 2) pe_int) pe_int) pe_int) (pe_op op_mulX (pe_op op_mod (pe_callTy call_int1 (by rfl) T.n_int (by decide +kernel) (pa_cons (pv 2) pa_nil)) pe_int) pe_int)) (pv 1)) pa_nil)) pe_int))
        (pss_one (ps_ret (pe_op op_fdiv (pv 3) pe_int))))), ?_⟩
    walk_at "gb go"
    exact k _ (by omega) (by omega)
theorem ok_drawing (T : Txt (w := w) K mg A) : FnOk P w K mg base CX0 2 A.f_drawing A.d_drawing ["_law_script"] (spDraw K) := by
  refine T.F_drawing.ok sc_drawing (fun vs H Q E h => ?_) (fun cdv Ar outer s H vs Q E hr h => ?_)
  · obtain ⟨a, ns, rfl, _⟩ := h
    rfl
  · obtain ⟨a, ns, rfl, hS, hl, hb, k⟩ := h
    refine ⟨_, (pss_cons (ps_set (i := 1) sc_drawing.nd rfl (Or.inr rfl) (pe_lst pa_nil))
        (pss_cons (ps_for PassesOwn.never rfl (pi_listK K (pv 0)) (pg_name (i := 2) sc_drawing.nd rfl (Or.inr rfl))
        (pss_cons (ps_if (pt_cmpR op_lt (pe_callB call_abs (by rfl) T.n_abs (by decide +kernel) (pa_cons (pv 2) pa_nil)) (pe_op op_pow pe_int pe_int) (nomark _)) (pss_one (ps_set (i := 1) sc_drawing.nd rfl (Or.inr rfl) (pe_op op_cat (pv 1) (pe_lc (own := [("_law_k", 6)]) (g := gName 6) (tt := tYes) rfl sc_drawing.nd (pi_range1 rfl T.n_range (pa_cons pe_int pa_nil)) (blkOk_by (N := ["_law_script", "_law_pool", "_law_cell", "_law_seed", "_law_number", "_law_rest", "_law_k"]) (sc := defScope s_drawing) (by decide +kernel)) (fun _ _ _ _ _ => (pg_name (i := 6) sc_drawing.nd rfl (Or.inl rfl))) (fun _ _ _ _ _ => pts_nil) (fun _ _ _ _ _ => (pe_call (ok_mixed T) (hr.mono (by decide)) rfl T.g_mixed T.F_mixed.kp T.b_mixed .nil pass0 (pa_cons (pv 2) (pa_cons (pe_op op_add (pe_callB (call_len_seqK K) (by rfl) T.n_len (by decide +kernel) (pa_cons (pv 1) pa_nil)) (pv 6)) pa_nil)))))))) pss_nil)
        (pss_cons (ps_set (i := 5) sc_drawing.nd rfl (Or.inl rfl) (pe_op op_mod (pe_callTy call_int1 (by rfl) T.n_int (by decide +kernel) (pa_cons (pe_callB call_abs (by rfl) T.n_abs (by decide +kernel) (pa_cons (pv 2) pa_nil)) pa_nil)) (pe_op op_pow pe_int pe_int)))
        (pss_one (ps_for PassesOwn.never rfl (pi_range1 rfl T.n_range (pa_cons (pe_op op_mulX pe_int (pe_callTy call_int1 (by rfl) T.n_int (by decide +kernel) (pa_cons (pe_cmpR op_ge (pe_callB call_abs (by rfl) T.n_abs (by decide +kernel) (pa_cons (pv 2) pa_nil)) (pe_op op_pow pe_int pe_int) (nomark _)) pa_nil))) pa_nil)) (pg_name (i := 6) sc_drawing.nd rfl (Or.inl rfl))
        (pss_one (ps_if (pt_cmpR op_gt (pv 5) pe_int (nomark _)) (pss_cons (ps_expr (pe_bm PySem.F.plainAttrs_list PySem.F.slot_list_append PySem.F.type_list_append mt_append (pv 1) (pa_cons (pe_op op_mod (pe_callTy call_int1 (by rfl) T.n_int (by decide +kernel) (pa_cons (pv 5) pa_nil)) pe_int) pa_nil)))
        (pss_one (ps_set (i := 5) sc_drawing.nd rfl (Or.inl rfl) (pe_op op_fdiv (pv 5) pe_int)))) pss_nil)))))))
        (pss_cons (ps_set (i := 3) sc_drawing.nd rfl (Or.inl rfl) (pe_callB (call_len_seqK K) (by rfl) T.n_len (by decide +kernel) (pa_cons (pv 1) pa_nil)))
        (pss_cons (ps_for PassesOwn.never rfl (pi_listK K (pe_slice sl_list (pv 1) po_none (po_some pe_int))) (pg_name (i := 4) sc_drawing.nd rfl (Or.inl rfl))
        (pss_one (ps_set (i := 3) sc_drawing.nd rfl (Or.inl rfl) (pe_op op_mod (pe_callTy call_int1 (by rfl) T.n_int (by decide +kernel) (pa_cons (pe_op op_add (pe_op op_mulX (pv 3) pe_int) (pv 4)) pa_nil)) pe_int))))
        (pss_one (ps_ret (pe_lst (pa_cons pe_int (pa_cons (pv 1) (pa_cons (pv 3) pa_nil)))))))))), ?_⟩
    walk_at "gb go"
    rename_i p0 hp0
    refine for_list (K := K) (a := a) (xs := ns.map V.int) (fun i σ H' => ∃ (p : Addr) (v2 v3 v4 v5 v6 : Option V), σ = [some (.ref a), some (.ref p), v2, v3, v4, v5, v6] ∧ Same H H' ∧ H p = none ∧ IL H' p (70 * i)) ⟨p0, _, _, _, _, _, rfl, same_new hp0, hp0, [], upd_same, by simp⟩ (fun i σ H' _ ⟨_, _, _, _, _, _, _, h, _⟩ => Same.seq h hS) ?_ ?_
    · rintro i x σ H' hx ⟨p, v2, v3, v4, v5, v6, rfl, s1, fp, ms, hP, hml⟩
      obtain ⟨z, hz, rfl⟩ := getMapG hx
      have hbz := hb z (List.mem_of_getElem? hz)
      have hi' : i < ns.length := (List.getElem?_eq_some_iff.mp hz).1
      have hml2 : (ms.map V.int).length = ms.length := List.length_map ..
      walk_at "gb go"
      · rename_i hlt D hD
        refine lc_range (fun j Hq => Same H' Hq ∧ IL Hq D j) ⟨same_new hD, [], upd_same, by simp⟩ ?_ ?_
        · rintro j Hq hj ⟨s2, cs, e2, hcl⟩
          have hcl2 : (cs.map V.int).length = cs.length := List.length_map ..
          have hsl : (cs.map V.int).length < sizeLine := by rw [sizeLine_eq]; omega
          walk_at "gb go"
          exact ⟨cs ++ [_], by rw [List.map_append]; exact upd_same, by rw [List.length_append]; simp only [List.length_cons, List.length_nil]; omega⟩
        · rintro Hq ⟨s2, cs, e2, hcl⟩
          have hcl2 : (cs.map V.int).length = cs.length := List.length_map ..
          have hcl3 : cs.length ≤ 8 := hcl
          walk_at "gb go"
          rename_i p2 hp2
          have s5 : Same H Hq := s1.trans s2
          have fp2 : H p2 = none := s5.free hp2
          refine for_range (fun j σ Hq => ∃ (v6 : Option V) (rest : Int), σ = [some (.ref a), some (.ref p2), some (.int z), v3, v4, some (.int rest), v6] ∧ Same H Hq ∧ IL Hq p2 ((70 * i + 8) + j)) ⟨_, _, rfl, same_nw s5 hp2, ⟨ms ++ cs, by rw [List.map_append]; exact upd_same, by rw [List.length_append]; omega⟩⟩ ?_ ?_
          · rintro j σ Hq hj ⟨v6', rest, rfl, s3, ms2, e3, hm3⟩
            have hj2 : j < 60 := by (have := hj; split at this <;> omega)
            have hm4 : (ms2.map V.int).length = ms2.length := List.length_map ..
            have hsl : (ms2.map V.int).length < sizeLine := by rw [sizeLine_eq]; omega
            walk_at "gb go"
            · exact ⟨ms2 ++ [_], by rw [List.map_append]; exact upd_same, by rw [List.length_append]; simp only [List.length_cons, List.length_nil]; omega⟩
            · exact ⟨ms2, e3, by omega⟩
          · rintro σ Hq ⟨v6', rest, rfl, s3, hI⟩
            exact ⟨p2, _, _, _, _, _, rfl, s3, fp2, hI.le (by split <;> omega)⟩
      · rename_i hlt
        refine for_range (fun j σ Hq => ∃ (v6 : Option V) (rest : Int), σ = [some (.ref a), some (.ref p), some (.int z), v3, v4, some (.int rest), v6] ∧ Same H Hq ∧ IL Hq p (70 * i + j)) ⟨_, _, rfl, s1, ⟨ms, hP, hml⟩⟩ ?_ ?_
        · rintro j σ Hq hj ⟨v6', rest, rfl, s3, ms2, e3, hm3⟩
          have hj2 : j < 60 := by (have := hj; split at this <;> omega)
          have hm4 : (ms2.map V.int).length = ms2.length := List.length_map ..
          have hsl : (ms2.map V.int).length < sizeLine := by rw [sizeLine_eq]; omega
          walk_at "gb go"
          · exact ⟨ms2 ++ [_], by rw [List.map_append]; exact upd_same, by rw [List.length_append]; simp only [List.length_cons, List.length_nil]; omega⟩
          · exact ⟨ms2, e3, by omega⟩
        · rintro σ Hq ⟨v6', rest, rfl, s3, hI⟩
          exact ⟨p, _, _, _, _, _, rfl, s3, fp, hI.le (by split <;> omega)⟩
    · rintro σ H' ⟨p, v2, v3, v4, v5, v6, rfl, s1, fp, ms, hP, hml⟩
      have hml2 : (ms.map V.int).length = ms.length := List.length_map ..
      walk_at "gb go"
      rename_i T hT0
      have s6 : Same H (upd H' T (.lst (cutV (ms.map V.int) none (some 9)))) := same_nw s1 hT0
      refine for_list (K := K) (a := T) (xs := cutV (ms.map V.int) none (some 9)) (fun i σ Hq => ∃ (sd : Int) (v4 : Option V), σ = [some (.ref a), some (.ref p), v2, some (.int sd), v4, v5, v6] ∧ Same (upd H' T (.lst (cutV (ms.map V.int) none (some 9)))) Hq) ⟨_, _, rfl, Same.refl _⟩ (fun i σ Hq _ ⟨_, _, _, h⟩ => SqL.of (h _ _ upd_same)) ?_ ?_
      · rintro i x σ Hq hx ⟨sd, v4', rfl, s2⟩
        rw [cutV_mapG] at hx
        obtain ⟨z, hz, rfl⟩ := getMapG hx
        walk_at "gb go"
      · rintro σ Hq ⟨sd, v4', rfl, s2⟩
        have hPq : Hq p = some (.lst (ms.map V.int)) := s2 _ _ (by walk_at "gb hp")
        have s7 : Same H Hq := s6.trans s2
        walk_at "gb go"
        rename_i R hR
        exact k R p _ (same_nw s7 hR) ⟨0, sd, ms, upd_same, by walk_at "gb hp", ne_of_none hPq hR, by omega⟩ (s7.free hR)
theorem ok_take (T : Txt (w := w) K mg A) : FnOk P w K mg base CX0 2 A.f_take A.d_take ["_law_draws", "_law_limit"] (spTake) := by
  refine T.F_take.ok sc_take (fun vs H Q E h => ?_) (fun cdv Ar outer s H vs Q E hr h => ?_)
  · obtain ⟨p, pq, l, rfl, _⟩ := h
    rfl
  · obtain ⟨p, pq, l, rfl, hP, hl0, hl1, k⟩ := h
    refine ⟨_, (pss_cons (ps_set (i := 2) sc_take.nd rfl (Or.inl rfl) (pe_ix (ix_listK K) (pv 0) pe_int (fun _ _ => rfl)))
        (pss_cons (ps_asg (pe_op op_add (pv 2) pe_int) (pg_sub (pv 0) pe_int set_list))
        (pss_cons (ps_if (pt_cmpR op_lt (pv 2) (pe_callB (call_len_seqK K) (by rfl) T.n_len (by decide +kernel) (pa_cons (pe_ix (ix_listK K) (pv 0) pe_int (fun _ _ => rfl)) pa_nil)) (nomark _)) (pss_one (ps_ret (pe_op op_mod (pe_callTy call_int1 (by rfl) T.n_int (by decide +kernel) (pa_cons (pe_ix (ix_listK K) (pe_ix (ix_listK K) (pv 0) pe_int (fun _ _ => rfl)) (pv 2) (fun _ _ => rfl)) pa_nil)) (pv 1)))) pss_nil)
        (pss_cons (ps_if (pt_cmpR (op_eqDK K hr.units) (pe_ix (ix_listK K) (pv 0) pe_int (fun _ _ => rfl)) (pe_lst pa_nil) (nomark _)) (pss_one (ps_ret (pe_op op_mod (pe_callTy call_int1 (by rfl) T.n_int (by decide +kernel) (pa_cons (pe_op op_add (pe_op op_mulX (pv 2) pe_int) (pe_op op_mulX (pe_op op_fdiv (pv 2) pe_int) pe_int)) pa_nil)) (pv 1)))) pss_nil)
        (pss_one (ps_ret (pe_op op_mod (pe_callTy call_int1 (by rfl) T.n_int (by decide +kernel) (pa_cons (pe_call (ok_mixed T) (hr.mono (by decide)) rfl T.g_mixed T.F_mixed.kp T.b_mixed .nil pass0 (pa_cons (pe_ix (ix_listK K) (pv 0) pe_int (fun _ _ => rfl)) (pa_cons (pv 2) pa_nil))) pa_nil)) (pv 1)))))))), ?_⟩
    obtain ⟨i, sd, ms, hp, hq, nq, hi⟩ := hP.ex
    have hml : (ms.map V.int).length = ms.length := List.length_map ..
    have fin : ∀ (z : Int) H', SameBut p H H' → H' p = some (.lst [.int (i + 1), .ref pq, .int sd]) → Q (.int (z % l)) H' := fun z H' s e => k _ _ (modr hl0).1 (modr hl0).2 ⟨i + 1, sd, ms, e, s _ _ nq hq, nq, by omega⟩ s
    by_cases h : i < ms.length
    · obtain ⟨z, hz⟩ : ∃ z, atI (ms.map V.int) i = some (.int z) := by
        obtain ⟨j, rfl⟩ : ∃ j : Nat, i = (j : Int) := ⟨i.toNat, by omega⟩
        exact ⟨ms[j]'(by omega), atI_nat (by rw [List.getElem?_map, List.getElem?_eq_getElem (by omega)]; rfl)⟩
      walk_at "gb go"
      exact fin _ _ (by walk_at "gb but") upd_same
    · walk_at "gb go"
      all_goals (exact fin _ _ (by walk_at "gb but") (by walk_at "gb hp"))
theorem st_same (T : Txt (w := w) K mg A) (d : Nat) (IH : FnOk P w K mg base CX0 d A.f_same A.d_same ["_law_told", "_law_due"] (spSame d)) : FnOk P w K mg base CX0 (d + 1) A.f_same A.d_same ["_law_told", "_law_due"] (spSame (d + 1)) := by
  refine T.F_same.ok sc_same (fun vs H Q E h => ?_) (fun cdv Ar outer s H vs Q E hr h => ?_)
  · obtain ⟨x, y, n, rfl, _⟩ := h
    rfl
  · obtain ⟨x, y, n, rfl, hE, hn, k⟩ := h
    refine ⟨_, (pss_cons (ps_if (pt_val (pe_callB call_isiT (by rfl) T.n_isinstance (by decide +kernel) (pa_cons (pv 1) (pa_cons (pe_tup (pa_cons (pe_bltn (v := .ty "list") (by rfl) T.n_list (by decide +kernel) rfl) (pa_cons (pe_bltn (v := .ty "tuple") (by rfl) T.n_tuple (by decide +kernel) rfl) pa_nil))) pa_nil))) (by intro _; rfl)) (pss_cons (ps_if (PW.pt (pw_or (pt_not (pt_val (pe_callB call_isiT (by rfl) T.n_isinstance (by decide +kernel) (pa_cons (pv 0) (pa_cons (pe_tup (pa_cons (pe_bltn (v := .ty "list") (by rfl) T.n_list (by decide +kernel) rfl) (pa_cons (pe_bltn (v := .ty "tuple") (by rfl) T.n_tuple (by decide +kernel) rfl) pa_nil))) pa_nil))) (by intro _; rfl))) (pw_or1 (pt_cmpR op_ne (pe_callB (call_isiK' K) (by rfl) T.n_isinstance (by decide +kernel) (pa_cons (pv 0) (pa_cons (pe_bltn (v := .ty "list") (by rfl) T.n_list (by decide +kernel) rfl) pa_nil))) (pe_callB (call_isiK' K) (by rfl) T.n_isinstance (by decide +kernel) (pa_cons (pv 1) (pa_cons (pe_bltn (v := .ty "list") (by rfl) T.n_list (by decide +kernel) rfl) pa_nil))) (nomark _))))) (pss_one (ps_ret pe_bl)) pss_nil)
        (pss_cons (ps_if (pt_cmpR op_ne (pe_callB (call_len_seqK K) (by rfl) T.n_len (by decide +kernel) (pa_cons (pv 0) pa_nil)) (pe_callB (call_len_seqK K) (by rfl) T.n_len (by decide +kernel) (pa_cons (pv 1) pa_nil)) (nomark _)) (pss_one (ps_ret pe_bl)) pss_nil)
        (pss_one (ps_ret (pe_cmpR (op_notIn_seqK K) pe_bl (pe_lc (own := [("_law_k", 2)]) (g := gName 2) (tt := tYes) rfl sc_same.nd (pi_range1 rfl T.n_range (pa_cons (pe_callB (call_len_seqK K) (by rfl) T.n_len (by decide +kernel) (pa_cons (pv 1) pa_nil)) pa_nil)) (blkOk_by (N := ["_law_told", "_law_due", "_law_k"]) (sc := defScope s_same) (by decide +kernel)) (fun _ _ _ _ _ => (pg_name (i := 2) sc_same.nd rfl (Or.inl rfl))) (fun _ _ _ _ _ => pts_nil) (fun _ _ _ _ _ => (pe_call IH (hr.mono (by omega)) rfl T.g_same T.F_same.kp T.b_same .nil pass0 (pa_cons (pe_ix (ix_seqK K) (pv 0) (pv 2) (fun _ _ => rfl)) (pa_cons (pe_ix (ix_seqK K) (pv 1) (pv 2) (fun _ _ => rfl)) pa_nil))))) rfl))))) pss_nil)
        (pss_cons (ps_if (pt_cmpR op_isN (pv 1) pe_non (nomark _)) (pss_one (ps_ret (pe_cmpR op_isN (pv 0) pe_non (nomark _)))) pss_nil)
        (pss_cons (ps_if (pt_cmpR op_ne (pe_callB (call_isiK' K) (by rfl) T.n_isinstance (by decide +kernel) (pa_cons (pv 0) (pa_cons (pe_bltn (v := .ty "bool") (by rfl) T.n_bool (by decide +kernel) rfl) pa_nil))) (pe_callB (call_isiK' K) (by rfl) T.n_isinstance (by decide +kernel) (pa_cons (pv 1) (pa_cons (pe_bltn (v := .ty "bool") (by rfl) T.n_bool (by decide +kernel) rfl) pa_nil))) (nomark _)) (pss_one (ps_ret pe_bl)) pss_nil)
        (pss_cons (ps_if (pt_cmpR op_ne (pe_callB (call_isiK' K) (by rfl) T.n_isinstance (by decide +kernel) (pa_cons (pv 0) (pa_cons (pe_bltn (v := .ty "str") (by rfl) T.n_str (by decide +kernel) rfl) pa_nil))) (pe_callB (call_isiK' K) (by rfl) T.n_isinstance (by decide +kernel) (pa_cons (pv 1) (pa_cons (pe_bltn (v := .ty "str") (by rfl) T.n_str (by decide +kernel) rfl) pa_nil))) (nomark _)) (pss_one (ps_ret pe_bl)) pss_nil)
        (pss_one (ps_ret (pe_and (pe_callB call_isiT (by rfl) T.n_isinstance (by decide +kernel) (pa_cons (pv 0) (pa_cons (pe_tup (pa_cons (pe_bltn (v := .ty "int") (by rfl) T.n_int (by decide +kernel) rfl) (pa_cons (pe_bltn (v := .ty "str") (by rfl) T.n_str (by decide +kernel) rfl) pa_nil))) pa_nil))) (pe_one (pe_cmpR op_eq (pv 0) (pv 1) (nomark _)))))))))), ?_⟩
    cases hE with
    | non =>
      walk_at "gb go"
      exact k _ (by walk_at "gb same")
    | int =>
      walk_at "gb go"
      rw [decide_eq_true rfl]
      exact k _ (by walk_at "gb same")
    | str =>
      walk_at "gb go"
      rw [decide_eq_true rfl]
      exact k _ (by walk_at "gb same")
    | bl =>
      walk_at "gb go"
      rw [decide_eq_true rfl]
      exact k _ (by walk_at "gb same")
    | lst ha hb hl hn2 h =>
      rename_i d0 aa bb xs ys
      walk_at "gb go"
      rename_i p1 hp1 p2 hp2 _ D hD
      have s0 : Same H (upd (upd H p1 (HO.tup [V.ty "list", V.ty "tuple"])) p2 (HO.tup [V.ty "list", V.ty "tuple"])) := by walk_at "gb same"
      generalize upd (upd H p1 (HO.tup [V.ty "list", V.ty "tuple"])) p2 (HO.tup [V.ty "list", V.ty "tuple"]) = H1 at s0 hD ⊢
      refine lc_range (lo := 0) (n := ((ys.length : Nat) : Int).toNat) (fun i Hq => Same H1 Hq ∧ Hq D = some (.lst ((List.replicate ys.length (V.bl true)).take i))) ⟨same_new hD, upd_same⟩ ?_ ?_
      · rintro i Hq hi ⟨s1, e1⟩
        have hi' : i < ys.length := by omega
        obtain ⟨x, hx⟩ : ∃ x, xs[i]? = some x := ⟨_, List.getElem?_eq_getElem (by omega)⟩
        obtain ⟨y, hy⟩ : ∃ y, ys[i]? = some y := ⟨_, List.getElem?_eq_getElem hi'⟩
        have hE1 : Eqv Hq d0 x y := (h i x y hx hy).mono (s0.trans s1)
        have ax : atI xs (0 + (i : Int)) = some x := by rw [Int.zero_add]; exact atI_nat hx
        have ay : atI ys (0 + (i : Int)) = some y := by rw [Int.zero_add]; exact atI_nat hy
        have hlt : d0 < d := by omega
        have hsl : ((List.replicate ys.length (V.bl true)).take i).length < sizeLine := by
          rw [List.length_take, List.length_replicate, sizeLine_eq]; omega
        walk_at "gb go"
        exact lc_end (rep_lc hi')
      · rintro Hq ⟨s1, e1⟩
        rw [Int.toNat_natCast, take_all (by simp)] at e1
        walk_at "gb go"
        rw [inV_tt]
        exact k _ (by walk_at "gb same")
    | tup ha hb hl hn2 h =>
      rename_i d0 aa bb xs ys
      walk_at "gb go"
      rename_i p1 hp1 p2 hp2 _ D hD
      have s0 : Same H (upd (upd H p1 (HO.tup [V.ty "list", V.ty "tuple"])) p2 (HO.tup [V.ty "list", V.ty "tuple"])) := by walk_at "gb same"
      generalize upd (upd H p1 (HO.tup [V.ty "list", V.ty "tuple"])) p2 (HO.tup [V.ty "list", V.ty "tuple"]) = H1 at s0 hD ⊢
      refine lc_range (lo := 0) (n := ((ys.length : Nat) : Int).toNat) (fun i Hq => Same H1 Hq ∧ Hq D = some (.lst ((List.replicate ys.length (V.bl true)).take i))) ⟨same_new hD, upd_same⟩ ?_ ?_
      · rintro i Hq hi ⟨s1, e1⟩
        have hi' : i < ys.length := by omega
        obtain ⟨x, hx⟩ : ∃ x, xs[i]? = some x := ⟨_, List.getElem?_eq_getElem (by omega)⟩
        obtain ⟨y, hy⟩ : ∃ y, ys[i]? = some y := ⟨_, List.getElem?_eq_getElem hi'⟩
        have hE1 : Eqv Hq d0 x y := (h i x y hx hy).mono (s0.trans s1)
        have ax : atI xs (0 + (i : Int)) = some x := by rw [Int.zero_add]; exact atI_nat hx
        have ay : atI ys (0 + (i : Int)) = some y := by rw [Int.zero_add]; exact atI_nat hy
        have hlt : d0 < d := by omega
        have hsl : ((List.replicate ys.length (V.bl true)).take i).length < sizeLine := by
          rw [List.length_take, List.length_replicate, sizeLine_eq]; omega
        walk_at "gb go"
        exact lc_end (rep_lc hi')
      · rintro Hq ⟨s1, e1⟩
        rw [Int.toNat_natCast, take_all (by simp)] at e1
        walk_at "gb go"
        rw [inV_tt]
        exact k _ (by walk_at "gb same")
theorem ok_same (T : Txt (w := w) K mg A) : ∀ d : Nat, FnOk P w K mg base CX0 d A.f_same A.d_same ["_law_told", "_law_due"] (spSame d)
  | 0 => ⟨fun _ _ _ _ ⟨_, _, _, _, _, h, _⟩ => absurd h (Nat.not_lt_zero _), fun _ _ _ _ _ _ _ _ _ _ _ _ _ ⟨_, _, _, _, _, h, _⟩ => absurd h (Nat.not_lt_zero _)⟩
  | d + 1 => st_same T d (ok_same T d)
theorem ok_forms (T : Txt (w := w) K mg A) : FnOk P w K mg base CX0 1 A.f_forms A.d_forms [] (spForms) := by
  refine T.F_forms.ok sc_forms (fun vs H Q E h => ?_) (fun cdv Ar outer s H vs Q E hr h => ?_)
  · obtain ⟨rfl, _⟩ := h
    rfl
  · obtain ⟨rfl, k⟩ := h
    refine ⟨_, (pss_one (ps_ret (pe_lst (pa_cons (pe_tup (pa_cons pe_str (pa_cons pe_str pa_nil))) (pa_cons (pe_tup (pa_cons pe_str (pa_cons pe_str pa_nil))) (pa_cons (pe_tup (pa_cons pe_str (pa_cons pe_str pa_nil))) (pa_cons (pe_tup (pa_cons pe_str (pa_cons pe_str pa_nil))) (pa_cons (pe_tup (pa_cons pe_str (pa_cons pe_str pa_nil))) (pa_cons (pe_tup (pa_cons pe_str (pa_cons pe_str pa_nil))) (pa_cons (pe_tup (pa_cons pe_str (pa_cons pe_str pa_nil))) (pa_cons (pe_tup (pa_cons pe_str (pa_cons pe_str pa_nil))) (pa_cons (pe_tup (pa_cons pe_str (pa_cons pe_str pa_nil))) (pa_cons (pe_tup (pa_cons pe_str (pa_cons pe_str pa_nil))) (pa_cons (pe_tup (pa_cons pe_str (pa_cons pe_str pa_nil))) (pa_cons (pe_tup (pa_cons pe_str (pa_cons pe_str pa_nil))) (pa_cons (pe_tup (pa_cons pe_str (pa_cons pe_str pa_nil))) pa_nil)))))))))))))))), ?_⟩
    walk_at "gb go"
    refine k _ _ (by walk_at "gb same") ⟨_, upd_same, rfl, fun i p h => ?_⟩
    rcases i with _ | _ | _ | _ | _ | _ | _ | _ | _ | _ | _ | _ | _ | i
    · cases h; exact ⟨_, rfl, by walk_at "gb hp"⟩
    · cases h; exact ⟨_, rfl, by walk_at "gb hp"⟩
    · cases h; exact ⟨_, rfl, by walk_at "gb hp"⟩
    · cases h; exact ⟨_, rfl, by walk_at "gb hp"⟩
    · cases h; exact ⟨_, rfl, by walk_at "gb hp"⟩
    · cases h; exact ⟨_, rfl, by walk_at "gb hp"⟩
    · cases h; exact ⟨_, rfl, by walk_at "gb hp"⟩
    · cases h; exact ⟨_, rfl, by walk_at "gb hp"⟩
    · cases h; exact ⟨_, rfl, by walk_at "gb hp"⟩
    · cases h; exact ⟨_, rfl, by walk_at "gb hp"⟩
    · cases h; exact ⟨_, rfl, by walk_at "gb hp"⟩
    · cases h; exact ⟨_, rfl, by walk_at "gb hp"⟩
    · cases h; exact ⟨_, rfl, by walk_at "gb hp"⟩
    · cases h
theorem ok_written (T : Txt (w := w) K mg A) : FnOk P w K mg base CX0 1 A.f_written A.d_written ["_law_event"] (spWr) := by
  refine T.F_written.ok sc_written (fun vs H Q E h => ?_) (fun cdv Ar outer s H vs Q E hr h => ?_)
  · obtain ⟨a, ns, rfl, _⟩ := h
    rfl
  · obtain ⟨a, ns, rfl, ha, hE, k⟩ := h
    refine ⟨_, (pss_cons (ps_set (i := 1) sc_written.nd rfl (Or.inl rfl) (pe_ix (ix_tupK K) (pv 0) pe_int (fun _ _ => rfl)))
        (pss_cons (ps_for PassesOwn.never rfl (pi_tupK K (pe_slice sl_tup (pv 0) (po_some pe_int) po_none)) (pg_name (i := 2) sc_written.nd rfl (Or.inl rfl))
        (pss_one (ps_set (i := 1) sc_written.nd rfl (Or.inl rfl) (pe_op op_add_str (pe_op op_add_str (pv 1) pe_str) (pe_callTy call_str2 (by rfl) T.n_str (by decide +kernel) (pa_cons (pv 2) pa_nil))))))
        (pss_one (ps_ret (pv 1))))), ?_⟩
    have hT := hE.txts
    have hF := ev_flat hE
    obtain ⟨w, ks, its, rfl, hf, hl, hi⟩ := id hE.ex
    have h0 : atI ((N.wrd w :: its).map flv) 0 = some (.str (S w)) := atI_nat (j := 0) rfl
    have hn1 : 1 ≤ ((N.wrd w :: its).map flv).length := by simp
    have hbl : (Str.ofString " ").length = 1 := by decide +kernel
    repeat' ((fail_if_success (show ∀ p : Addr, _ = none → _)); walk_at "gb step")
    rw [cut1]
    intro T hT0
    have fT : H T = none := hT0
    walk_at "gb go"
    refine for_tup (K := K) (a := T) (xs := its.map flv) (fun i σ H' => ∃ v : Option V, σ = [some (.ref a), some (.str (S (TL.joinL [32] ((N.wrd w :: its.take i).map N.txt)))), v] ∧ Same (upd H T (.tup (its.map flv))) H') ⟨_, rfl, Same.refl _⟩ (fun i σ H' _ ⟨_, _, h⟩ => SqT.of (h _ _ upd_same)) ?_ ?_
    · rintro i x σ H' hx ⟨v, rfl, s1⟩
      obtain ⟨n, hn, rfl⟩ := getMapG hx
      have hmem : n ∈ N.wrd w :: its := List.mem_cons_of_mem _ (List.mem_of_getElem? hn)
      have hnl := (hT.1 n.txt (List.mem_map_of_mem hmem)).2
      have htl : (S (TL.joinL [32] ((N.wrd w :: its.take i).map N.txt))).length ≤ 305 := by
        rw [S_len]
        have := joinL_len (m := 60) (ts := (N.wrd w :: its.take i).map N.txt) (by
          intro p hp
          obtain ⟨n, hn, rfl⟩ := List.mem_map.mp hp
          refine (hT.1 _ (List.mem_map_of_mem ?_)).2
          rcases List.mem_cons.mp hn with e | e
          · rw [e]; exact List.mem_cons_self
          · exact List.mem_cons_of_mem _ (List.mem_of_mem_take e))
        rw [List.length_map, List.length_cons, List.length_take] at this
        have h5 := hT.2.2
        rw [List.length_cons] at h5
        have h6 : min i its.length + 1 ≤ 5 := by omega
        have := Nat.mul_le_mul_right 61 h6
        omega
      have hst := wsnoc (ns := N.wrd w :: its.take i) (n := n) (by simp)
      rw [← wcut hn] at hst
      rcases hF n hmem with ⟨u, rfl⟩ | ⟨m, hm, rfl⟩
      · have hv : flv (.wrd u) = .str (S u) := rfl
        have hul : (S u).length ≤ 60 := by rw [S_len]; exact hnl
        rw [hv]
        walk_at "gb go"
        exact ⟨by rw [hst]; rfl, s1⟩
      · have hv : flv (.num (m : Int)) = .int (m : Int) := rfl
        have hul : (Str.ofString (toString (m : Int))).length ≤ 60 := by rw [numS, S_len]; exact hnl
        have hlg := log6 hm
        rw [hv]
        walk_at "gb go"
        exact ⟨by rw [hst, numS]; rfl, s1⟩
    · rintro σ H' ⟨v, rfl, s1⟩
      walk_at "gb go"
      rw [List.length_map, List.take_length]
      exact k _ ((same_new fT).trans s1)
theorem ok_l_is_number (T : Txt (w := w) K mg A) : FnOk P w K mg base CX0 1 A.f_l_is_number A.d_l_is_number ["_law_word_here"] (spIsN) := by
  refine T.F_l_is_number.ok sc_l_is_number (fun vs H Q E h => ?_) (fun cdv Ar outer s H vs Q E hr h => ?_)
  · obtain ⟨z, t, rfl, _⟩ := h
    rfl
  · obtain ⟨z, t, rfl, hz, hl, hcd, k⟩ := h
    refine ⟨_, (pss_cons (ps_if (PW.pt (pw_or (pt_cmpR op_eq (pv 0) pe_str (nomark _)) (pw_or (pt_cmpR op_gt (pe_callB call_len_str (by rfl) T.n_len (by decide +kernel) (pa_cons (pv 0) pa_nil)) pe_int (nomark _)) (pw_or1 (PW.pt (pw_and (pt_cmpR op_gt (pe_callB call_len_str (by rfl) T.n_len (by decide +kernel) (pa_cons (pv 0) pa_nil)) pe_int (nomark _)) (pw_and1 (pt_cmpR op_eq (pe_ix ix_str (pv 0) pe_int (fun _ _ => rfl)) pe_str (nomark _))))))))) (pss_one (ps_ret pe_bl)) pss_nil)
        (pss_one (ps_ret (pe_cmpR (op_eqDK K hr.units) (pe_lc (own := [("_law_sign", 1)]) (g := gName 1) rfl sc_l_is_number.nd (pi_str (pv 0)) (blkOk_by (N := ["_law_word_here", "_law_sign"]) (sc := defScope s_l_is_number) (by decide +kernel)) (fun _ _ _ _ _ => (pg_name (i := 1) sc_l_is_number.nd rfl (Or.inl rfl))) (fun _ _ _ _ _ => pts_one (pt_cmpR op_notIn_sign (pv 1) pe_str rfl)) (fun _ _ _ _ _ => (pv 1))) (pe_lst pa_nil) (nomark _))))), ?_⟩
    obtain ⟨rfl⟩ := hz
    have hsz : (S t).length ≤ sizeLine := by rw [S_len, sizeLine_eq]; omega
    have hln := S_len t
    cases t with
    | nil =>
      have e1 : nm [] = false := rfl
      rw [e1] at k
      have hem : V.str (S []) = V.str (Str.ofString "") := str_nil.mpr rfl
      walk_at "gb go"
      exact k _ (Same.refl _)
    | cons c r =>
      have hc0 : atI (S (c :: r)).cps.toList 0 = some c := atI_nat (j := 0) rfl
      have hem : ¬ V.str (S (c :: r)) = V.str (Str.ofString "") := fun h => by cases str_nil.mp h
      walk_at "gb go"
      · rename_i h
        rw [nmF2 h] at k
        exact k _ (Same.refl _)
      · rename_i h1 h
        rw [nmL h1 h] at k
        exact k _ (Same.refl _)
      · rename_i h2 h1 h0 D hD
        rw [nmG h2 (fun z => h0 z.2)] at k
        refine lc_txt (t := c :: r) (fun i Hq => Same H Hq ∧ Hq D = some (.lst (((ndg ((c :: r).take i)).map sg1).map V.str))) ⟨same_new hD, upd_same⟩ ?_ ?_
        · rintro i d Hq hi ⟨s1, e1⟩
          have hsl : (((ndg ((c :: r).take i)).map sg1).map V.str).length < sizeLine := by
            rw [List.length_map, List.length_map, sizeLine_eq]
            exact Nat.lt_of_le_of_lt (List.length_filter_le _ _) (Nat.lt_of_le_of_lt (List.length_take_le' _ _) (by omega))
          walk_at "gb go"
          · rename_i hin
            have hin : d ∈ digs := hin
            rw [ndg_step hi, if_pos hin, List.append_nil]
            exact e1
          · rename_i hout
            have hout : ¬ d ∈ digs := hout
            rw [ndg_step hi, if_neg hout, List.map_append, List.map_append]
            exact upd_same
        · rintro Hq ⟨s1, e1⟩
          rw [List.take_length] at e1
          have hok : ∀ s ∈ (ndg (c :: r)).map sg1, PyData.strOk s = true := by
            intro s hs
            obtain ⟨d, hd, rfl⟩ := List.mem_map.mp hs
            exact cd_one hcd (List.mem_filter.mp hd).1
          walk_at "gb go"
          rw [eqvSL0]
          exact k _ (by walk_at "gb same")
      · rename_i h2 h1 D hD
        rw [nmG h2 (fun z => h1 z.1)] at k
        refine lc_txt (t := c :: r) (fun i Hq => Same H Hq ∧ Hq D = some (.lst (((ndg ((c :: r).take i)).map sg1).map V.str))) ⟨same_new hD, upd_same⟩ ?_ ?_
        · rintro i d Hq hi ⟨s1, e1⟩
          have hsl : (((ndg ((c :: r).take i)).map sg1).map V.str).length < sizeLine := by
            rw [List.length_map, List.length_map, sizeLine_eq]
            exact Nat.lt_of_le_of_lt (List.length_filter_le _ _) (Nat.lt_of_le_of_lt (List.length_take_le' _ _) (by omega))
          walk_at "gb go"
          · rename_i hin
            have hin : d ∈ digs := hin
            rw [ndg_step hi, if_pos hin, List.append_nil]
            exact e1
          · rename_i hout
            have hout : ¬ d ∈ digs := hout
            rw [ndg_step hi, if_neg hout, List.map_append, List.map_append]
            exact upd_same
        · rintro Hq ⟨s1, e1⟩
          rw [List.take_length] at e1
          have hok : ∀ s ∈ (ndg (c :: r)).map sg1, PyData.strOk s = true := by
            intro s hs
            obtain ⟨d, hd, rfl⟩ := List.mem_map.mp hs
            exact cd_one hcd (List.mem_filter.mp hd).1
          walk_at "gb go"
          rw [eqvSL0]
          exact k _ (by walk_at "gb same")
theorem ok_read (T : Txt (w := w) K mg A) : FnOk P w K mg base CX0 2 A.f_read A.d_read ["_law_line"] (spLRd) := by
  refine T.F_read.ok sc_read (fun vs H Q E h => ?_) (fun cdv Ar outer s H vs Q E hr h => ?_)
  · obtain ⟨z, t, r, rfl, _⟩ := h
    rfl
  · obtain ⟨z, t, r, rfl, hz, hl, hcd, hr2, k⟩ := h
    refine ⟨_, (pss_cons (ps_set (i := 1) sc_read.nd rfl (Or.inr rfl) (pe_bm PySem.F.plainAttrs_str PySem.F.slot_str_split PySem.F.type_str_split mt_split (pv 0) (pa_cons pe_str pa_nil)))
        (pss_cons (ps_setLc (i := 2) (own := [("_law_form", 6)]) (g := gName 6) rfl sc_read.nd rfl rfl (sw_true rfl rfl rfl (by decide +kernel)) (pi_listK K (pe_call0 (ok_forms T) (hr.mono (by decide)) rfl T.g_forms T.F_forms.kp T.b_forms .nil pass0 )) (blkOk_by (N := ["_law_line", "_law_words", "_law_forms_here", "_law_kinds", "_law_items", "_law_k", "_law_form"]) (sc := defScope s_read) (by decide +kernel)) (fun _ _ _ _ _ => (pg_name (i := 6) sc_read.nd rfl (Or.inl rfl))) (fun _ _ _ _ _ => pts_one (pt_cmpR op_eq (pe_ix (ix_tupK K) (pv 6) pe_int (fun _ _ => rfl)) (pe_ix (ix_listK K) (pv 1) pe_int (fun _ _ => rfl)) (nomark _))) (fun _ _ _ _ _ => (pv 6)))
        (pss_cons (ps_if (PW.pt (pw_or (pt_cmpR op_in_sign pe_str (pv 0) rfl) (pw_or (pt_cmpR (op_in_seqK K) pe_str (pv 1) rfl) (pw_or1 (pt_cmpR (op_eqDK K hr.units) (pv 2) (pe_lst pa_nil) (nomark _)))))) (pss_one (ps_ret pe_non)) pss_nil)
        (pss_cons (ps_set (i := 3) sc_read.nd rfl (Or.inl rfl) (pe_ix (ix_tupK K) (pe_ix (ix_listK K) (pv 2) pe_int (fun _ _ => rfl)) pe_int (fun _ _ => rfl)))
        (pss_cons (ps_if (pt_cmpR op_ne (pe_callB (call_len_seqK K) (by rfl) T.n_len (by decide +kernel) (pa_cons (pv 1) pa_nil)) (pe_op op_add (pe_callB call_len_str (by rfl) T.n_len (by decide +kernel) (pa_cons (pv 3) pa_nil)) pe_int) (nomark _)) (pss_one (ps_ret pe_non)) pss_nil)
        (pss_cons (ps_set (i := 4) sc_read.nd rfl (Or.inl rfl) (pe_lst (pa_cons (pe_ix (ix_listK K) (pv 1) pe_int (fun _ _ => rfl)) pa_nil)))
        (pss_cons (ps_for PassesOwn.never rfl (pi_range1 rfl T.n_range (pa_cons (pe_callB call_len_str (by rfl) T.n_len (by decide +kernel) (pa_cons (pv 3) pa_nil)) pa_nil)) (pg_name (i := 5) sc_read.nd rfl (Or.inl rfl))
        (pss_one (ps_if (pt_cmpR op_eq (pe_ix ix_str (pv 3) (pv 5) (fun _ _ => rfl)) pe_str (nomark _)) (pss_one (ps_expr (pe_bm PySem.F.plainAttrs_list PySem.F.slot_list_append PySem.F.type_list_append mt_append (pv 4) (pa_cons (pe_ix (ix_listK K) (pv 1) (pe_op op_add (pv 5) pe_int) (fun _ _ => rfl)) pa_nil)))) (pss_one (ps_if (pt_val (pe_call (ok_l_is_number T) (hr.mono (by decide)) rfl T.g_l_is_number T.F_l_is_number.kp T.b_l_is_number .nil pass0 (pa_cons (pe_ix (ix_listK K) (pv 1) (pe_op op_add (pv 5) pe_int) (fun _ _ => rfl)) pa_nil)) (by intro _; rfl)) (pss_one (ps_expr (pe_bm PySem.F.plainAttrs_list PySem.F.slot_list_append PySem.F.type_list_append mt_append (pv 4) (pa_cons (pe_callTy call_int_str (by rfl) T.n_int (by decide +kernel) (pa_cons (pe_ix (ix_listK K) (pv 1) (pe_op op_add (pv 5) pe_int) (fun _ _ => rfl)) pa_nil)) pa_nil)))) (pss_one (ps_ret pe_non)))))))
        (pss_one (ps_ret (pe_callTy call_tuple_of (by rfl) T.n_tuple (by decide +kernel) (pa_cons (pv 4) pa_nil))))))))))), ?_⟩
    obtain ⟨rfl⟩ := hz
    have hkb := fun h => badl hr2 h k
    have hkf := fun {ns : List N} (h : rdE t = some ns) => finl hr2 h k
    clear k hr2
    obtain ⟨w, ts, hpt⟩ : ∃ w ts, parts t = w :: ts := by
      cases e : parts t with
      | nil => exact absurd e (parts_ne t)
      | cons w ts => exact ⟨w, ts, rfl⟩
    have hrd := rdE_cons hpt
    have hcnt := parts_cnt t
    have hpl := parts_len t
    have hnl0 := @nl_none t
    have hem0 := @emp_none t
    rw [hpt] at hcnt hpl hem0
    repeat' ((fail_if_success (show _ ∧ rNewStrs _ _ _)); walk_at "gb step")
    rw [parts_split, hpt]
    refine ⟨by rw [S_len, sizeLine_eq]; omega, ?_⟩
    have hmem : ∀ {u : List Nat}, u ∈ w :: ts → ∀ c ∈ u, c ∈ t := fun {u} hu c hc => by
      have := mem_joinL (s := [32]) hc hu
      rw [← hpt, parts_join] at this
      exact this
    simp only [List.map_cons]
    walk_at "gb go"
    rename_i p0 hp0 a1 H1 sA hF
    obtain ⟨xs, ex, hxl, hxg⟩ := hF
    refine ⟨⟨xs, SqL.of ex⟩, ?_⟩
    intro D hD
    have hp1 : H1 p0 = some (.lst ((S w :: ts.map S).map V.str)) := sA _ _ upd_same
    have s0 : Same H H1 := (same_new hp0).trans sA
    have fD : H D = none := s0.free hD
    have hwl : ((S w :: ts.map S).map V.str).length = ts.length + 1 := by simp
    have hwl2 : ts.length ≤ 5001 := by simp only [List.length_cons] at hcnt; omega
    have hw0 : atI ((S w :: ts.map S).map V.str) 0 = some (.str (S w)) := atI_nat (j := 0) rfl
    clear sA hp0
    refine lc_list (K := K) (a := a1) (xs := xs) (fun i Hq => Same H1 Hq ∧ FIL Hq D w i) ⟨same_new hD, [], upd_same, rfl, fun q h => by cases h⟩ (fun i Hq _ h => SqL.of (h.1 _ _ ex)) ?_ ?_
    · rintro i x Hq hi ⟨s1, hI⟩
      have hil : i < LF.length := by rw [← hxl]; exact (List.getElem?_eq_some_iff.mp hi).1
      obtain ⟨q, hq⟩ : ∃ q, LF[i]? = some q := ⟨_, List.getElem?_eq_getElem hil⟩
      obtain ⟨T, hT, eT⟩ := hxg i q hq
      rw [hi] at hT; cases hT
      have eT2 : Hq T = some (.tup [.str q.1, .str q.2]) := s1 _ _ eT
      obtain ⟨qs, e1, e2, e3⟩ := hI.ex
      have hst := lf_step (P := fun p => decide (p.1 = S w)) hq
      have hsl : ((qs.map (·.1)).map V.ref).length < sizeLine := by
        have h1 : (qs.map (·.2)).length ≤ LF.length := by
          rw [e2]
          exact Nat.le_trans (List.length_filter_le _ _) (by rw [List.length_take]; omega)
        have h2 : LF.length = 13 := by decide +kernel
        rw [List.length_map] at h1
        rw [List.length_map, List.length_map, sizeLine_eq]; omega
      clear hxg ex hi eT
      walk_at "gb go"
      · rename_i h
        have h : q.1 = S w := by injection h
        rw [if_pos (decide_eq_true h), ← e2] at hst
        refine ⟨qs ++ [(T, q)], by rw [List.map_append, List.map_append]; exact upd_same, by rw [List.map_append, hst]; rfl, fun y hy => ?_⟩
        rcases List.mem_append.mp hy with u | u
        · rw [upd_ne (fun z => by have := e3 y u; rw [z, e1] at this; cases this)]; exact e3 y u
        · rw [List.mem_singleton.mp u]
          show upd Hq D _ T = _
          rw [upd_ne (fun z => by rw [z, e1] at eT2; cases eT2)]; exact eT2
      · rename_i h
        have h : ¬ q.1 = S w := fun z => h (by rw [z])
        rw [if_neg (by rw [decide_eq_false h]; decide), ← e2, List.append_nil] at hst
        exact ⟨qs, e1, hst.symm, e3⟩
    · rintro Hq ⟨s1, hI⟩
      obtain ⟨qs, e1, e2, e3⟩ := hI.ex
      rw [hxl, List.take_length, lf_filter] at e2
      clear hxg ex hD hxl
      cases hf : fk (S w) with
      | none =>
        rw [hf] at e2 hrd
        have hqs : qs = [] := List.map_eq_nil_iff.mp e2
        subst hqs
        walk_at "gb go"
        all_goals exact hkb hrd _ (by walk_at "gb same")
      | some ks =>
        rw [hf] at e2 hrd
        have hfk := fk_ok hf
        have hkl := len_tl ks
        obtain ⟨⟨T, q⟩, rfl⟩ := List.length_eq_one_iff.mp (show qs.length = 1 by
          have := congrArg List.length e2
          rw [List.length_map] at this
          exact this)
        have e2 : [q] = [(S w, cvS ks)] := e2
        injection e2 with e2 _
        subst e2
        have eT : Hq T = some (.tup [.str (S w), .str (S ((tl ks).map cv))]) := e3 _ List.mem_cons_self
        have e1 : Hq D = some (.lst [.ref T]) := e1
        clear e3
        have hrd2 : rdE t = (rdI (tl ks) ts).map (fun x => N.wrd w :: x) := hrd
        have hkx : (S ((tl ks).map cv)).length = (tl ks).length := by rw [S_len, List.length_map]
        have hk4 := hfk.len.2.2
        walk_at "gb go"
        · rename_i h
          exact hkb (hnl0 h) _ (by walk_at "gb same")
        · rename_i h
          exact hkb (hem0 (emp_in h)) _ (by walk_at "gb same")
        rename_i hn10 hnem p9 hp9
        refine ⟨.lst (SqL.of (by walk_at "gb hp")) (.cons (.tup (SqT.of (by walk_at "gb hp")) (.cons (.str _) (.cons (.str _) .nil))) .nil), .lst (SqL.of upd_same) .nil, shOne (ok_S fun c hc => hcd.ok c (hmem List.mem_cons_self c hc)) (ok_S cv_cd), rfl, ?_⟩
        have hev := @evOne (S w) (S ((tl ks).map cv))
        by_cases hlen : (tl ks).length = ts.length
        · walk_at "gb go"
          rename_i hl2 L hL
          have sP : Same H (upd Hq p9 (.lst [])) := by walk_at "gb same"
          have fL : H L = none := sP.free hL
          have hpq : Hq p0 = some (.lst ((S w :: ts.map S).map V.str)) := s1 _ _ hp1
          have npL : p0 ≠ L := ne_of_none (show upd Hq p9 (.lst []) p0 = some (.lst ((S w :: ts.map S).map V.str)) by walk_at "gb hp") hL
          refine for_range (fun i σ H' => ∃ v5 v6 : Option V, σ = [some (.str (S t)), some (.ref p0), some (.ref D), some (.str (S ((tl ks).map cv))), some (.ref L), v5, v6] ∧ Same H H' ∧ H' p0 = some (.lst ((S w :: ts.map S).map V.str)) ∧ ItW H' L w (tl ks) ts i) ⟨_, _, rfl, same_nw sP hL, by walk_at "gb hp", [], upd_same, .nil⟩ ?_ ?_
          · rintro i σ H' hi ⟨v5, v6, rfl, s2, d2, ns, e2, so⟩
            have hi' : i < (tl ks).length := by rw [hkx] at hi; omega
            obtain ⟨k0, hk0⟩ : ∃ c, (tl ks)[i]? = some c := ⟨_, List.getElem?_eq_getElem hi'⟩
            obtain ⟨u, hu⟩ : ∃ u, ts[i]? = some u := ⟨_, List.getElem?_eq_getElem (by omega)⟩
            have ax : atI ((S w :: ts.map S).map V.str) (0 + (i : Int) + 1) = some (.str (S u)) := by
              rw [Int.zero_add]
              exact atI_nat (j := i + 1) (by rw [List.map_cons, List.getElem?_cons_succ, List.getElem?_map, List.getElem?_map, hu]; rfl)
            have ak : atI (S ((tl ks).map cv)).cps.toList (0 + (i : Int)) = some (cv k0) := by
              rw [Int.zero_add]
              exact atI_nat (show ((tl ks).map cv)[i]? = some (cv k0) by rw [List.getElem?_map, hk0]; rfl)
            have hum := List.mem_of_getElem? hu
            have hul : u.length ≤ 5000 := Nat.le_trans (hpl u (List.mem_cons_of_mem _ hum)) hl
            have hul2 : (S u).length ≤ 5000 := by rw [S_len]; exact hul
            have hune := in_emp hnem hum
            have hunl : 10 ∉ u := fun h => hn10 (hmem (List.mem_cons_of_mem _ hum) 10 h)
            have hucd : Cd u := ⟨fun c hc => hcd.ok c (hmem (List.mem_cons_of_mem _ hum) c hc)⟩
            have hnl := so.1
            have hsl : (V.str (S w) :: ns.map flv).length < sizeLine := by rw [List.length_cons, List.length_map, sizeLine_eq]; omega
            have hbad : good k0 u = none → rdE t = none := fun g => by rw [hrd2, rdI_bad hk0 hu g]; rfl
            have mk : ∀ n, good k0 u = some n → ∀ (A9 : Hp), A9 L = some (.lst ((V.str (S w) :: ns.map flv) ++ [flv n])) → ItW A9 L w (tl ks) ts (i + 1) := fun n g A9 e => ⟨ns ++ [n], by rw [e, List.map_append]; rfl, so.snoc hk0 hu g⟩
            have k78 : ¬ V.str ⟨#[cv k0]⟩ = V.str (Str.ofString "n") → k0 = 78 := fun h => Decidable.byContradiction fun q => h (cv_n.mpr q)
            clear hL hp9 s1 sP hpq hev s0 hp1 eT e1
            cases hnm : nm u with
            | false =>
              walk_at "gb go"
              · rename_i h
                exact mk _ (goodW hune hunl (cv_n.mp h)) _ upd_same
              · rename_i h _ _ _
                exact hkb (hbad (by rw [k78 h]; exact goodX hnm)) _ (by walk_at "gb same")
            | true =>
              have hin := int_dig (nm_isD hnm).1 (by have := (nm_isD hnm).2; omega)
              have hle : (S u).length ≤ 640 := by rw [S_len]; have := (nm_isD hnm).2; omega
              walk_at "gb go"
              · rename_i h
                exact mk _ (goodW hune hunl (cv_n.mp h)) _ upd_same
              · rename_i h _ _ _
                exact mk _ (by rw [k78 h]; exact goodN hune hunl hnm) _ upd_same
          · rintro σ H' ⟨v5, v6, rfl, s2, d2, ns, e2, so⟩
            have hn : (((S ((tl ks).map cv)).length : Nat) : Int).toNat = ts.length := by rw [hkx]; omega
            rw [hn] at so
            have hok := so.all hlen
            have hnl := so.1
            have hsl : (V.str (S w) :: ns.map flv).length ≤ 16000 := by rw [List.length_cons, List.length_map]; omega
            clear hL hp9 s1 sP hpq hev s0 hp1 eT e1
            walk_at "gb go"
            exact hkf (ns := .wrd w :: ns) (by rw [hrd2, hok]; rfl) _ _ (by walk_at "gb same") upd_same
        · have hoff := rdI_off hlen
          walk_at "gb go"
          all_goals (exact hkb (by rw [hrd2, hoff]; rfl) _ (by walk_at "gb same"))
theorem ok_word (T : Txt (w := w) K mg A) : FnOk P w K mg base CX0 1 A.f_word A.d_word ["_law_pick"] (spWord) := by
  refine T.F_word.ok sc_word (fun vs H Q E h => ?_) (fun cdv Ar outer s H vs Q E hr h => ?_)
  · obtain ⟨i, rfl, _⟩ := h
    rfl
  · obtain ⟨i, rfl, h0, h1, k⟩ := h
    refine ⟨_, (pss_cons (ps_set (i := 1) sc_word.nd rfl (Or.inr rfl) pe_str)
        (pss_cons (ps_set (i := 1) sc_word.nd rfl (Or.inr rfl) (pe_op op_add_str (pv 1) pe_str))
        (pss_cons (ps_set (i := 2) sc_word.nd rfl (Or.inl rfl) (pe_op op_add pe_int (pe_op op_mod (pe_op op_fdiv (pv 0) pe_int) pe_int)))
        (pss_cons (ps_setLc (i := 3) (own := [("_law_k", 4)]) (g := gName 4) (tt := tYes) rfl sc_word.nd rfl rfl (sw_true rfl rfl rfl (by decide +kernel)) (pi_range1 rfl T.n_range (pa_cons (pv 2) pa_nil)) (blkOk_by (N := ["_law_pick", "_law_signs", "_law_size", "_law_rows", "_law_k", "_law_row"]) (sc := defScope s_word) (by decide +kernel)) (fun _ _ _ _ _ => (pg_name (i := 4) sc_word.nd rfl (Or.inl rfl))) (fun _ _ _ _ _ => pts_nil) (fun _ _ _ _ _ => (pe_op op_mod (pe_callTy call_int1 (by rfl) T.n_int (by decide +kernel) (pa_cons (pe_op op_add (pv 0) (pe_op op_mulX (pv 4) (pe_op op_fdiv (pv 0) pe_int))) pa_nil)) (pe_callB call_len_str (by rfl) T.n_len (by decide +kernel) (pa_cons (pv 1) pa_nil)))))
        (pss_one (ps_ret (pe_join pe_str (pe_lc (own := [("_law_row", 5)]) (g := gName 5) (tt := tYes) rfl sc_word.nd (pi_listK K (pv 3)) (blkOk_by (N := ["_law_pick", "_law_signs", "_law_size", "_law_rows", "_law_k", "_law_row"]) (sc := defScope s_word) (by decide +kernel)) (fun _ _ _ _ _ => (pg_name (i := 5) sc_word.nd rfl (Or.inl rfl))) (fun _ _ _ _ _ => pts_nil) (fun _ _ _ _ _ => (pe_ix ix_str (pv 1) (pv 5) (fun _ _ => rfl))))))))))), ?_⟩
    have hlen : (Str.ofString "abcdefghijklmnopqrstuvwxyz0123456789ABCDEFGHIJKLMNOPQRSTUVWXYZ" ++ Str.ofString "!\"#$&'()*+,-./:;<=>?\x40[\\]^_`{|}~").length = 93 := by decide +kernel
    have hall : (Str.ofString "abcdefghijklmnopqrstuvwxyz0123456789ABCDEFGHIJKLMNOPQRSTUVWXYZ" ++ Str.ofString "!\"#$&'()*+,-./:;<=>?\x40[\\]^_`{|}~").cps.toList.all (fun c => decide (33 ≤ c) && decide (c ≤ 126)) = true := by decide +kernel
    walk_at "gb go"
    rename_i D hD
    have hz0 : 0 ≤ i / 5 % 6 ∧ i / 5 % 6 < 6 := by omega
    refine lc_range (fun j Hq => Same H Hq ∧ IdxL Hq D j) ⟨same_new hD, [], upd_same, rfl, fun m h => by cases h⟩ ?_ ?_
    · rintro j Hq hj ⟨s1, ms, e1, hml, hmr⟩
      have hj2 : (j : Int) < 6 := by omega
      have hsl : (ms.map V.int).length < sizeLine := by rw [List.length_map, sizeLine_eq]; omega
      walk_at "gb go"
      refine ⟨ms ++ [_], by rw [List.map_append]; exact upd_same, by simp; omega, fun d hd => ?_⟩
      rcases List.mem_append.mp hd with q | q
      · exact hmr d q
      · rw [List.mem_singleton.mp q, hlen]; exact modr (by decide)
    · rintro Hq ⟨s1, ms, e1, hml, hmr⟩
      have hml6 : ms.length ≤ 6 := by omega
      have hml1 : 1 ≤ ms.length := by omega
      walk_at "gb go"
      rename_i D2 hD2
      refine lc_list (K := K) (a := D) (xs := ms.map V.int) (fun j H2 => Same Hq H2 ∧ NmL H2 D2 j) ⟨same_new hD2, [], upd_same, rfl, fun c h => by cases h⟩ (fun j H2 _ h => SqL.of (h.1 _ _ e1)) ?_ ?_
      · rintro j x H2 hx ⟨s2, t, e2, htl, hch⟩
        obtain ⟨m, hm, rfl⟩ := getMapG hx
        have hmm := hmr m (List.mem_of_getElem? hm)
        have hj' : j < ms.length := (List.getElem?_eq_some_iff.mp hm).1
        obtain ⟨c, hc, hc1, hc2⟩ := sgn_at hlen hall hmm.1 hmm.2
        have hsl : ((t.map sg1).map V.str).length < sizeLine := by rw [List.length_map, List.length_map, sizeLine_eq]; omega
        clear s1 hD hx
        walk_at "gb go"
        refine ⟨t ++ [c], by rw [List.map_append, List.map_append]; exact upd_same, by simp; omega, fun d hd => ?_⟩
        rcases List.mem_append.mp hd with q | q
        · exact hch d q
        · rw [List.mem_singleton.mp q]; exact ⟨hc1, hc2⟩
      · rintro H2 ⟨s2, t, e2, htl, hch⟩
        rw [List.length_map] at htl
        have hsz := sum60 (l := t.map sg1) (s := Str.ofString "") (by
          intro z hz
          obtain ⟨c, hc, rfl⟩ := List.mem_map.mp hz
          show ([c].toArray).size ≤ 100
          simp) (by simp; omega) (by decide +kernel)
        walk_at "gb go"
        rw [join1]
        exact k _ _ ⟨t, rfl, ⟨fun e => by rw [e] at htl; simp at htl; omega, by omega, hch⟩, by omega⟩ (s1.trans s2)
theorem ok_drawn_event (T : Txt (w := w) K mg A) : FnOk P w K mg base CX0 4 A.f_drawn_event A.d_drawn_event ["_law_draws"] (spEventS) := by
  refine T.F_drawn_event.ok sc_drawn_event (fun vs H Q E h => ?_) (fun cdv Ar outer s H vs Q E hr h => ?_)
  · obtain ⟨p, pq, rfl, _⟩ := h
    rfl
  · obtain ⟨p, pq, rfl, hP, k⟩ := h
    refine ⟨_, (pss_cons (ps_set (i := 1) sc_drawn_event.nd rfl (Or.inl rfl) (pe_ix (ix_listK K) (pe_call0 (ok_forms T) (hr.mono (by decide)) rfl T.g_forms T.F_forms.kp T.b_forms .nil pass0 ) (pe_call (ok_take T) (hr.mono (by decide)) rfl T.g_take T.F_take.kp T.b_take .nil pass0 (pa_cons (pv 0) (pa_cons pe_int pa_nil))) (fun _ _ => rfl)))
        (pss_cons (ps_set (i := 2) sc_drawn_event.nd rfl (Or.inl rfl) (pe_lst (pa_cons (pe_ix (ix_tupK K) (pv 1) pe_int (fun _ _ => rfl)) pa_nil)))
        (pss_cons (ps_for PassesOwn.never rfl (pi_str (pe_ix (ix_tupK K) (pv 1) pe_int (fun _ _ => rfl))) (pg_name (i := 3) sc_drawn_event.nd rfl (Or.inl rfl))
        (pss_cons (ps_set (i := 4) sc_drawn_event.nd rfl (Or.inl rfl) (pe_call (ok_take T) (hr.mono (by decide)) rfl T.g_take T.F_take.kp T.b_take .nil pass0 (pa_cons (pv 0) (pa_cons pe_int pa_nil))))
        (pss_one (ps_if (pt_cmpR op_eq (pv 3) pe_str (nomark _)) (pss_one (ps_expr (pe_bm PySem.F.plainAttrs_list PySem.F.slot_list_append PySem.F.type_list_append mt_append (pv 2) (pa_cons (pe_call (ok_word T) (hr.mono (by decide)) rfl T.g_word T.F_word.kp T.b_word .nil pass0 (pa_cons (pv 4) pa_nil)) pa_nil)))) (pss_cons (ps_set (i := 5) sc_drawn_event.nd rfl (Or.inl rfl) (pe_lst (pa_cons pe_int (pa_cons pe_int (pa_cons (pv 4) (pa_cons pe_int (pa_cons (pe_op op_mulX (pv 4) pe_int) (pa_cons pe_int pa_nil))))))))
        (pss_one (ps_expr (pe_bm PySem.F.plainAttrs_list PySem.F.slot_list_append PySem.F.type_list_append mt_append (pv 2) (pa_cons (pe_ix (ix_listK K) (pv 5) (pe_op op_mod (pe_callTy call_int1 (by rfl) T.n_int (by decide +kernel) (pa_cons (pv 4) pa_nil)) pe_int) (fun _ _ => rfl)) pa_nil)))))))))
        (pss_one (ps_ret (pe_callTy call_tuple_of (by rfl) T.n_tuple (by decide +kernel) (pa_cons (pv 2) pa_nil))))))), ?_⟩
    repeat' ((fail_if_success (show SqL _ _ _ _ ∧ _)); walk_at "gb step")
    rename_i a1 H1 sA hF r H2 r0 r1 hP2 sB
    have hF2 := hF.but (hP.mono sA) sB
    have sC : SameBut p H H2 := sA.but.trans sB
    refine ⟨SqL.of (pickF (hF.but (hP.mono sA) sB) r0 r1).choose_spec.1, (pickF (hF.but (hP.mono sA) sB) r0 r1).choose_spec.2.1, ?_⟩
    obtain ⟨ex, ei, eT, hk⟩ := (pickF (hF.but (hP.mono sA) sB) r0 r1).choose_spec
    generalize (pickF (hF.but (hP.mono sA) sB) r0 r1).choose = qq at *
    obtain ⟨xs, T, w, ks⟩ := qq
    dsimp only at ex ei eT hk
    have hkl := (fk_ok hk).len.2.2
    walk_at "gb go"
    rename_i L hL
    have nL : L ≠ p := draw_new hP2 hL
    have nLq : L ≠ pq := draw_newq hP2 hL
    have fL : H L = none := but_free sC nL hL
    have nT : T ≠ p := draw_ne hP2 eT
    refine for_txt (t := (tl ks).map cv) (fun i σ Hq => ∃ v v4 v5 : Option V, σ = [some (.ref p), some (.ref T), some (.ref L), v, v4, v5] ∧ DrawAt Hq p pq ∧ SameBut p H Hq ∧ EvSoS Hq L w ks i) ⟨_, _, _, rfl, hP2.mono (same_new hL), by walk_at "gb but", [], upd_same, rfl, (fun j k n _ h => by cases h), fun n h => by cases h⟩ ?_ ?_
    · rintro i c σ Hq hc ⟨v, v4, v5, rfl, hPq, sq, so⟩
      obtain ⟨k0, hk0, rfl⟩ := getMapG hc
      have hil : i < (tl ks).length := (List.getElem?_eq_some_iff.mp hk0).1
      have hkl2 := len_tl ks
      clear hF hF2 sA sB sC ex ei eT hP2 hP hL hc
      obtain ⟨its, e1, e2, e3, e4⟩ := so.ex
      have hsl : (V.str (S w) :: its.map flv).length < sizeLine := by rw [List.length_cons, List.length_map, sizeLine_eq]; omega
      repeat' ((fail_if_success (show atI _ _ = _ ∧ _)); walk_at "gb step")
      · rename_i r H3 r0 r1 hP3 s3 h z H4 hN s4
        obtain ⟨u, rfl, hu, hu10⟩ := hN.ex
        exact ⟨its ++ [.wrd u], by rw [List.map_append]; exact upd_same, by simp; omega, so_snoc e2 e3 hk0 (.inr ⟨cv_n.mp h, u, rfl, hu⟩), short_snoc (n := .wrd u) e4 hu10⟩
      · rename_i r H3 r0 r1 hP3 s3 h M hM
        refine And.intro (pickM r0 r1).choose_spec.2 ?_
        obtain ⟨m0, m1⟩ := (pickM r0 r1).choose_spec.1
        generalize (pickM r0 r1).choose = m at m0 m1 ⊢
        have eL3 : H3 L = some (.lst (.str (S w) :: its.map flv)) := s3 _ _ nL e1
        have nLM : L ≠ M := ne_of_none eL3 hM
        walk_at "gb go"
        have em : m = ((m.toNat : Nat) : Int) := by rw [Int.toNat_of_nonneg m0]
        exact ⟨its ++ [.num m], by rw [List.map_append]; exact upd_same, by simp; omega, so_snoc e2 e3 hk0 (.inl ⟨Decidable.byContradiction fun q => h (cv_n.mpr q), m.toNat, by omega, by rw [← em]⟩), short_snoc e4 (by rw [em, txt_num]; exact Nat.le_trans (num_len6 (by omega)) (by decide))⟩
    · rintro σ Hq ⟨v, v4, v5, rfl, hPq, sq, so⟩
      obtain ⟨its, e1, e2, e3, e4⟩ := so.ex
      rw [List.length_map] at e2
      have hkl2 := len_tl ks
      have hsl : (V.str (S w) :: its.map flv).length ≤ 16000 := by rw [List.length_cons, List.length_map]; omega
      walk_at "gb go"
      refine k _ (.wrd w :: its) _ ⟨⟨w, ks, its, rfl, hk, e2, e3⟩, fun n hn => ?_⟩ upd_same (by walk_at "gb leaf") (by walk_at "gb but")
      rcases List.mem_cons.mp hn with q | q
      · rw [q]
        have := (fk_ok hk).len.2.1
        rw [S_len] at this
        exact this
      · exact e4 n q
theorem ok_text (T : Txt (w := w) K mg A) : FnOk P w K mg base CX0 2 A.f_text A.d_text ["_law_events"] (spLText) := by
  refine T.F_text.ok sc_text (fun vs H Q E h => ?_) (fun cdv Ar outer s H vs Q E hr h => ?_)
  · obtain ⟨a, l, rfl, _⟩ := h
    rfl
  · obtain ⟨a, l, rfl, ha, hE, hS, hl, k⟩ := h
    refine ⟨_, (pss_one (ps_ret (pe_join pe_str (pe_lc (own := [("_law_event", 1)]) (g := gName 1) (tt := tYes) rfl sc_text.nd (pi_listK K (pv 0)) (blkOk_by (N := ["_law_events", "_law_event"]) (sc := defScope s_text) (by decide +kernel)) (fun _ _ _ _ _ => (pg_name (i := 1) sc_text.nd rfl (Or.inl rfl))) (fun _ _ _ _ _ => pts_nil) (fun _ _ _ _ _ => (pe_call (ok_written T) (hr.mono (by decide)) rfl T.g_written T.F_written.kp T.b_written .nil pass0 (pa_cons (pv 1) pa_nil))))))), ?_⟩
    have hsz := sum2 hS hl (s := Str.ofString "\n") (by decide +kernel)
    walk_at "gb go"
    rename_i D hD
    refine lc_list (K := K) (a := a) (xs := rfs l) (fun i Hq => Same H Hq ∧ Hq D = some (.lst ((((l.map fun q => wt q.2).map S).map V.str).take i))) ⟨same_new hD, upd_same⟩ (fun i Hq _ h => SqL.of (h.1 _ _ ha)) ?_ ?_
    · rintro i x Hq hi ⟨s1, e1⟩
      obtain ⟨q, hq, rfl⟩ := getMapG hi
      have hm := List.mem_of_getElem? hq
      have hEv := (hS q hm).ok
      have eq1 : Hq q.1 = some (.tup (q.2.map flv)) := s1 _ _ (hE q hm)
      have hi' : i < l.length := (List.getElem?_eq_some_iff.mp hq).1
      have hsl : ((((l.map fun q => wt q.2).map S).map V.str).take i).length < sizeLine := by rw [List.length_take, sizeLine_eq]; omega
      clear hi
      walk_at "gb go"
      refine lc_end ?_
      rw [List.getElem?_map, List.getElem?_map, List.getElem?_map, hq]; rfl
    · rintro Hq ⟨s1, e1⟩
      have e2 : Hq D = some (.lst (((l.map fun q => wt q.2).map S).map V.str)) := by rw [e1, take_all (by simp [rfs])]
      clear e1
      walk_at "gb go"
      rw [join_tx2]
      exact k _ s1
theorem ok_reading (T : Txt (w := w) K mg A) : FnOk P w K mg base CX0 3 A.f_reading A.d_reading ["_law_text_here"] (spLReading) := by
  refine T.F_reading.ok sc_reading (fun vs H Q E h => ?_) (fun cdv Ar outer s H vs Q E hr h => ?_)
  · obtain ⟨z, t, r, rfl, _⟩ := h
    rfl
  · obtain ⟨z, t, r, rfl, hz, hl, hcd, hr2, k⟩ := h
    refine ⟨_, (pss_cons (ps_set (i := 1) sc_reading.nd rfl (Or.inl rfl) (pe_lst pa_nil))
        (pss_cons (ps_if (pt_cmpR op_eq (pv 0) pe_str (nomark _)) (pss_one (ps_ret (pe_tup (pa_cons pe_str (pa_cons (pv 1) pa_nil))))) pss_nil)
        (pss_cons (ps_set (i := 2) sc_reading.nd rfl (Or.inl rfl) (pe_bm PySem.F.plainAttrs_str PySem.F.slot_str_split PySem.F.type_str_split mt_split (pv 0) (pa_cons pe_str pa_nil)))
        (pss_cons (ps_for PassesOwn.never rfl (pi_range1 rfl T.n_range (pa_cons (pe_callB (call_len_seqK K) (by rfl) T.n_len (by decide +kernel) (pa_cons (pv 2) pa_nil)) pa_nil)) (pg_name (i := 3) sc_reading.nd rfl (Or.inl rfl))
        (pss_cons (ps_set (i := 4) sc_reading.nd rfl (Or.inl rfl) (pe_call (ok_read T) (hr.mono (by decide)) rfl T.g_read T.F_read.kp T.b_read .nil pass0 (pa_cons (pe_ix (ix_listK K) (pv 2) (pv 3) (fun _ _ => rfl)) pa_nil)))
        (pss_cons (ps_if (pt_cmpR op_isN (pv 4) pe_non (nomark _)) (pss_one (ps_ret (pe_tup (pa_cons pe_str (pa_cons (pe_op op_add (pv 3) pe_int) pa_nil))))) pss_nil)
        (pss_one (ps_expr (pe_bm PySem.F.plainAttrs_list PySem.F.slot_list_append PySem.F.type_list_append mt_append (pv 1) (pa_cons (pv 4) pa_nil)))))))
        (pss_one (ps_ret (pe_tup (pa_cons pe_str (pa_cons (pv 1) pa_nil))))))))), ?_⟩
    obtain ⟨rfl⟩ := hz
    have hcnt := @ls_cnt t
    have hln := S_len t
    by_cases h0 : t = []
    · have hem : V.str (S t) = V.str (Str.ofString "") := str_nil.mpr h0
      have els : LS t = [] := by unfold LS; rw [if_pos h0]
      have ka := fing_all hr2 k (es := []) ⟨by rw [els]; rfl, fun i l ns h _ => by rw [els] at h; cases h⟩
      clear k
      walk_at "gb go"
      exact ka _ _ [] _ (by walk_at "gb same") upd_same (by walk_at "gb hp") (fun q h => by cases h) rfl
    · have hem : ¬ V.str (S t) = V.str (Str.ofString "") := fun e => h0 (str_nil.mp e)
      have els : LS t = nls t := by unfold LS; rw [if_neg h0]
      repeat' ((fail_if_success (show _ ∧ rNewStrs _ _ _)); walk_at "gb step")
      rename_i L hL _
      rw [nls_split, ← els]
      refine ⟨by rw [S_len, sizeLine_eq]; omega, ?_⟩
      walk_at "gb go"
      rename_i a0 h9
      have s0 : Same H (upd (upd H L (.lst [])) a0 (.lst (((LS t).map S).map V.str))) := by walk_at "gb same"
      have naL : a0 ≠ L := Ne.symm (ne_of_none upd_same h9)
      have hwl : (((LS t).map S).map V.str).length = (LS t).length := by simp
      refine for_range (fun i σ H' => ∃ v3 v4 : Option V, σ = [some (.str (S t)), some (.ref L), some (.ref a0), v3, v4] ∧ Same H H' ∧ H' a0 = some (.lst (((LS t).map S).map V.str)) ∧ BkSo H' L (LS t) i) ⟨_, _, rfl, s0, by walk_at "gb hp", [], by walk_at "gb hp", (fun q h => by cases h), rfl, fun j u q _ h => by cases h⟩ ?_ ?_
      · rintro i σ H' hi ⟨v3, v4, rfl, s1, d1, l, e1, e2, e3, e4⟩
        have hi' : i < (LS t).length := by rw [hwl] at hi; omega
        obtain ⟨u, hu⟩ : ∃ u, (LS t)[i]? = some u := ⟨_, List.getElem?_eq_getElem hi'⟩
        have ax : atI (((LS t).map S).map V.str) (0 + (i : Int)) = some (.str (S u)) := by
          rw [Int.zero_add]
          exact atI_nat (by rw [List.getElem?_map, List.getElem?_map, hu]; rfl)
        have hum := List.mem_of_getElem? hu
        have huf := ls_fine hum
        have hsl : (rfs l).length < sizeLine := by rw [rfs_len, sizeLine_eq]; omega
        have hul : u.length ≤ 5000 := by omega
        have hucd : Cd u := ⟨fun c hc => hcd.ok c (huf.2 c hc)⟩
        have fL : H L = none := hL
        clear s0 h9 hL hi
        cases hru : rdE u with
        | none =>
          have hre : RE u none := ⟨hru⟩
          have kb := fing_bad hr2 k (so_bad e3 e4 hu hru)
          clear k
          walk_at "gb go"
          have e01 : (0 : Int) + (i : Int) + 1 = 1 + (i : Int) := by omega
          refine kb _ _ (by walk_at "gb same") ?_
          rw [← e01]
          exact upd_same
        | some ns =>
          have hre : RE u (some ns) := ⟨hru⟩
          clear k
          walk_at "gb go"
          rename_i p9 H9 s9 e9
          exact ⟨l ++ [(p9, ns)], by rw [← rfs_cat]; exact upd_same, EvAll.put (EvAll.snoc (e2.mono s9) e9) (s9 _ _ e1), by simp; omega, so_snoc2 e3 e4 hu hru⟩
      · rintro σ H' ⟨v3, v4, rfl, s1, d1, l, e1, e2, e3, e4⟩
        rw [hwl, Int.toNat_natCast] at e3
        have ka := fing_all hr2 k (so_all e3 e4)
        clear k s0 h9 hL
        walk_at "gb go"
        exact ka _ _ l _ (by walk_at "gb same") upd_same (by walk_at "gb hp") (e2.mono (same_new (by assumption))) rfl
theorem ok_answer (T : Txt (w := w) K mg A) : FnOk P w K mg base CX0 8 A.f_answer A.d_answer ["_law_text_here"] (spLAnswer A) := by
  refine T.F_answer.ok sc_answer (fun vs H Q E h => ?_) (fun cdv Ar outer s H vs Q E hr h => ?_)
  · obtain ⟨z, t, r, rfl, _⟩ := h
    rfl
  · obtain ⟨z, t, r, rfl, hz, hl, hr2, k⟩ := h
    refine ⟨_, (pss_cons (ps_try_as (i := 2) rfl rfl sc_answer.nd rfl rfl ⟨rfl, by decide, Or.inl T.g_BadLine⟩ takes0 (fun W pn xe tk _ => (pss_one (ps_set (i := 1) sc_answer.nd rfl (Or.inl rfl) (pe_cmethT (pe_glob (v := .ref A.c_Book) rfl T.g_Book rfl) T.rd_Book T.cm_Book_read.choose_spec ((ok_Book_read T).toR T.b_Book_read) (hr.mono (by decide)) (fun σ => passAt tk σ) (pa_cons (pv 0) pa_nil))))) (fun a oe cls d pn hz hf => (pss_cons (ps_set (i := 3) sc_answer.nd rfl (Or.inl rfl) (pe_and (pe_callB (call_isX hz hf) (by rfl) T.n_isinstance (by decide +kernel) (pa_cons (pv 2) (pa_cons (pe_glob (v := .ref A.c_GangError) rfl T.g_GangError rfl) pa_nil))) (pe_one (pe_callB (call_isX hz hf) (by rfl) T.n_isinstance (by decide +kernel) (pa_cons (pv 2) (pa_cons (pe_bltn (v := .ty "ValueError") (by rfl) T.n_ValueError (by decide +kernel) rfl) pa_nil))))))
        (pss_cons (ps_if (PW.pt (pw_or (pt_not (pt_val (pv 3) (by intro _; rfl))) (pw_or1 (pt_val (pe_callB (call_isXT hz hf) (by rfl) T.n_isinstance (by decide +kernel) (pa_cons (pv 2) (pa_cons (pe_tup (pa_cons (pe_glob (v := .ref A.c_BadEvent) rfl T.g_BadEvent rfl) (pa_cons (pe_glob (v := .ref A.c_NoEvent) rfl T.g_NoEvent rfl) pa_nil))) pa_nil))) (by intro _; rfl))))) (pss_one (ps_ret (pe_tup (pa_cons pe_str (pa_cons pe_non pa_nil))))) pss_nil)
        (pss_one (ps_ret (pe_tup (pa_cons pe_str (pa_cons (pe_xf T.xf_BadLine T.x_BadLine.noS hz hf (pv 2)) pa_nil)))))))))
        (pss_one (ps_ret (pe_tup (pa_cons pe_str (pa_cons (pe_callTy (call_listItK K T.me_Book_iter T.me_Book_len (ok_Book_iter T) (ok_Book_len T) T.b_Book_iter T.b_Book_len (hr.mono (by decide)) (hr.mono (by decide))) (by rfl) T.n_list (by decide +kernel) (pa_cons (pv 1) pa_nil)) pa_nil)))))), ?_⟩
    obtain ⟨rfl⟩ := hz
    repeat' ((fail_if_success (show FinB _ _ _ _ _)); walk_at "gb step")
    cases hr2 with
    | bad hb =>
      intro d H' s1 e1
      repeat' ((fail_if_success (show _ → _)); walk_at "gb step")
      refine ⟨fun _ ex hex => ?_, fun q => nomatch q⟩
      walk_at "gb go"
      exact k _ _ (by walk_at "gb same") upd_same
    | all ha =>
      intro b l H' s1 hB hE hm
      obtain ⟨dx, tt, hb, ht⟩ := hB.ex
      have hll : (rfs l).length ≤ 981 := by
        rw [rfs_len]
        have h1 := all2_len ha
        rw [← hm, List.length_map] at h1
        omega
      walk_at "gb go"
      rename_i l0 hl0
      have sm : ∀ {it : Addr} {o1 o2 : HO}, H' it = none → it ≠ l0 → Same H' (upd (upd H' l0 o1) it o2) := fun {it o1 o2} h n => (same_new hl0).trans (same_new (by rw [upd_ne n]; exact h))
      refine ⟨fun it hi ne => ⟨_, _, rfl, hB.mono (sm hi ne), by rw [rfs_len], rfl⟩, fun it hi ne => ?_⟩
      have s2 : Same H' (upd (upd H' l0 (.lst (rfs l))) it (ItX it)) := sm hi ne
      have e2 : upd (upd H' l0 (.lst (rfs l))) it (ItX it) l0 = some (.lst (rfs l)) := by rw [upd_ne (Ne.symm ne), upd_same]
      walk_at "gb go"
      rename_i p2 hp2
      exact k p2 l0 l _ ((s1.trans s2).trans (same_new hp2)) upd_same (by walk_at "gb hp") ((hE.mono s2).mono (same_new hp2)) hm
theorem ok_changed (T : Txt (w := w) K mg A) : FnOk P w K mg base CX0 3 A.f_changed A.d_changed ["_law_draws", "_law_text_here"] (spChg2) := by
  refine T.F_changed.ok sc_changed (fun vs H Q E h => ?_) (fun cdv Ar outer s H vs Q E hr h => ?_)
  · obtain ⟨p, pq, z, l, rfl, _⟩ := h
    rfl
  · obtain ⟨p, pq, z, l, rfl, hP, hz, hS, hl, k⟩ := h
    refine ⟨_, (pss_cons (ps_set (i := 2) sc_changed.nd rfl (Or.inl rfl) (pe_call (ok_take T) (hr.mono (by decide)) rfl T.g_take T.F_take.kp T.b_take .nil pass0 (pa_cons (pv 0) (pa_cons pe_int pa_nil))))
        (pss_cons (ps_set (i := 3) sc_changed.nd rfl (Or.inl rfl) (pe_op op_mod (pe_callTy call_int1 (by rfl) T.n_int (by decide +kernel) (pa_cons (pe_op op_add (pe_op op_mulX (pe_call (ok_take T) (hr.mono (by decide)) rfl T.g_take T.F_take.kp T.b_take .nil pass0 (pa_cons (pv 0) (pa_cons pe_int pa_nil))) pe_int) (pe_call (ok_take T) (hr.mono (by decide)) rfl T.g_take T.F_take.kp T.b_take .nil pass0 (pa_cons (pv 0) (pa_cons pe_int pa_nil)))) pa_nil)) (pe_op op_add (pe_callB call_len_str (by rfl) T.n_len (by decide +kernel) (pa_cons (pv 1) pa_nil)) pe_int)))
        (pss_cons (ps_set (i := 4) sc_changed.nd rfl (Or.inl rfl) (pe_ix (ix_listK K) (pe_lst (pa_cons pe_str (pa_cons pe_str (pa_cons pe_str (pa_cons pe_str (pa_cons pe_str (pa_cons pe_str (pa_cons pe_str (pa_cons pe_str pa_nil))))))))) (pe_call (ok_take T) (hr.mono (by decide)) rfl T.g_take T.F_take.kp T.b_take .nil pass0 (pa_cons (pv 0) (pa_cons pe_int pa_nil))) (fun _ _ => rfl)))
        (pss_cons (ps_set (i := 5) sc_changed.nd rfl (Or.inl rfl) (pe_bm PySem.F.plainAttrs_str PySem.F.slot_str_split PySem.F.type_str_split mt_split (pv 1) (pa_cons pe_str pa_nil)))
        (pss_cons (ps_set (i := 6) sc_changed.nd rfl (Or.inl rfl) (pe_op op_mod (pe_callTy call_int1 (by rfl) T.n_int (by decide +kernel) (pa_cons (pv 3) pa_nil)) (pe_callB (call_len_seqK K) (by rfl) T.n_len (by decide +kernel) (pa_cons (pv 5) pa_nil))))
        (pss_cons (ps_if (pt_cmpR op_lt (pv 2) pe_int (nomark _)) (pss_one (ps_ret (pe_op op_add_str (pe_op op_add_str (pe_slice sl_str (pv 1) po_none (po_some (pv 3))) (pv 4)) (pe_slice sl_str (pv 1) (po_some (pv 3)) po_none)))) pss_nil)
        (pss_cons (ps_if (pt_cmpR op_eq (pv 2) pe_int (nomark _)) (pss_one (ps_ret (pe_op op_add_str (pe_op op_add_str (pe_slice sl_str (pv 1) po_none (po_some (pv 3))) (pv 4)) (pe_slice sl_str (pv 1) (po_some (pe_op op_add (pv 3) pe_int)) po_none)))) pss_nil)
        (pss_cons (ps_if (pt_cmpR op_eq (pv 2) pe_int (nomark _)) (pss_one (ps_ret (pe_op op_add_str (pe_slice sl_str (pv 1) po_none (po_some (pv 3))) (pe_slice sl_str (pv 1) (po_some (pe_op op_add (pv 3) pe_int)) po_none)))) pss_nil)
        (pss_cons (ps_if (pt_cmpR op_eq (pv 2) pe_int (nomark _)) (pss_one (ps_ret (pe_slice sl_str (pv 1) po_none (po_some (pv 3))))) pss_nil)
        (pss_cons (ps_set (i := 7) sc_changed.nd rfl (Or.inl rfl) (pe_lst (pa_cons pe_str (pa_cons pe_str (pa_cons pe_str (pa_cons pe_str (pa_cons pe_str (pa_cons pe_str (pa_cons pe_str (pa_cons pe_str pa_nil))))))))))
        (pss_one (ps_ret (pe_join pe_str (pe_op op_cat (pe_op op_cat (pe_slice sl_list (pv 5) po_none (po_some (pv 6))) (pe_lst (pa_cons (pe_ix (ix_listK K) (pv 7) (pe_call (ok_take T) (hr.mono (by decide)) rfl T.g_take T.F_take.kp T.b_take .nil pass0 (pa_cons (pv 0) (pa_cons pe_int pa_nil))) (fun _ _ => rfl)) pa_nil))) (pe_slice sl_list (pv 5) (po_some (pe_op op_add (pv 6) pe_int)) po_none))))))))))))))), ?_⟩
    obtain ⟨rfl⟩ := hz
    have k : ∀ (y : Str) H', Tx 4900 y → DrawAt H' p pq → SameBut p H H' → Q (.str y) H' := fun y H' h d s => by
      have e : S (tl y) = y := mk_tl y
      have z := k (tl y) H' (by rw [e]; exact h) d s
      rw [e] at z
      exact z
    have hWt := tx2_tx hS hl
    generalize tx2 l = t at hWt k ⊢
    have hlen := hWt.len
    have hln := S_len t
    have hnl1 : 1 ≤ (nls t).length := by
      cases e : nls t with
      | nil =>
        have := PyProof.Rows.split_pos (S t) (Str.ofString "\n")
        rw [nls_split, e] at this
        exact absurd this (by decide)
      | cons a b => simp
    have hnl2 : (((nls t).map S).map V.str).length = (nls t).length := by simp
    repeat' ((fail_if_success (show SqL _ _ _ _ ∧ _)); walk_at "gb step")
    rename_i r1 H1 r10 r11 hP1 s1 r2 H2 r20 r21 hP2 s2 r3 H3 r30 r31 hP3 s3 M hM r4 H4 r40 r41 hP4 s4
    refine ⟨SqL.of (s4 _ _ (draw_new hP3 hM) upd_same), (pickR [Str.ofString "\n", Str.ofString " ", Str.ofString "0", Str.ofString "\n\n", Str.ofString "x", Str.ofString "\ntick", Str.ofString "tick\n", Str.ofString "-"] 10 (allTx (by decide +kernel)) r40 (show r4 < ((8 : Nat) : Int) from r41)).choose_spec.2, ?_⟩
    have hy := (pickR [Str.ofString "\n", Str.ofString " ", Str.ofString "0", Str.ofString "\n\n", Str.ofString "x", Str.ofString "\ntick", Str.ofString "tick\n", Str.ofString "-"] 10 (allTx (by decide +kernel)) r40 (show r4 < ((8 : Nat) : Int) from r41)).choose_spec.1
    generalize (pickR [Str.ofString "\n", Str.ofString " ", Str.ofString "0", Str.ofString "\n\n", Str.ofString "x", Str.ofString "\ntick", Str.ofString "tick\n", Str.ofString "-"] 10 (allTx (by decide +kernel)) r40 (show r4 < ((8 : Nat) : Int) from r41)).choose = y at hy ⊢
    have hyl := hy.len
    have c1 := cut_len (S t) none (some ((r2 * 3 + r3) % (((S t).length : Nat) + 1 : Int)))
    have c2 := cut_len (S t) (some ((r2 * 3 + r3) % (((S t).length : Nat) + 1 : Int))) none
    have c3 := cut_len (S t) (some (((r2 * 3 + r3) % (((S t).length : Nat) + 1 : Int)) + 1)) none
    have sA : SameBut p H H4 := (((s1.trans s2).trans s3).trans (same_new hM).but).trans s4
    clear hP hP1 hP2 hP3 s1 s2 s3 s4 hM
    have a0 : 0 ≤ ((r2 * 3 + r3) % (((S t).length : Nat) + 1 : Int)) := (modr (by omega)).1
    repeat' ((fail_if_success (show _ ∧ rNewStrs _ _ _)); walk_at "gb step")
    rw [nls_split]
    refine ⟨by rw [S_len, sizeLine_eq]; omega, ?_⟩
    repeat' ((fail_if_success (show SqL _ _ _ _ ∧ atI _ _ = _ ∧ _)); walk_at "gb step")
    · exact k _ _ ((tx_pair a0 (Int.le_refl _) hWt hy).up (by decide)) (by walk_at "gb leaf") (by walk_at "gb but")
    · exact k _ _ ((tx_pair a0 (by omega) hWt hy).up (by decide)) (by walk_at "gb leaf") (by walk_at "gb but")
    · exact k _ _ ((tx_pair0 a0 (by omega) hWt).up (by decide)) (by walk_at "gb leaf") (by walk_at "gb but")
    · exact k _ _ ((tx_cut hWt).up (by decide)) (by walk_at "gb leaf") (by walk_at "gb but")
    · rename_i W hW _ _ _ _ M2 hM2 C hC r5 H5 r50 r51 hP5 s5
      have nM2 : M2 ≠ p := draw_new (hP4.mono (same_new hW)) hM2
      have nC : C ≠ p := draw_new ((hP4.mono (same_new hW)).mono (same_new hM2)) hC
      have nW : W ≠ p := draw_new hP4 hW
      refine ⟨SqL.of (s5 _ _ nM2 (by walk_at "gb hp")), (pickR [Str.ofString "", Str.ofString "tick", Str.ofString "come a", Str.ofString "close m 01 2", Str.ofString "drop", Str.ofString "shut a b", Str.ofString "TICK", Str.ofString "early x"] 12 (allTx (by decide +kernel)) r50 (show r5 < ((8 : Nat) : Int) from r51)).choose_spec.2, ?_⟩
      have hy2 := (pickR [Str.ofString "", Str.ofString "tick", Str.ofString "come a", Str.ofString "close m 01 2", Str.ofString "drop", Str.ofString "shut a b", Str.ofString "TICK", Str.ofString "early x"] 12 (allTx (by decide +kernel)) r50 (show r5 < ((8 : Nat) : Int) from r51)).choose_spec.1
      generalize (pickR [Str.ofString "", Str.ofString "tick", Str.ofString "come a", Str.ofString "close m 01 2", Str.ofString "drop", Str.ofString "shut a b", Str.ofString "TICK", Str.ofString "early x"] 12 (allTx (by decide +kernel)) r50 (show r5 < ((8 : Nat) : Int) from r51)).choose = y2 at hy2 ⊢
      have hyl2 := hy2.len
      have eC := s5 _ _ nC upd_same
      have eW : H5 W = some (.lst (((nls t).map S).map V.str)) := s5 W _ nW (by walk_at "gb hp")
      have sB : SameBut p H H5 := (sA.trans (((same_new hW).trans (same_new hM2)).trans (same_new hC)).but).trans s5
      clear s5 hC hM2 hW sA hP4
      have hcl : ∀ lo hi, (cutV (((nls t).map S).map V.str) lo hi).length ≤ (nls t).length := fun lo hi => by rw [cutV_mapG, List.length_map]; exact Nat.le_trans cutG_len (by rw [List.length_map]; exact Nat.le_refl _)
      have d1 := hcl none (some ((r2 * 3 + r3) % (((S t).length : Nat) + 1 : Int) % ((((nls t).map S).map V.str).length : Nat)))
      have d2 := hcl (some (((r2 * 3 + r3) % (((S t).length : Nat) + 1 : Int) % ((((nls t).map S).map V.str).length : Nat)) + 1)) none
      have d3 : [V.str y2].length = 1 := rfl
      have d4 : (nls t).length ≤ 4201 := by
        have := piece_cnt (c := 10) (ts := nls t)
        rw [nls_join] at this
        omega
      have d5 : (cutV (((nls t).map S).map V.str) none (some ((r2 * 3 + r3) % (((S t).length : Nat) + 1 : Int) % ((((nls t).map S).map V.str).length : Nat))) ++ [V.str y2]).length ≤ 4202 := by rw [List.length_append]; omega
      have p0 : 0 ≤ ((r2 * 3 + r3) % (((S t).length : Nat) + 1 : Int) % ((((nls t).map S).map V.str).length : Nat)) := (modr (by omega)).1
      have hw := @wl_edit t y2 ((r2 * 3 + r3) % (((S t).length : Nat) + 1 : Int) % ((((nls t).map S).map V.str).length : Nat)) p0
      have hok : ∀ z ∈ cutG ((nls t).map S) none (some ((r2 * 3 + r3) % (((S t).length : Nat) + 1 : Int) % ((((nls t).map S).map V.str).length : Nat))) ++ [y2] ++ cutG ((nls t).map S) (some (((r2 * 3 + r3) % (((S t).length : Nat) + 1 : Int) % ((((nls t).map S).map V.str).length : Nat)) + 1)) none, Tx 5000 z := by
        intro z hz
        rcases List.mem_append.mp hz with q | q
        · rcases List.mem_append.mp q with q | q
          · exact (pieces_tx hWt z (cutG_mem q)).up (by decide)
          · rw [List.mem_singleton.mp q]; exact hy2.up (by decide)
        · exact (pieces_tx hWt z (cutG_mem q)).up (by decide)
      have hE : cutV (((nls t).map S).map V.str) none (some ((r2 * 3 + r3) % (((S t).length : Nat) + 1 : Int) % ((((nls t).map S).map V.str).length : Nat))) ++ [V.str y2] ++ cutV (((nls t).map S).map V.str) (some (((r2 * 3 + r3) % (((S t).length : Nat) + 1 : Int) % ((((nls t).map S).map V.str).length : Nat)) + 1)) none = (cutG ((nls t).map S) none (some ((r2 * 3 + r3) % (((S t).length : Nat) + 1 : Int) % ((((nls t).map S).map V.str).length : Nat))) ++ [y2] ++ cutG ((nls t).map S) (some (((r2 * 3 + r3) % (((S t).length : Nat) + 1 : Int) % ((((nls t).map S).map V.str).length : Nat)) + 1)) none).map V.str := by
        rw [List.map_append, List.map_append, ← cutV_mapG, ← cutV_mapG]; rfl
      have hnl1 : (Str.ofString "\n").length = 1 := by decide +kernel
      have hsum := sum_wl (cutG ((nls t).map S) none (some ((r2 * 3 + r3) % (((S t).length : Nat) + 1 : Int) % ((((nls t).map S).map V.str).length : Nat))) ++ [y2] ++ cutG ((nls t).map S) (some (((r2 * 3 + r3) % (((S t).length : Nat) + 1 : Int) % ((((nls t).map S).map V.str).length : Nat)) + 1)) none)
      have hsz : ((cutG ((nls t).map S) none (some ((r2 * 3 + r3) % (((S t).length : Nat) + 1 : Int) % ((((nls t).map S).map V.str).length : Nat))) ++ [y2] ++ cutG ((nls t).map S) (some (((r2 * 3 + r3) % (((S t).length : Nat) + 1 : Int) % ((((nls t).map S).map V.str).length : Nat)) + 1)) none).map (·.length)).sum + (cutG ((nls t).map S) none (some ((r2 * 3 + r3) % (((S t).length : Nat) + 1 : Int) % ((((nls t).map S).map V.str).length : Nat))) ++ [y2] ++ cutG ((nls t).map S) (some (((r2 * 3 + r3) % (((S t).length : Nat) + 1 : Int) % ((((nls t).map S).map V.str).length : Nat)) + 1)) none).length * (Str.ofString "\n").length ≤ 16777216 := by
        rw [hnl1, Nat.mul_one]; omega
      have hfin := join_tx (n := 4900) hok (by omega)
      generalize cutG ((nls t).map S) none (some ((r2 * 3 + r3) % (((S t).length : Nat) + 1 : Int) % ((((nls t).map S).map V.str).length : Nat))) ++ [y2] ++ cutG ((nls t).map S) (some (((r2 * 3 + r3) % (((S t).length : Nat) + 1 : Int) % ((((nls t).map S).map V.str).length : Nat)) + 1)) none = YS at hE hsz hfin
      clear hsum hok hw
      walk_at "gb go"
      rw [hE]
      walk_at "gb go"
      exact k _ _ hfin (by walk_at "gb leaf") (by walk_at "gb but")
theorem ok_is_book (T : Txt (w := w) K mg A) : FnOk P w K mg base CX0 6 A.f_is_book A.d_is_book ["_law_told", "_law_events"] (spIsB A) := by
  refine T.F_is_book.ok sc_is_book (fun vs H Q E h => ?_) (fun cdv Ar outer s H vs Q E hr h => ?_)
  · obtain ⟨b, a, l, m, rfl, _⟩ := h
    rfl
  · obtain ⟨b, a, l, m, rfl, hB, ha, hE, hE2, he, hS, hm, k⟩ := h
    refine ⟨_, (pss_cons (ps_if (PW.pt (pw_or (pt_not (pt_val (pe_callB (call_isiK' K) (by rfl) T.n_isinstance (by decide +kernel) (pa_cons (pv 0) (pa_cons (pe_glob (v := .ref A.c_Book) rfl T.g_Book rfl) pa_nil))) (by intro _; rfl))) (pw_or1 (pt_not (pt_val (pe_call (ok_same T 4) (hr.mono (by omega)) rfl T.g_same T.F_same.kp T.b_same .nil pass0 (pa_cons (pe_callTy (call_listItK K T.me_Book_iter T.me_Book_len (ok_Book_iter T) (ok_Book_len T) T.b_Book_iter T.b_Book_len (hr.mono (by decide)) (hr.mono (by decide))) (by rfl) T.n_list (by decide +kernel) (pa_cons (pv 0) pa_nil)) (pa_cons (pv 1) pa_nil))) (by intro _; rfl)))))) (pss_one (ps_ret pe_bl)) pss_nil)
        (pss_cons (ps_if (pt_cmpR op_ne (pe_callB (call_lenOwn T.me_Book_len (ok_Book_len T) (hr.mono (by decide)) T.b_Book_len pass0) (by rfl) T.n_len (by decide +kernel) (pa_cons (pv 0) pa_nil)) (pe_callB (call_len_seqK K) (by rfl) T.n_len (by decide +kernel) (pa_cons (pv 1) pa_nil)) (nomark _)) (pss_one (ps_ret pe_bl)) pss_nil)
        (pss_cons (ps_for PassesOwn.never rfl (pi_range1 rfl T.n_range (pa_cons (pe_callB (call_len_seqK K) (by rfl) T.n_len (by decide +kernel) (pa_cons (pv 1) pa_nil)) pa_nil)) (pg_name (i := 2) sc_is_book.nd rfl (Or.inl rfl))
        (pss_one (ps_if (pt_not (pt_val (pe_call (ok_same T 4) (hr.mono (by omega)) rfl T.g_same T.F_same.kp T.b_same .nil pass0 (pa_cons (pe_ixOwn T.me_Book_getitem T.fn_Book_getitem (ok_Book_getitem T) (hr.mono (by decide)) T.b_Book_getitem pass0 (pv 0) (pv 2)) (pa_cons (pe_ix (ix_listK K) (pv 1) (pv 2) (fun _ _ => rfl)) pa_nil))) (by intro _; rfl))) (pss_one (ps_ret pe_bl)) pss_nil)))
        (pss_one (ps_ret (pe_call (ok_same T 4) (hr.mono (by omega)) rfl T.g_same T.F_same.kp T.b_same .nil pass0 (pa_cons (pe_meth0 (pv 0) T.cl_Book T.me_Book_text (ok_Book_text T) (hr.mono (by decide)) T.b_Book_text .nil pass0 ) (pa_cons (pe_call (ok_text T) (hr.mono (by decide)) rfl T.g_text T.F_text.kp T.b_text .nil pass0 (pa_cons (pv 1) pa_nil)) pa_nil)))))))), ?_⟩
    obtain ⟨dx, tt, hb, ht⟩ := hB.ex
    have hlen := len_of he
    have hrl := @rfs_len l
    have hrm := @rfs_len m
    have hS2 := evs_of he hS
    walk_at "gb go"
    rename_i l0 hl0
    have sm : ∀ {it : Addr} {o1 o2 : HO}, H it = none → it ≠ l0 → Same H (upd (upd H l0 o1) it o2) := fun {it o1 o2} h n => (same_new hl0).trans (same_new (by rw [upd_ne n]; exact h))
    refine ⟨fun it hi ne => ⟨_, _, rfl, hB.mono (sm hi ne), by rw [rfs_len], rfl⟩, fun it hi ne => ?_⟩
    have s2 : Same H (upd (upd H l0 (.lst (rfs l))) it (ItX it)) := sm hi ne
    have e2 : upd (upd H l0 (.lst (rfs l))) it (ItX it) l0 = some (.lst (rfs l)) := by rw [upd_ne (Ne.symm ne), upd_same]
    clear hl0 hi sm
    generalize upd (upd H l0 (.lst (rfs l))) it (ItX it) = H2 at s2 e2 ⊢
    have hq2 : Eqv H2 2 (.ref l0) (.ref a) := ev_lst e2 (s2 _ _ ha) (hE.mono s2) (hE2.mono s2) he (by omega) (fun q hq => by have := (hS2 q hq).ok.txts.2.2; omega)
    have hB2 := hB.mono s2
    walk_at "gb go"
    refine for_range (fun i σ Hq => ∃ v2 : Option V, σ = [some (.ref b), some (.ref a), v2] ∧ Same H2 Hq) ⟨_, rfl, by walk_at "gb same"⟩ ?_ ?_
    · rintro i σ Hq hi ⟨v2, rfl, s3⟩
      have hi' : i < m.length := by rw [hrm] at hi; omega
      obtain ⟨r, hr⟩ : ∃ r, m[i]? = some r := ⟨_, List.getElem?_eq_getElem hi'⟩
      obtain ⟨q, hq⟩ : ∃ q, l[i]? = some q := ⟨_, List.getElem?_eq_getElem (by omega)⟩
      have ax := at_rfs hq
      have ay := at_rfs hr
      have s4 := s2.trans s3
      have ha4 := s4 _ _ ha
      have hb4 := s4 _ _ hb
      have hB4 := hB.mono s4
      have hlq := (hS2 q (List.mem_of_getElem? hq)).ok.txts.2.2
      have e4 : Eqv Hq 1 (.ref q.1) (.ref r.1) := eqvEv (s4 _ _ (hE q (List.mem_of_getElem? hq))) (by rw [at_of he hq hr]; exact s4 _ _ (hE2 r (List.mem_of_getElem? hr))) (by omega)
      clear s2 s4 e2 hq2 hB2
      walk_at "gb go"
    · rintro σ Hq ⟨v2, rfl, s3⟩
      have s4 := s2.trans s3
      have ha4 := s4 _ _ ha
      have hb4 := s4 _ _ hb
      have hB4 := hB.mono s4
      have hE4 := hE.mono s4
      have hE5 := hE2.mono s4
      have hl8 : l.length ≤ 80 := by omega
      clear s2 s3 e2 hq2 hB2
      walk_at "gb go"
      exact k _ (by walk_at "gb same")
theorem ok_refusal (T : Txt (w := w) K mg A) : FnOk P w K mg base CX0 6 A.f_refusal A.d_refusal ["_law_book", "_law_way", "_law_at"] (spRefu A) := by
  refine T.F_refusal.ok sc_refusal (fun vs H Q E h => ?_) (fun cdv Ar outer s H vs Q E hr h => ?_)
  · obtain ⟨b, l, wy, n, rfl, _⟩ := h
    rfl
  · obtain ⟨b, l, wy, n, rfl, hB, hl, h1, h2, k⟩ := h
    refine ⟨_, (pss_cons (L2N.ps_try_as (i := 3) rfl rfl sc_refusal.nd rfl rfl ⟨rfl, by decide, Or.inl T.g_NoEvent⟩ takes0N (fun W pn xe tk _ => (pss_one (ps_if (pt_cmpR op_eq (pv 1) pe_int (nomark _)) (pss_one (ps_expr (pe_methT (pv 0) T.cl_Book T.me_Book_first (ok_Book_first T) (hr.mono (by decide)) T.b_Book_first (fun σ => L2N.passAt tk σ) (pa_cons (pv 2) pa_nil)))) (pss_one (ps_if (pt_cmpR op_eq (pv 1) pe_int (nomark _)) (pss_one (ps_expr (pe_methT (pv 0) T.cl_Book T.me_Book_without (ok_Book_without T) (hr.mono (by decide)) T.b_Book_without (fun σ => L2N.passAt tk σ) (pa_cons (pv 2) pa_nil)))) (pss_one (ps_expr (pe_methT (pv 0) T.cl_Book T.me_Book_put (ok_Book_put T) (hr.mono (by decide)) T.b_Book_put (fun σ => L2N.passAt tk σ) (pa_cons (pv 2) (pa_cons (pe_tup (pa_cons pe_str pa_nil)) pa_nil)))))))))) (fun a oe cls d pn hz hf => (pss_cons (ps_set (i := 4) sc_refusal.nd rfl (Or.inl rfl) (pe_and (pe_callB (call_isX hz.zc hf) (by rfl) T.n_isinstance (by decide +kernel) (pa_cons (pv 3) (pa_cons (pe_glob (v := .ref A.c_GangError) rfl T.g_GangError rfl) pa_nil))) (pe_one (pe_not (pe_callB (call_isXT hz.zc hf) (by rfl) T.n_isinstance (by decide +kernel) (pa_cons (pv 3) (pa_cons (pe_tup (pa_cons (pe_glob (v := .ref A.c_BadLine) rfl T.g_BadLine rfl) (pa_cons (pe_glob (v := .ref A.c_BadEvent) rfl T.g_BadEvent rfl) pa_nil))) pa_nil)))))))
        (pss_one (ps_ret (pe_tup (pa_cons (pv 4) (pa_cons (pe_xf T.xf_NoEvent T.x_NoEvent.noS hz.zc hf (pv 3)) pa_nil))))))))
        (pss_one (ps_ret pe_non))), ?_⟩
    obtain ⟨dx, tt, hb, ht⟩ := hB.ex
    have n1 : (bfl tt).lookup ("first" : Str) = none := by unfold bfl; rw [lookup_putF, if_neg (by decide +kernel)]; rfl
    have n2 : (bfl tt).lookup ("without" : Str) = none := by unfold bfl; rw [lookup_putF, if_neg (by decide +kernel)]; rfl
    have n3 : (bfl tt).lookup ("put" : Str) = none := by unfold bfl; rw [lookup_putF, if_neg (by decide +kernel)]; rfl
    walk_at "gb go"
    all_goals (refine ⟨fun _ ex hex => ?_, fun q => nomatch q⟩; walk_at "gb go"; exact k _ _ (by walk_at "gb same") upd_same)
theorem ok_edits (T : Txt (w := w) K mg A) : FnOk P w K mg base CX0 9 A.f_edits A.d_edits ["_law_draws", "_law_book", "_law_events"] (spEdits A) := by
  refine T.F_edits.ok sc_edits (fun vs H Q E h => ?_) (fun cdv Ar outer s H vs Q E hr h => ?_)
  · obtain ⟨p, pq, b, a, l, m, rfl, _⟩ := h
    rfl
  · obtain ⟨p, pq, b, a, l, m, rfl, hP, hB, ha, hE, hE2, he, hS, hm, k⟩ := h
    refine ⟨_, (pss_cons (ps_set (i := 3) sc_edits.nd rfl (Or.inl rfl) (pe_op op_sub (pe_call (ok_take T) (hr.mono (by decide)) rfl T.g_take T.F_take.kp T.b_take .nil pass0 (pa_cons (pv 0) (pa_cons (pe_op op_add (pe_callB (call_len_seqK K) (by rfl) T.n_len (by decide +kernel) (pa_cons (pv 2) pa_nil)) pe_int) pa_nil))) pe_int))
        (pss_cons (ps_set (i := 4) sc_edits.nd rfl (Or.inl rfl) (pe_call (ok_drawn_event T) (hr.mono (by decide)) rfl T.g_drawn_event T.F_drawn_event.kp T.b_drawn_event .nil pass0 (pa_cons (pv 0) pa_nil)))
        (pss_cons (ps_if (PW.pt (pw_or (pt_cmpR op_lt (pv 3) pe_int (nomark _)) (pw_or1 (pt_cmpR op_gt (pv 3) (pe_callB (call_len_seqK K) (by rfl) T.n_len (by decide +kernel) (pa_cons (pv 2) pa_nil)) (nomark _))))) (pss_cons (ps_for PassesOwn.never rfl (pi_range1 rfl T.n_range (pa_cons pe_int pa_nil)) (pg_name (i := 6) sc_edits.nd rfl (Or.inl rfl))
        (pss_one (ps_if (pt_not (pt_val (pe_call (ok_same T 5) (hr.mono (by omega)) rfl T.g_same T.F_same.kp T.b_same .nil pass0 (pa_cons (pe_call (ok_refusal T) (hr.mono (by decide)) rfl T.g_refusal T.F_refusal.kp T.b_refusal .nil pass0 (pa_cons (pv 1) (pa_cons (pv 6) (pa_cons (pv 3) pa_nil)))) (pa_cons (pe_tup (pa_cons pe_bl (pa_cons (pv 3) pa_nil))) pa_nil))) (by intro _; rfl))) (pss_one (ps_ret pe_bl)) pss_nil)))
        (pss_one (ps_ret pe_bl))) pss_nil)
        (pss_cons (ps_if (pt_not (pt_val (pe_call (ok_is_book T) (hr.mono (by decide)) rfl T.g_is_book T.F_is_book.kp T.b_is_book .nil pass0 (pa_cons (pe_meth (pv 1) T.cl_Book T.me_Book_first (ok_Book_first T) (hr.mono (by decide)) T.b_Book_first .nil passLN (pa_cons (pv 3) pa_nil)) (pa_cons (pe_slice sl_list (pv 2) po_none (po_some (pv 3))) pa_nil))) (by intro _; rfl))) (pss_one (ps_ret pe_bl)) pss_nil)
        (pss_cons (ps_set (i := 5) sc_edits.nd rfl (Or.inl rfl) (pe_op op_cat (pe_op op_cat (pe_slice sl_list (pv 2) po_none (po_some (pv 3))) (pe_lst (pa_cons (pv 4) pa_nil))) (pe_slice sl_list (pv 2) (po_some (pv 3)) po_none)))
        (pss_cons (ps_if (pt_not (pt_val (pe_call (ok_is_book T) (hr.mono (by decide)) rfl T.g_is_book T.F_is_book.kp T.b_is_book .nil pass0 (pa_cons (pe_meth (pv 1) T.cl_Book T.me_Book_put (ok_Book_put T) (hr.mono (by decide)) T.b_Book_put .nil passLN (pa_cons (pv 3) (pa_cons (pv 4) pa_nil))) (pa_cons (pv 5) pa_nil))) (by intro _; rfl))) (pss_one (ps_ret pe_bl)) pss_nil)
        (pss_cons (ps_if (pt_cmpR op_eq (pv 3) (pe_callB (call_len_seqK K) (by rfl) T.n_len (by decide +kernel) (pa_cons (pv 2) pa_nil)) (nomark _)) (pss_one (ps_ret (pe_call (ok_same T 5) (hr.mono (by omega)) rfl T.g_same T.F_same.kp T.b_same .nil pass0 (pa_cons (pe_call (ok_refusal T) (hr.mono (by decide)) rfl T.g_refusal T.F_refusal.kp T.b_refusal .nil pass0 (pa_cons (pv 1) (pa_cons pe_int (pa_cons (pv 3) pa_nil)))) (pa_cons (pe_tup (pa_cons pe_bl (pa_cons (pv 3) pa_nil))) pa_nil))))) pss_nil)
        (pss_one (ps_ret (pe_call (ok_is_book T) (hr.mono (by decide)) rfl T.g_is_book T.F_is_book.kp T.b_is_book .nil pass0 (pa_cons (pe_meth (pv 1) T.cl_Book T.me_Book_without (ok_Book_without T) (hr.mono (by decide)) T.b_Book_without .nil passLN (pa_cons (pv 3) pa_nil)) (pa_cons (pe_op op_cat (pe_slice sl_list (pv 2) po_none (po_some (pv 3))) (pe_slice sl_list (pv 2) (po_some (pe_op op_add (pv 3) pe_int)) po_none)) pa_nil)))))))))))), ?_⟩
    have hlen := len_of he
    have hrm := @rfs_len m
    have na : a ≠ p := lst_ne hP ha
    repeat' ((fail_if_success (show ite _ _ _)); walk_at "gb step")
    rename_i r H1 r0 r1 hP1 s1 e ns H2 hEv eE hP2 s2
    have sA : SameBut p H H2 := s1.trans s2
    have hB2 := hB.but hP sA
    have hE3 := hE.but hP sA
    have hE4 := hE2.but hP sA
    have ha2 := sA _ _ na ha
    obtain ⟨dx, t, hb, ht⟩ := hB2.ex
    clear hP hP1 s1 s2 hB hE hE2 ha
    have n1 : (bfl t).lookup ("first" : Str) = none := by unfold bfl; rw [lookup_putF, if_neg (by decide +kernel)]; rfl
    have n2 : (bfl t).lookup ("without" : Str) = none := by unfold bfl; rw [lookup_putF, if_neg (by decide +kernel)]; rfl
    have n3 : (bfl t).lookup ("put" : Str) = none := by unfold bfl; rw [lookup_putF, if_neg (by decide +kernel)]; rfl
    walk_at "gb go"
    · refine for_range (fun i σ Hq => ∃ v5 v6 : Option V, σ = [some (.ref p), some (.ref b), some (.ref a), some (.int (r - 2)), some (.ref e), v5, v6] ∧ Same H2 Hq) ⟨_, _, rfl, Same.refl _⟩ ?_ ?_
      · rintro i σ Hq hi ⟨v5, v6, rfl, s3⟩
        have hB3 := hB2.mono s3
        clear hB2 hb ht
        walk_at "gb go"
        all_goals skip
      · rintro σ Hq ⟨v5, v6, rfl, s3⟩
        walk_at "gb go"
        exact k _ (hP2.mono s3) (sA.trans s3.but)
    · refine for_range (fun i σ Hq => ∃ v5 v6 : Option V, σ = [some (.ref p), some (.ref b), some (.ref a), some (.int (r - 2)), some (.ref e), v5, v6] ∧ Same H2 Hq) ⟨_, _, rfl, Same.refl _⟩ ?_ ?_
      · rintro i σ Hq hi ⟨v5, v6, rfl, s3⟩
        have hB3 := hB2.mono s3
        clear hB2 hb ht
        walk_at "gb go"
        all_goals skip
      · rintro σ Hq ⟨v5, v6, rfl, s3⟩
        walk_at "gb go"
        exact k _ (hP2.mono s3) (sA.trans s3.but)
    · refine ⟨fun hc => ?_, fun hc => absurd ⟨by omega, by omega⟩ hc⟩
      have d1 := @cutV_length (rfs m) none (some (r - 2))
      have d2 := @cutV_length (rfs m) (some (r - 2)) none
      have d3 := @cutV_length (rfs m) (some (r - 2 + 1)) none
      have d4 : (cutV (rfs m) none (some (r - 2)) ++ [V.ref e]).length ≤ 77 := by rw [List.length_append]; simp only [List.length_cons, List.length_nil]; omega
      have d5 : [V.ref e].length = 1 := rfl
      intro b2 H3 s3 hB3
      have ha3 := s3 _ _ ha2
      walk_at "gb go"
      rename_i a3 hf3
      have s4 : Same H2 (upd H3 a3 (.lst (cutV (rfs m) none (some (r - 2))))) := same_nw s3 hf3
      refine ⟨by rw [cut_rfs]; exact upd_same, (hE3.mono s4).cut, (hE4.mono s4).cut, by rw [cut_snd, cut_snd, he], hS.cut, Nat.le_trans cutG_len (by omega), ?_⟩
      clear hf3 s3 hB3 ha3
      intro H4 s5
      have s6 := s4.trans s5
      have ha6 := s6 _ _ ha2
      have hB6 := hB2.mono s6
      have hb6 := s6 _ _ hb
      clear s4 s5
      walk_at "gb go"
      rename_i c1 g1 c2 g2 c3 g3 c4 g4 c5 g5
      refine ⟨fun hc => ⟨ns, ?_⟩, fun hc => absurd ⟨by omega, by omega⟩ hc⟩
      intro b5 H6 s7 hB7
      have sC : Same H4 H6 := by walk_at "gb same"
      have eC := s7 _ _ upd_same
      have E5 : cutV (rfs m) none (some (r - 2)) ++ [V.ref e] ++ cutV (rfs m) (some (r - 2)) none = rfs (cutG m none (some (r - 2)) ++ [(e, ns)] ++ cutG m (some (r - 2)) none) := by
        rw [cut_rfs, cut_rfs, ← rfs_cat, ← rfs_cat]; rfl
      rw [E5] at eC
      have s8 := s6.trans sC
      have ha8 := s8 _ _ ha2
      have hb8 := s8 _ _ hb
      have hB8 := hB2.mono s8
      have eE8 := s8 _ _ eE
      have hEl : EvAll H6 (cutG l none (some (r - 2)) ++ [(e, ns)] ++ cutG l (some (r - 2)) none) := ((hE3.mono s8).cut.app (fun q hq => by rw [List.mem_singleton.mp hq]; exact eE8)).app (hE3.mono s8).cut
      have hEm : EvAll H6 (cutG m none (some (r - 2)) ++ [(e, ns)] ++ cutG m (some (r - 2)) none) := ((hE4.mono s8).cut.app (fun q hq => by rw [List.mem_singleton.mp hq]; exact eE8)).app (hE4.mono s8).cut
      have hme : (cutG l none (some (r - 2)) ++ [(e, ns)] ++ cutG l (some (r - 2)) none).map (·.2) = (cutG m none (some (r - 2)) ++ [(e, ns)] ++ cutG m (some (r - 2)) none).map (·.2) := by
        rw [List.map_append, List.map_append, List.map_append, List.map_append, cut_snd, cut_snd, cut_snd, cut_snd, he]
      have hSm : EvsS (cutG m none (some (r - 2)) ++ [(e, ns)] ++ cutG m (some (r - 2)) none) := (hS.cut.app (fun q hq => by rw [List.mem_singleton.mp hq]; exact hEv)).app hS.cut
      have hlm : (cutG m none (some (r - 2)) ++ [(e, ns)] ++ cutG m (some (r - 2)) none).length ≤ 80 := by
        have q1 := @cutG_len _ m none (some (r - 2))
        have q2 : (cutG m none (some (r - 2)) ++ cutG m (some (r - 2)) none).length ≤ m.length := by
          obtain ⟨j, hj⟩ : ∃ j : Nat, r - 2 = (j : Int) := ⟨(r - 2).toNat, by omega⟩
          rw [hj, cut_lo, cut_hi, List.take_append_drop]
          exact Nat.le_refl _
        rw [List.length_append] at q2
        rw [List.length_append, List.length_append, List.length_singleton]
        omega
      clear g1 g2 g3 g4 g5 s7 sC s6 ha6 hB6 hb6
      walk_at "gb go"
      · rename_i H9 s9
        have sF : Same H2 H9 := by walk_at "gb same"
        exact k _ (hP2.mono sF) (sA.trans sF.but)
      · rename_i H9 s9 hne9
        refine ⟨fun hc => ?_, fun hc => absurd ⟨by omega, by omega⟩ hc⟩
        intro b7 H10 s10 hB10
        have sD : Same H2 H10 := (s8.trans s9).trans s10
        have ha10 := sD _ _ ha2
        clear s8 s9 s10 hEl hEm hB8 hb8 eE8 eC ha8 hB7
        walk_at "gb go"
        rename_i c6 g6 c7 g7 c8 g8
        refine ⟨by rw [cut_rfs, cut_rfs, rfs_cat]; exact upd_same, EvAll.mono (((hE3.mono sD).cut).app (hE3.mono sD).cut) (by walk_at "gb same"), EvAll.mono (((hE4.mono sD).cut).app (hE4.mono sD).cut) (by walk_at "gb same"), by rw [List.map_append, List.map_append, cut_snd, cut_snd, cut_snd, cut_snd, he], hS.cut.app hS.cut, ?_, ?_⟩
        · obtain ⟨j, hj⟩ : ∃ j : Nat, r - 2 = (j : Int) := ⟨(r - 2).toNat, by omega⟩
          have hj1 : (j : Int) + 1 = ((j + 1 : Nat) : Int) := by omega
          rw [hj, hj1, cut_lo, cut_hi, List.length_append, List.length_take, List.length_drop]
          omega
        · intro H11 s11
          have sG : Same H2 H11 := by walk_at "gb same"
          exact k _ (hP2.mono sG) (sA.trans sG.but)
theorem ok_law (T : Txt (w := w) K mg A) : FnOk P w K mg base CX0 12 A.f_law A.d_law ["_law_script"] (spLaw K) := by
  refine T.F_law.ok sc_law (fun vs H Q E h => ?_) (fun cdv Ar outer s H vs Q E hr h => ?_)
  · obtain ⟨sc, ns, rfl, _⟩ := h
    rfl
  · obtain ⟨sc, ns, rfl, hS, hl, hb, k⟩ := h
    refine ⟨_, (pss_cons (ps_set (i := 1) sc_law.nd rfl (Or.inr rfl) (pe_call (ok_drawing T) (hr.mono (by decide)) rfl T.g_drawing T.F_drawing.kp T.b_drawing .nil pass0 (pa_cons (pv 0) pa_nil)))
        (pss_cons (ps_set (i := 2) sc_law.nd rfl (Or.inr rfl) (pe_ix (ix_listK K) (pe_lst (pa_cons pe_int (pa_cons pe_int (pa_cons pe_int (pa_cons pe_int (pa_cons pe_int (pa_cons pe_int (pa_cons pe_int pa_nil)))))))) (pe_call (ok_take T) (hr.mono (by decide)) rfl T.g_take T.F_take.kp T.b_take .nil pass0 (pa_cons (pv 1) (pa_cons pe_int pa_nil))) (fun _ _ => rfl)))
        (pss_cons (ps_set (i := 3) sc_law.nd rfl (Or.inr rfl) (pe_lc (own := [("_law_k", 11)]) (g := gName 11) (tt := tYes) rfl sc_law.nd (pi_range1 rfl T.n_range (pa_cons (pv 2) pa_nil)) (blkOk_by (N := ["_law_script", "_law_draws", "_law_many", "_law_events", "_law_others", "_law_passed", "_law_book", "_law_other", "_law_alike", "_law_text_here", "_law_texts", "_law_k", "_law_row", "_law_back"]) (sc := defScope s_law) (by decide +kernel)) (fun _ _ _ _ _ => (pg_name (i := 11) sc_law.nd rfl (Or.inl rfl))) (fun _ _ _ _ _ => pts_nil) (fun _ _ _ _ _ => (pe_call (ok_drawn_event T) (hr.mono (by decide)) rfl T.g_drawn_event T.F_drawn_event.kp T.b_drawn_event .nil pass0 (pa_cons (pv 1) pa_nil)))))
        (pss_cons (ps_if (PW.pt (pw_and (pt_cmpR op_eq (pe_call (ok_take T) (hr.mono (by decide)) rfl T.g_take T.F_take.kp T.b_take .nil pass0 (pa_cons (pv 1) (pa_cons pe_int pa_nil))) pe_int (nomark _)) (pw_and1 (pt_cmpR op_gt (pv 2) pe_int (nomark _))))) (pss_one (ps_set (i := 3) sc_law.nd rfl (Or.inr rfl) (pe_lc (own := [("_law_k", 11)]) (g := gName 11) (tt := tYes) rfl sc_law.nd (pi_range1 rfl T.n_range (pa_cons pe_int pa_nil)) (blkOk_by (N := ["_law_script", "_law_draws", "_law_many", "_law_events", "_law_others", "_law_passed", "_law_book", "_law_other", "_law_alike", "_law_text_here", "_law_texts", "_law_k", "_law_row", "_law_back"]) (sc := defScope s_law) (by decide +kernel)) (fun _ _ _ _ _ => (pg_name (i := 11) sc_law.nd rfl (Or.inl rfl))) (fun _ _ _ _ _ => pts_nil) (fun _ _ _ _ _ => (pe_ix (ix_listK K) (pv 3) (pe_op op_mod (pe_callTy call_int1 (by rfl) T.n_int (by decide +kernel) (pa_cons (pe_op op_add (pe_op op_mulX (pv 11) pe_int) (pe_op op_fdiv (pv 11) pe_int)) pa_nil)) (pv 2)) (fun _ _ => rfl)))))) pss_nil)
        (pss_cons (ps_setLc (i := 4) (own := [("_law_k", 11)]) (g := gName 11) (tt := tYes) rfl sc_law.nd rfl rfl (sw_true rfl rfl rfl (by decide +kernel)) (pi_range1 rfl T.n_range (pa_cons (pe_call (ok_take T) (hr.mono (by decide)) rfl T.g_take T.F_take.kp T.b_take .nil pass0 (pa_cons (pv 1) (pa_cons pe_int pa_nil))) pa_nil)) (blkOk_by (N := ["_law_script", "_law_draws", "_law_many", "_law_events", "_law_others", "_law_passed", "_law_book", "_law_other", "_law_alike", "_law_text_here", "_law_texts", "_law_k", "_law_row", "_law_back"]) (sc := defScope s_law) (by decide +kernel)) (fun _ _ _ _ _ => (pg_name (i := 11) sc_law.nd rfl (Or.inl rfl))) (fun _ _ _ _ _ => pts_nil) (fun _ _ _ _ _ => (pe_call (ok_drawn_event T) (hr.mono (by decide)) rfl T.g_drawn_event T.F_drawn_event.kp T.b_drawn_event .nil pass0 (pa_cons (pv 1) pa_nil))))
        (pss_cons (ps_set (i := 5) sc_law.nd rfl (Or.inl rfl) (pe_callTy call_list_of (by rfl) T.n_list (by decide +kernel) (pa_cons (pv 3) pa_nil)))
        (pss_cons (ps_set (i := 6) sc_law.nd rfl (Or.inl rfl) (pe_make T.mk_Book (ok_Book_init T) (hr.mono (by decide)) rfl T.g_Book T.b_Book_init .nil pass0 (pa_cons (pv 5) pa_nil)))
        (pss_cons (ps_expr (pe_bm PySem.F.plainAttrs_list PySem.F.slot_list_append PySem.F.type_list_append mt_append (pv 5) (pa_cons (pe_tup (pa_cons pe_str pa_nil)) pa_nil)))
        (pss_cons (ps_set (i := 7) sc_law.nd rfl (Or.inl rfl) (pe_make T.mk_Book (ok_Book_init T) (hr.mono (by decide)) rfl T.g_Book T.b_Book_init .nil pass0 (pa_cons (pv 4) pa_nil)))
        (pss_cons (ps_if (pt_not (pt_val (pe_call (ok_is_book T) (hr.mono (by decide)) rfl T.g_is_book T.F_is_book.kp T.b_is_book .nil pass0 (pa_cons (pv 6) (pa_cons (pv 3) pa_nil))) (by intro _; rfl))) (pss_one (ps_ret pe_bl)) pss_nil)
        (pss_cons (ps_if (pt_not (pt_val (pe_call (ok_is_book T) (hr.mono (by decide)) rfl T.g_is_book T.F_is_book.kp T.b_is_book .nil pass0 (pa_cons (pe_op (op_own T.me_Book_add T.sf_Book (ok_Book_add T) (hr.mono (by decide)) T.b_Book_add pass0) (pv 6) (pv 7)) (pa_cons (pe_op op_cat (pv 3) (pv 4)) pa_nil))) (by intro _; rfl))) (pss_one (ps_ret pe_bl)) pss_nil)
        (pss_cons (ps_if (PW.pt (pw_or (pt_cmpR op_isnot_bl (pe_cmpR (op_eqOwn T.me_Book_eq (ok_Book_eq T) (hr.mono (by decide)) T.b_Book_eq pass0) (pv 6) (pe_make T.mk_Book (ok_Book_init T) (hr.mono (by decide)) rfl T.g_Book T.b_Book_init .nil pass0 (pa_cons (pv 3) pa_nil)) (nomark _)) pe_bl (nomark _)) (pw_or1 (pt_cmpR op_isnot_bl (pe_cmpR (op_eqOwn T.me_Book_eq (ok_Book_eq T) (hr.mono (by decide)) T.b_Book_eq pass0) (pv 6) (pe_make T.mk_Book (ok_Book_init T) (hr.mono (by decide)) rfl T.g_Book T.b_Book_init .nil pass0 (pa_cons (pv 5) pa_nil)) (nomark _)) pe_bl (nomark _))))) (pss_one (ps_ret pe_bl)) pss_nil)
        (pss_cons (ps_set (i := 8) sc_law.nd rfl (Or.inl rfl) (pe_cmpR (op_eqDK K hr.units) (pv 3) (pv 4) (nomark _)))
        (pss_cons (ps_if (PW.pt (pw_or (pt_not (pt_val (pe_call (ok_same T 5) (hr.mono (by omega)) rfl T.g_same T.F_same.kp T.b_same .nil pass0 (pa_cons (pe_cmpR (op_eqOwn T.me_Book_eq (ok_Book_eq T) (hr.mono (by decide)) T.b_Book_eq pass0) (pv 6) (pv 7) (nomark _)) (pa_cons (pv 8) pa_nil))) (by intro _; rfl))) (pw_or1 (pt_not (pt_val (pe_call (ok_same T 5) (hr.mono (by omega)) rfl T.g_same T.F_same.kp T.b_same .nil pass0 (pa_cons (pe_cmpR (op_eqOwn T.me_Book_eq (ok_Book_eq T) (hr.mono (by decide)) T.b_Book_eq pass0) (pv 7) (pv 6) (nomark _)) (pa_cons (pv 8) pa_nil))) (by intro _; rfl)))))) (pss_one (ps_ret pe_bl)) pss_nil)
        (pss_cons (ps_set (i := 9) sc_law.nd rfl (Or.inl rfl) (pe_call (ok_text T) (hr.mono (by decide)) rfl T.g_text T.F_text.kp T.b_text .nil pass0 (pa_cons (pv 3) pa_nil)))
        (pss_cons (ps_set (i := 10) sc_law.nd rfl (Or.inl rfl) (pe_lst (pa_cons (pv 9) (pa_cons (pe_op op_add_str (pv 9) pe_str) (pa_cons (pe_op op_add_str pe_str (pv 9)) pa_nil)))))
        (pss_cons (ps_for PassesOwn.never rfl (pi_range1 rfl T.n_range (pa_cons pe_int pa_nil)) (pg_name (i := 11) sc_law.nd rfl (Or.inl rfl))
        (pss_one (ps_expr (pe_bm PySem.F.plainAttrs_list PySem.F.slot_list_append PySem.F.type_list_append mt_append (pv 10) (pa_cons (pe_call (ok_changed T) (hr.mono (by decide)) rfl T.g_changed T.F_changed.kp T.b_changed .nil pass0 (pa_cons (pv 1) (pa_cons (pv 9) pa_nil))) pa_nil)))))
        (pss_cons (ps_for PassesOwn.never rfl (pi_listK K (pv 10)) (pg_name (i := 12) sc_law.nd rfl (Or.inl rfl))
        (pss_one (ps_if (pt_not (pt_val (pe_call (ok_same T 5) (hr.mono (by omega)) rfl T.g_same T.F_same.kp T.b_same .nil pass0 (pa_cons (pe_call (ok_answer T) (hr.mono (by decide)) rfl T.g_answer T.F_answer.kp T.b_answer .nil pass0 (pa_cons (pv 12) pa_nil)) (pa_cons (pe_call (ok_reading T) (hr.mono (by decide)) rfl T.g_reading T.F_reading.kp T.b_reading .nil pass0 (pa_cons (pv 12) pa_nil)) pa_nil))) (by intro _; rfl))) (pss_one (ps_ret pe_bl)) pss_nil)))
        (pss_cons (ps_for PassesOwn.never rfl (pi_range1 rfl T.n_range (pa_cons pe_int pa_nil)) (pg_name (i := 11) sc_law.nd rfl (Or.inl rfl))
        (pss_one (ps_if (pt_not (pt_val (pe_call (ok_edits T) (hr.mono (by decide)) rfl T.g_edits T.F_edits.kp T.b_edits .nil pass0 (pa_cons (pv 1) (pa_cons (pv 6) (pa_cons (pv 3) pa_nil)))) (by intro _; rfl))) (pss_one (ps_ret pe_bl)) pss_nil)))
        (pss_cons (ps_set (i := 13) sc_law.nd rfl (Or.inl rfl) (ClX.pe_cmeth (pe_glob (v := .ref A.c_Book) rfl T.g_Book rfl) T.rd_Book T.cm_Book_read.choose_spec ((ok_Book_read T).toR T.b_Book_read) (hr.mono (by decide)) passL (pa_cons (pv 9) pa_nil)))
        (pss_cons (ps_if (PW.pt (pw_or (pt_not (pt_val (pe_call (ok_is_book T) (hr.mono (by decide)) rfl T.g_is_book T.F_is_book.kp T.b_is_book .nil pass0 (pa_cons (pv 13) (pa_cons (pv 3) pa_nil))) (by intro _; rfl))) (pw_or1 (pt_cmpR op_isnot_bl (pe_cmpR (op_eqOwn T.me_Book_eq (ok_Book_eq T) (hr.mono (by decide)) T.b_Book_eq pass0) (pv 13) (pv 6) (nomark _)) pe_bl (nomark _))))) (pss_one (ps_ret pe_bl)) pss_nil)
        (pss_one (ps_ret (pe_and (pe_call (ok_is_book T) (hr.mono (by decide)) rfl T.g_is_book T.F_is_book.kp T.b_is_book .nil pass0 (pa_cons (pv 6) (pa_cons (pv 3) pa_nil))) (pe_one (pe_call (ok_is_book T) (hr.mono (by decide)) rfl T.g_is_book T.F_is_book.kp T.b_is_book .nil pass0 (pa_cons (pv 7) (pa_cons (pv 4) pa_nil)))))))))))))))))))))))))))), ?_⟩
    repeat' ((fail_if_success (show SqL _ _ _ _ ∧ atI _ _ = _ ∧ _)); walk_at "gb step")
    rename_i p pq H0 s0 dP0 hp0 M hM r H2 r0 r1 dP2 sB
    refine ⟨SqL.of (sB _ _ (draw_new dP0 hM) upd_same), (pickN7 r0 r1).choose_spec.2, ?_⟩
    have hm8 := (pickN7 r0 r1).choose_spec.1
    generalize (pickN7 r0 r1).choose = m at hm8 ⊢
    clear sB s0 dP0 hp0 hM hS hb
    apply suff (fun (H9 : Hp) (D9 : Addr) => DrawAt H9 p pq ∧ ∃ l : List Ev, H9 D9 = some (.lst (rfs l)) ∧ EvAll H9 l ∧ EvsS l ∧ l.length ≤ 70)
    · intro rest
      walk_at "gb go"
      rename_i D hD
      have nD := draw_new dP2 hD
      have nDq := draw_newq dP2 hD
      refine lc_range (lo := 0) (n := (m : Int).toNat) (fun j Hq => DrawAt Hq p pq ∧ SameBut p H2 Hq ∧ EvL Hq D j) ⟨dP2.mono (same_new hD), (same_new hD).but, [], upd_same, (fun q h => by cases h), (fun q h => by cases h), rfl⟩ ?_ ?_
      · rintro j Hq hj ⟨dP3, s3, l, e1, e2, e3, e4⟩
        have hsl : (rfs l).length < sizeLine := by rw [rfs_len, sizeLine_eq]; omega
        walk_at "gb go"
        rename_i a n9 H4 hv ea dP4 s4
        exact EvL.snoc (s4 _ _ nD e1) (e2.but dP3 s4) e3 e4 hv ea
      · rintro Hq ⟨dP3, s3, l, e1, e2, e3, e4⟩
        repeat' ((fail_if_success (show ite _ _ _)); walk_at "gb step")
        rename_i r5 H5 r50 r51 dP5 s5
        have f1 := s5 _ _ nD e1
        have f2 := e2.but dP3 s5
        clear hD nD nDq dP3 s3 e1 e2 s5 r50 r51
        refine iteI (fun h7 => ?_) (fun h7 => ?_)
        rotate_left
        · refine iteF ?_
          exact rest H5 D ⟨dP5, l, f1, f2, e3, by omega⟩
        repeat' ((fail_if_success (show ite _ _ _)); walk_at "gb step")
        refine iteD (fun hm0 => ?_) (fun hm0 => ?_)
        rotate_left
        · exact rest H5 D ⟨dP5, l, f1, f2, e3, by omega⟩
        · walk_at "gb go"
          rename_i D2 hD2
          have hm1 : 0 < l.length := by omega
          have fD2 := ne_of_none f1 hD2
          refine lc_range (lo := 0) (n := 70) (fun j Hq => Same H5 Hq ∧ EvL Hq D2 j) ⟨same_new hD2, [], upd_same, (fun q h => by cases h), (fun q h => by cases h), rfl⟩ ?_ ?_
          · rintro j Hq hj ⟨s6, l2, e1, e2, e5, e6⟩
            have hsl : (rfs l2).length < sizeLine := by rw [rfs_len, sizeLine_eq]; omega
            have g1 := s6 _ _ f1
            have g2 := f2.mono s6
            have hmd := modr (z := (0 + (j : Int)) * 5 + (0 + (j : Int)) / 3) (l := (m : Int)) (by omega)
            obtain ⟨⟨a, n9⟩, hq1, hq2⟩ := pickE (l := l) hmd.1 (by have := hmd.2; omega)
            walk_at "gb go"
            exact EvL.snoc e1 e2 e5 e6 (e3 _ hq1) (g2 _ hq1)
          · rintro Hq ⟨s6, l2, e1, e2, e5, e6⟩
            exact rest Hq D2 ⟨dP5.mono s6, l2, e1, e2, e5, by omega⟩
    · rintro H9 D9 ⟨dP, l, e1, e2, e3, e4⟩
      walk_at "gb go"
      rename_i r3 H3 r30 r31 dP3 s3 D3 hD3
      have nD9 := lst_ne dP e1
      have f1 := s3 _ _ nD9 e1
      have f2 := e2.but dP s3
      clear dP e1 e2 s3 nD9 dP2
      have nD3 := draw_new dP3 hD3
      have nD3q := draw_newq dP3 hD3
      refine lc_range (lo := 0) (n := r3.toNat) (fun j Hq => DrawAt Hq p pq ∧ SameBut p H3 Hq ∧ EvL Hq D3 j) ⟨dP3.mono (same_new hD3), (same_new hD3).but, [], upd_same, (fun q h => by cases h), (fun q h => by cases h), rfl⟩ ?_ ?_
      · rintro j Hq hj ⟨dP4, s4, l2, g1, g2, g3, g4⟩
        have hsl : (rfs l2).length < sizeLine := by rw [rfs_len, sizeLine_eq]; omega
        walk_at "gb go"
        rename_i a n9 H4 hv ea dP5 s5
        exact EvL.snoc (s5 _ _ nD3 g1) (g2.but dP4 s5) g3 g4 hv ea
      · rintro Hq ⟨dP4, s4, l2, g1, g2, g3, g4⟩
        have h1 := s4 _ _ (lst_ne dP3 f1) f1
        have h2 := f2.but dP3 s4
        have nD := ne_of_none f1 hD3
        have hl2 : l2.length ≤ 3 := by omega
        have hrl := @rfs_len l
        have hrl2 := @rfs_len l2
        clear f1 f2 dP3 s4 hD3 nD3 nD3q r30 r31 g4
        repeat' ((fail_if_success (show ∀ (x dx : Addr), _ = none → _ = none → dx ≠ x → _)); walk_at "gb step")
        rename_i Pa hPa
        have s1 : Same Hq (upd Hq Pa (.lst (rfs l))) := same_new hPa
        conv => whnf
        refine book_made2 (l := l) (.inl upd_same) (by omega) ?_
        intro b Hb sb hB
        have s2 := s1.trans sb
        have ePa := sb _ _ (upd_same (a := Pa))
        have n1 := ne_of_none h1 hPa
        have n2 := ne_of_none g1 hPa
        have n3 := draw_new dP4 hPa
        have n4 := draw_newq dP4 hPa
        have dP5 := dP4.mono s2
        have h3 := s2 _ _ h1
        have h4 := h2.mono s2
        have g5 := s2 _ _ g1
        have g6 := g2.mono s2
        clear dP4 h1 h2 g1 g2 s1 sb s2 hPa
        repeat' ((fail_if_success (show ∀ (x dx : Addr), _ = none → _ = none → dx ≠ x → _)); walk_at "gb step")
        rename_i Tt hT
        have nT : Tt ≠ Pa := fun z => by rw [← z, hT] at ePa; cases ePa
        have sT : Same Hb (upd Hb Tt (.tup [.str (Str.ofString "tick")])) := same_new hT
        have eT : upd (upd Hb Tt (.tup [.str (Str.ofString "tick")])) Pa (.lst (rfs l ++ [.ref Tt])) Tt = some (.tup ([N.wrd (tl (Str.ofString "tick"))].map flv)) := by
          rw [upd_ne nT, upd_same]
          exact congrArg (fun z => some (HO.tup [V.str z])) (mk_tl _).symm
        have fP : upd (upd Hb Tt (.tup [.str (Str.ofString "tick")])) Pa (.lst (rfs l ++ [.ref Tt])) Pa = some (.lst (rfs (l ++ [(Tt, [N.wrd (tl (Str.ofString "tick"))])]))) := by rw [upd_same, ← rfs_cat]; rfl
        have dP6 := (dP5.mono sT).put (o := .lst (rfs l ++ [.ref Tt])) n3 n4
        have hB6 := (hB.mono sT).put (o := .lst (rfs l ++ [.ref Tt])) (sT _ _ ePa)
        have h6 := (h4.mono sT).put (o := .lst (rfs l ++ [.ref Tt])) (sT _ _ ePa)
        have g8 := (g6.mono sT).put (o := .lst (rfs l ++ [.ref Tt])) (sT _ _ ePa)
        have h5 : upd (upd Hb Tt (.tup [.str (Str.ofString "tick")])) Pa (.lst (rfs l ++ [.ref Tt])) D9 = some (.lst (rfs l)) := by rw [upd_ne n1]; exact sT _ _ h3
        have g7 : upd (upd Hb Tt (.tup [.str (Str.ofString "tick")])) Pa (.lst (rfs l ++ [.ref Tt])) D3 = some (.lst (rfs l2)) := by rw [upd_ne n2]; exact sT _ _ g5
        clear hT nT sT ePa n1 n2 n3 n4 dP5 h3 h4 g5 g6 hB
        conv => whnf
        refine book_made2 (l := l2) (.inl g7) (by omega) ?_
        generalize upd (upd Hb Tt (.tup [.str (Str.ofString "tick")])) Pa (.lst (rfs l ++ [.ref Tt])) = H6 at *
        intro b2 H7 s7 hB2
        have dP := dP6.mono s7
        have hB := hB6.mono s7
        have hE := h6.mono s7
        have gE := g8.mono s7
        have hL := s7 _ _ h5
        have gL := s7 _ _ g7
        have tP := s7 _ _ fP
        have tE : EvAll H7 (l ++ [(Tt, [N.wrd (tl (Str.ofString "tick"))])]) := hE.snoc (s7 _ _ eT)
        clear dP6 hB6 h6 g8 h5 g7 fP eT s7
        have hFl := flats e3
        have hFl2 := flats g3
        have hFl3 : FlatS (l ++ [(Tt, [N.wrd (tl (Str.ofString "tick"))])]) := fun q hq => (List.mem_append.mp hq).elim (hFl q) fun h => by rw [List.mem_singleton.mp h]; exact flat_tick
        have hne := @longer_ne l (Tt, [N.wrd (tl (Str.ofString "tick"))])
        have hlt : (l ++ [(Tt, [N.wrd (tl (Str.ofString "tick"))])]).length ≤ 71 := by rw [List.length_append, List.length_singleton]; omega
        have hSc := e3.app g3
        have hlc : (l ++ l2).length ≤ 73 := by rw [List.length_append]; omega
        obtain ⟨dx, t, hb, ht⟩ := hB.ex
        obtain ⟨dx2, t2, hb2, ht2⟩ := hB2.ex
        have dpl : DpAll K H7 (rfs l) (dE l) := dpE hE
        have dpl2 : DpAll K H7 (rfs l2) (dE l2) := dpE gE
        have hEC := hE.app gE
        walk_at "gb go"
        refine ⟨by rw [rfs_cat]; exact upd_same, by walk_at "gb leaf", by walk_at "gb leaf", rfl, hSc, by omega, ?_⟩
        walk_at "gb go"
        rename_i b8 H8 s8 hB8 _
        have sH : Same H7 H8 := by walk_at "gb same"
        have dPa := dP.mono sH
        have hBa := hB.mono sH
        have hB2a := hB2.mono sH
        have hEa := hE.mono sH
        have gEa := gE.mono sH
        have hLa := sH _ _ hL
        have gLa := sH _ _ gL
        refine ⟨.lst (SqL.of hLa) (dpE hEa), .lst (SqL.of gLa) (dpE gEa), shEL hFl, shEL hFl2, ?_⟩
        rw [eqvL2 hFl hFl2]
        clear s8 hB8 tP tE hFl3 hne hlt dpl dpl2 hEC sH dP hB hB2 hE gE hL gL hb ht hb2 ht2 hSc hlc
        obtain ⟨dx, t, hb, ht⟩ := hBa.ex
        obtain ⟨dx2, t2, hb2, ht2⟩ := hB2a.ex
        have hWt := tx2_tx e3 (by omega)
        have hWl := hWt.len
        have hnl1 : (Str.ofString "\n").length = 1 := by decide +kernel
        have hWa : Tx 4900 (S (tx2 l) ++ Str.ofString "\n") := (tx_app hWt nl_tx).up (by decide)
        have hWb : Tx 4900 (Str.ofString "\n" ++ S (tx2 l)) := (tx_app nl_tx hWt).up (by decide)
        have hWc : Tx 4900 (S (tx2 l)) := hWt.up (by decide)
        walk_at "gb go"
        rename_i Hs1 ss1 Hs2 ss2 Ht st X hX
        have sT : Same H8 Ht := (ss1.trans ss2).trans st
        have dPt := dPa.mono sT
        have hBt := hBa.mono sT
        have hB2t := hB2a.mono sT
        have hEt := hEa.mono sT
        have gEt := gEa.mono sT
        have hLt := sT _ _ hLa
        have gLt := sT _ _ gLa
        have nX := draw_new dPt hX
        have nXq := draw_newq dPt hX
        clear ss1 ss2 st sT dPa hBa hB2a hEa gEa hLa gLa hb ht hb2 ht2
        refine for_range (fun i σ Hq => ∃ v11 v12 v13 : Option V, σ = [some (.ref sc), some (.ref p), some (.int (m : Int)), some (.ref D9), some (.ref D3), some (.ref Pa), some (.ref b), some (.ref b2), some (.bl (decide (l.map (·.2) = l2.map (·.2)))), some (.str (S (tx2 l))), some (.ref X), v11, v12, v13] ∧ DrawAt Hq p pq ∧ SameBut p Ht Hq ∧ TxL Hq X (3 + i)) ⟨_, _, _, rfl, dPt.mono (same_new hX), (same_new hX).but, [S (tx2 l), S (tx2 l) ++ Str.ofString "\n", Str.ofString "\n" ++ S (tx2 l)], upd_same, by simp, allTx_snoc (l := [S (tx2 l), S (tx2 l) ++ Str.ofString "\n"]) (allTx_snoc (l := [S (tx2 l)]) (fun z hz => by rw [List.mem_singleton.mp hz]; exact hWc) hWa) hWb⟩ ?_ ?_
        · rintro i σ Hq hi ⟨v11, v12, v13, rfl, dPq, sq, zs, z1, z2, z3⟩
          have hsl : (zs.map V.str).length < sizeLine := by rw [List.length_map, sizeLine_eq]; omega
          clear dPt hBt hB2t hEt gEt hLt gLt
          walk_at "gb go"
          rename_i u H4 hu dP4 s4
          exact TxL.snoc z2 z3 hu
        · rintro σ Hq ⟨v11, v12, v13, rfl, dPq, sq, zs, z1, z2, z3⟩
          have hBq := hBt.but dPt sq
          have hB2q := hB2t.but dPt sq
          have hEq := hEt.but dPt sq
          have gEq := gEt.but dPt sq
          have hLq := sq _ _ (lst_ne dPt hLt) hLt
          have gLq := sq _ _ (lst_ne dPt gLt) gLt
          clear dPt hBt hB2t hEt gEt hLt gLt sq
          walk_at "gb go"
          refine for_list (K := K) (a := X) (xs := zs.map V.str) (fun i σ H' => ∃ v11 v12 v13 : Option V, σ = [some (.ref sc), some (.ref p), some (.int (m : Int)), some (.ref D9), some (.ref D3), some (.ref Pa), some (.ref b), some (.ref b2), some (.bl (decide (l.map (·.2) = l2.map (·.2)))), some (.str (S (tx2 l))), some (.ref X), v11, v12, v13] ∧ Same Hq H') ⟨_, _, _, rfl, Same.refl _⟩ (fun i σ H' _ ⟨_, _, _, _, h⟩ => SqL.of (h _ _ z1)) ?_ ?_
          · rintro i x σ H' hi ⟨v11, v12, v13, rfl, sr⟩
            obtain ⟨z, hz, rfl⟩ := getMapG hi
            have hzt := z3 z (List.mem_of_getElem? hz)
            obtain ⟨t, rfl⟩ : ∃ t, z = S t := ⟨tl z, (mk_tl z).symm⟩
            have htl : t.length ≤ 4900 := tx_le hzt
            have hcd : Cd t := cd_of hzt
            obtain ⟨r9, hr9⟩ := rb_ex (LS t)
            clear dPq hBq hB2q hEq gEq hLq gLq z1 z2 z3 hi hz
            cases hr9 with
            | bad hbad =>
              rename_i j
              have hrb : RB (LS t) (.inl j) := .bad hbad
              walk_at "gb go"
              refine ⟨eqvSI (by walk_at "gb hp") (by walk_at "gb hp"), by decide, ?_⟩
              walk_at "gb go"
              all_goals skip
            | all hall =>
              rename_i es
              have hrb : RB (LS t) (.inr es) := .all hall
              walk_at "gb go"
              refine ⟨eqvRd (by walk_at "gb hp") (by walk_at "gb hp") (by walk_at "gb hp") (by walk_at "gb hp") (by walk_at "gb leaf") (by walk_at "gb leaf") (by assumption) (by assumption) hall htl, by decide, ?_⟩
              walk_at "gb go"
              all_goals skip
          · rintro σ H' ⟨v11, v12, v13, rfl, sr⟩
            have dPr := dPq.mono sr
            have hBr := hBq.mono sr
            have hB2r := hB2q.mono sr
            have hEr := hEq.mono sr
            have gEr := gEq.mono sr
            have hLr := sr _ _ hLq
            have gLr := sr _ _ gLq
            clear dPq hBq hB2q hEq gEq hLq gLq sr z1 z2 z3
            walk_at "gb go"
            refine for_range (fun i σ H5 => ∃ v11 v12 v13 : Option V, σ = [some (.ref sc), some (.ref p), some (.int (m : Int)), some (.ref D9), some (.ref D3), some (.ref Pa), some (.ref b), some (.ref b2), some (.bl (decide (l.map (·.2) = l2.map (·.2)))), some (.str (S (tx2 l))), some (.ref X), v11, v12, v13] ∧ DrawAt H5 p pq ∧ SameBut p H' H5 ∧ True) ⟨_, _, _, rfl, dPr, SameBut.refl, trivial⟩ ?_ ?_
            · rintro i σ H5 hi ⟨v11, v12, v13, rfl, dP5, s5, _⟩
              have hB5 := hBr.but dPr s5
              have hE5 := hEr.but dPr s5
              have hL5 := s5 _ _ (lst_ne dPr hLr) hLr
              clear dPr hBr hB2r hEr gEr hLr gLr
              walk_at "gb go"
              all_goals trivial
            · rintro σ H5 ⟨v11, v12, v13, rfl, dP5, s5, _⟩
              have hB5 := hBr.but dPr s5
              have hB25 := hB2r.but dPr s5
              have hE5 := hEr.but dPr s5
              have gE5 := gEr.but dPr s5
              have hL5 := s5 _ _ (lst_ne dPr hLr) hLr
              have gL5 := s5 _ _ (lst_ne dPr gLr) gLr
              clear dPr hBr hB2r hEr gEr hLr gLr s5
              have hrb : RB (LS (tx2 l)) (.inr (l.map (·.2))) := .all (tx2_all e3)
              have htl : (tx2 l).length ≤ 4900 := tx_le hWc
              walk_at "gb go"
              refine ⟨(by exact tb_ins (BookAt.mono hB5 (by walk_at "gb same")) (fun dxx ttx hbx => .base (.ins hbx T.cl_Book T.k1_Book T.kg T.kt T.k4_Book))), notFirst_self, ?_⟩
              walk_at "gb go"
              all_goals exact k _
end
theorem all_mk {P : Program} {w : World} {K : PySem.W.Frag} {h : Heap} {mg : Str → Option Value} {fa : Addr} (X : K.In h) (G : h.Ns mainGlobals mg) (hfa : mg "law" = some (.ref fa))
    {c_Book c_GangError c_BadLine c_BadEvent c_NoEvent f_GangError_init f_is_digits f_is_number f_event_line f_read_event f_Book_init f_Book_read f_Book_text f_Book_first f_Book_without f_Book_put f_Book_add f_Book_eq f_Book_getitem f_Book_len f_Book_iter f_mixed f_drawing f_take f_same f_forms f_written f_l_is_number f_read f_word f_drawn_event f_text f_reading f_answer f_changed f_is_book f_refusal f_edits f_law : Addr}
    {od_GangError_init an_GangError_init : Option Addr} {sl_GangError_init : Array (Option Value)} {oc_GangError_init kV_GangError_init dc_GangError_init pm_GangError_init cd_GangError_init ct_GangError_init : Value}
    {od_is_digits an_is_digits : Option Addr} {sl_is_digits : Array (Option Value)} {oc_is_digits kV_is_digits dc_is_digits pm_is_digits cd_is_digits ct_is_digits : Value}
    {od_is_number an_is_number : Option Addr} {sl_is_number : Array (Option Value)} {oc_is_number kV_is_number dc_is_number pm_is_number cd_is_number ct_is_number : Value}
    {od_event_line an_event_line : Option Addr} {sl_event_line : Array (Option Value)} {oc_event_line kV_event_line dc_event_line pm_event_line cd_event_line ct_event_line : Value}
    {od_read_event an_read_event : Option Addr} {sl_read_event : Array (Option Value)} {oc_read_event kV_read_event dc_read_event pm_read_event cd_read_event ct_read_event : Value}
    {od_Book_init an_Book_init : Option Addr} {sl_Book_init : Array (Option Value)} {oc_Book_init kV_Book_init dc_Book_init pm_Book_init cd_Book_init ct_Book_init : Value}
    {od_Book_read an_Book_read : Option Addr} {sl_Book_read : Array (Option Value)} {oc_Book_read kV_Book_read dc_Book_read pm_Book_read cd_Book_read ct_Book_read : Value}
    {p_Book_read : Addr} {rest_Book_read : List Value}
    {od_Book_text an_Book_text : Option Addr} {sl_Book_text : Array (Option Value)} {oc_Book_text kV_Book_text dc_Book_text pm_Book_text cd_Book_text ct_Book_text : Value}
    {od_Book_first an_Book_first : Option Addr} {sl_Book_first : Array (Option Value)} {oc_Book_first kV_Book_first dc_Book_first pm_Book_first cd_Book_first ct_Book_first : Value}
    {od_Book_without an_Book_without : Option Addr} {sl_Book_without : Array (Option Value)} {oc_Book_without kV_Book_without dc_Book_without pm_Book_without cd_Book_without ct_Book_without : Value}
    {od_Book_put an_Book_put : Option Addr} {sl_Book_put : Array (Option Value)} {oc_Book_put kV_Book_put dc_Book_put pm_Book_put cd_Book_put ct_Book_put : Value}
    {od_Book_add an_Book_add : Option Addr} {sl_Book_add : Array (Option Value)} {oc_Book_add kV_Book_add dc_Book_add pm_Book_add cd_Book_add ct_Book_add : Value}
    {od_Book_eq an_Book_eq : Option Addr} {sl_Book_eq : Array (Option Value)} {oc_Book_eq kV_Book_eq dc_Book_eq pm_Book_eq cd_Book_eq ct_Book_eq : Value}
    {od_Book_getitem an_Book_getitem : Option Addr} {sl_Book_getitem : Array (Option Value)} {oc_Book_getitem kV_Book_getitem dc_Book_getitem pm_Book_getitem cd_Book_getitem ct_Book_getitem : Value}
    {od_Book_len an_Book_len : Option Addr} {sl_Book_len : Array (Option Value)} {oc_Book_len kV_Book_len dc_Book_len pm_Book_len cd_Book_len ct_Book_len : Value}
    {od_Book_iter an_Book_iter : Option Addr} {sl_Book_iter : Array (Option Value)} {oc_Book_iter kV_Book_iter dc_Book_iter pm_Book_iter cd_Book_iter ct_Book_iter : Value}
    {od_mixed an_mixed : Option Addr} {sl_mixed : Array (Option Value)} {oc_mixed kV_mixed dc_mixed pm_mixed cd_mixed ct_mixed : Value}
    {od_drawing an_drawing : Option Addr} {sl_drawing : Array (Option Value)} {oc_drawing kV_drawing dc_drawing pm_drawing cd_drawing ct_drawing : Value}
    {od_take an_take : Option Addr} {sl_take : Array (Option Value)} {oc_take kV_take dc_take pm_take cd_take ct_take : Value}
    {od_same an_same : Option Addr} {sl_same : Array (Option Value)} {oc_same kV_same dc_same pm_same cd_same ct_same : Value}
    {od_forms an_forms : Option Addr} {sl_forms : Array (Option Value)} {oc_forms kV_forms dc_forms pm_forms cd_forms ct_forms : Value}
    {od_written an_written : Option Addr} {sl_written : Array (Option Value)} {oc_written kV_written dc_written pm_written cd_written ct_written : Value}
    {od_l_is_number an_l_is_number : Option Addr} {sl_l_is_number : Array (Option Value)} {oc_l_is_number kV_l_is_number dc_l_is_number pm_l_is_number cd_l_is_number ct_l_is_number : Value}
    {od_read an_read : Option Addr} {sl_read : Array (Option Value)} {oc_read kV_read dc_read pm_read cd_read ct_read : Value}
    {od_word an_word : Option Addr} {sl_word : Array (Option Value)} {oc_word kV_word dc_word pm_word cd_word ct_word : Value}
    {od_drawn_event an_drawn_event : Option Addr} {sl_drawn_event : Array (Option Value)} {oc_drawn_event kV_drawn_event dc_drawn_event pm_drawn_event cd_drawn_event ct_drawn_event : Value}
    {od_text an_text : Option Addr} {sl_text : Array (Option Value)} {oc_text kV_text dc_text pm_text cd_text ct_text : Value}
    {od_reading an_reading : Option Addr} {sl_reading : Array (Option Value)} {oc_reading kV_reading dc_reading pm_reading cd_reading ct_reading : Value}
    {od_answer an_answer : Option Addr} {sl_answer : Array (Option Value)} {oc_answer kV_answer dc_answer pm_answer cd_answer ct_answer : Value}
    {od_changed an_changed : Option Addr} {sl_changed : Array (Option Value)} {oc_changed kV_changed dc_changed pm_changed cd_changed ct_changed : Value}
    {od_is_book an_is_book : Option Addr} {sl_is_book : Array (Option Value)} {oc_is_book kV_is_book dc_is_book pm_is_book cd_is_book ct_is_book : Value}
    {od_refusal an_refusal : Option Addr} {sl_refusal : Array (Option Value)} {oc_refusal kV_refusal dc_refusal pm_refusal cd_refusal ct_refusal : Value}
    {od_edits an_edits : Option Addr} {sl_edits : Array (Option Value)} {oc_edits kV_edits dc_edits pm_edits cd_edits ct_edits : Value}
    {od_law an_law : Option Addr} {sl_law : Array (Option Value)} {oc_law kV_law dc_law pm_law cd_law ct_law : Value}
    {nm_GangError q_GangError : Str} {N_GangError : Addr} {bs_GangError bm_GangError : List Value} {sn_GangError : List Str} {sub_GangError : List Value} {ab_GangError : Bool} {col_GangError : Option Bool} {dd_GangError : Option Addr} {m0_GangError m1_GangError m2_GangError m3_GangError m5_GangError : Option Value}
    {nm_BadLine q_BadLine : Str} {N_BadLine : Addr} {bs_BadLine bm_BadLine : List Value} {sn_BadLine : List Str} {sub_BadLine : List Value} {ab_BadLine : Bool} {col_BadLine : Option Bool} {dd_BadLine : Option Addr} {m0_BadLine m1_BadLine m2_BadLine m3_BadLine m5_BadLine : Option Value}
    {nm_BadEvent q_BadEvent : Str} {N_BadEvent : Addr} {bs_BadEvent bm_BadEvent : List Value} {sn_BadEvent : List Str} {sub_BadEvent : List Value} {ab_BadEvent : Bool} {col_BadEvent : Option Bool} {dd_BadEvent : Option Addr} {m0_BadEvent m1_BadEvent m2_BadEvent m3_BadEvent m5_BadEvent : Option Value}
    {nm_NoEvent q_NoEvent : Str} {N_NoEvent : Addr} {bs_NoEvent bm_NoEvent : List Value} {sn_NoEvent : List Str} {sub_NoEvent : List Value} {ab_NoEvent : Bool} {col_NoEvent : Option Bool} {dd_NoEvent : Option Addr} {m0_NoEvent m1_NoEvent m2_NoEvent m3_NoEvent m5_NoEvent : Option Value}
    {kd_FORMS : Addr} {nd_FORMS : Nat} {hh0_FORMS hh1_FORMS hh2_FORMS hh3_FORMS hh4_FORMS hh5_FORMS hh6_FORMS hh7_FORMS hh8_FORMS hh9_FORMS hh10_FORMS hh11_FORMS hh12_FORMS : Int} {tk0_FORMS tv0_FORMS tk1_FORMS tv1_FORMS tk2_FORMS tv2_FORMS tk3_FORMS tv3_FORMS tk4_FORMS tv4_FORMS tk5_FORMS tv5_FORMS tk6_FORMS tv6_FORMS tk7_FORMS tv7_FORMS tk8_FORMS tv8_FORMS tk9_FORMS tv9_FORMS tk10_FORMS tv10_FORMS tk11_FORMS tv11_FORMS tk12_FORMS tv12_FORMS : Tok}
    {tk_DIGITS : Tok}
    {tk_MOST_DIGITS : Tok}
    (nb_ValueError : PySem.W.nsIn K mainGlobals "ValueError" = some none)
    (nb_abs : PySem.W.nsIn K mainGlobals "abs" = some none)
    (nb_all : PySem.W.nsIn K mainGlobals "all" = some none)
    (nb_bool : PySem.W.nsIn K mainGlobals "bool" = some none)
    (nb_enumerate : PySem.W.nsIn K mainGlobals "enumerate" = some none)
    (nb_int : PySem.W.nsIn K mainGlobals "int" = some none)
    (nb_isinstance : PySem.W.nsIn K mainGlobals "isinstance" = some none)
    (nb_iter : PySem.W.nsIn K mainGlobals "iter" = some none)
    (nb_len : PySem.W.nsIn K mainGlobals "len" = some none)
    (nb_list : PySem.W.nsIn K mainGlobals "list" = some none)
    (nb_range : PySem.W.nsIn K mainGlobals "range" = some none)
    (nb_str : PySem.W.nsIn K mainGlobals "str" = some none)
    (nb_tuple : PySem.W.nsIn K mainGlobals "tuple" = some none)
    (nb_zip : PySem.W.nsIn K mainGlobals "zip" = some none)
    (ag_Book : PySem.W.nsIn K mainGlobals "Book" = some (some (.ref c_Book)))
    (ag_GangError : PySem.W.nsIn K mainGlobals "GangError" = some (some (.ref c_GangError)))
    (ag_BadLine : PySem.W.nsIn K mainGlobals "BadLine" = some (some (.ref c_BadLine)))
    (ag_BadEvent : PySem.W.nsIn K mainGlobals "BadEvent" = some (some (.ref c_BadEvent)))
    (ag_NoEvent : PySem.W.nsIn K mainGlobals "NoEvent" = some (some (.ref c_NoEvent)))
    (at_GangError_init : PySem.W.findIn K (.ref c_GangError) "__init__" = some (some (.ref f_GangError_init)))
    (lk_GangError_init : K.lookup f_GangError_init = some ⟨oc_GangError_init, od_GangError_init, .func (PySem.W.fnOf "__init__" "GangError.__init__" (defArgs s_GangError_init) (defBody s_GangError_init) (defScope s_GangError_init) .none kV_GangError_init dc_GangError_init pm_GangError_init an_GangError_init cd_GangError_init ct_GangError_init), sl_GangError_init⟩)
    (co_GangError_init : PySem.W.codeIn K cd_GangError_init "GangError.__init__" = true)
    (ke_GangError_init : PySem.W.keepIn K (.ref f_GangError_init) = true)
    (fn_GangError_init : PySem.W.isFn K (.ref f_GangError_init) = true)
    (at_is_digits : PySem.W.nsIn K mainGlobals "is_digits" = some (some (.ref f_is_digits)))
    (lk_is_digits : K.lookup f_is_digits = some ⟨oc_is_digits, od_is_digits, .func (PySem.W.fnOf "is_digits" "is_digits" (defArgs s_is_digits) (defBody s_is_digits) (defScope s_is_digits) .none kV_is_digits dc_is_digits pm_is_digits an_is_digits cd_is_digits ct_is_digits), sl_is_digits⟩)
    (co_is_digits : PySem.W.codeIn K cd_is_digits "is_digits" = true)
    (ke_is_digits : PySem.W.keepIn K (.ref f_is_digits) = true)
    (at_is_number : PySem.W.nsIn K mainGlobals "is_number" = some (some (.ref f_is_number)))
    (lk_is_number : K.lookup f_is_number = some ⟨oc_is_number, od_is_number, .func (PySem.W.fnOf "is_number" "is_number" (defArgs s_is_number) (defBody s_is_number) (defScope s_is_number) .none kV_is_number dc_is_number pm_is_number an_is_number cd_is_number ct_is_number), sl_is_number⟩)
    (co_is_number : PySem.W.codeIn K cd_is_number "is_number" = true)
    (ke_is_number : PySem.W.keepIn K (.ref f_is_number) = true)
    (at_event_line : PySem.W.nsIn K mainGlobals "event_line" = some (some (.ref f_event_line)))
    (lk_event_line : K.lookup f_event_line = some ⟨oc_event_line, od_event_line, .func (PySem.W.fnOf "event_line" "event_line" (defArgs s_event_line) (defBody s_event_line) (defScope s_event_line) .none kV_event_line dc_event_line pm_event_line an_event_line cd_event_line ct_event_line), sl_event_line⟩)
    (co_event_line : PySem.W.codeIn K cd_event_line "event_line" = true)
    (ke_event_line : PySem.W.keepIn K (.ref f_event_line) = true)
    (at_read_event : PySem.W.nsIn K mainGlobals "read_event" = some (some (.ref f_read_event)))
    (lk_read_event : K.lookup f_read_event = some ⟨oc_read_event, od_read_event, .func (PySem.W.fnOf "read_event" "read_event" (defArgs s_read_event) (defBody s_read_event) (defScope s_read_event) .none kV_read_event dc_read_event pm_read_event an_read_event cd_read_event ct_read_event), sl_read_event⟩)
    (co_read_event : PySem.W.codeIn K cd_read_event "read_event" = true)
    (ke_read_event : PySem.W.keepIn K (.ref f_read_event) = true)
    (at_Book_init : PySem.W.findIn K (.ref c_Book) "__init__" = some (some (.ref f_Book_init)))
    (lk_Book_init : K.lookup f_Book_init = some ⟨oc_Book_init, od_Book_init, .func (PySem.W.fnOf "__init__" "Book.__init__" (defArgs s_Book_init) (defBody s_Book_init) (defScope s_Book_init) .none kV_Book_init dc_Book_init pm_Book_init an_Book_init cd_Book_init ct_Book_init), sl_Book_init⟩)
    (co_Book_init : PySem.W.codeIn K cd_Book_init "Book.__init__" = true)
    (ke_Book_init : PySem.W.keepIn K (.ref f_Book_init) = true)
    (fn_Book_init : PySem.W.isFn K (.ref f_Book_init) = true)
    (p1_Book_read : PySem.W.findCls K (.ref c_Book) (.type "type") "read" = some (.get (.builtin "classmethod.__get__") (.ref p_Book_read) .none (.ref c_Book)))
    (p4_Book_read : PySem.W.recIn K p_Book_read "classmethod" = some (.ref f_Book_read :: rest_Book_read))
    (lk_Book_read : K.lookup f_Book_read = some ⟨oc_Book_read, od_Book_read, .func (PySem.W.fnOf "read" "Book.read" (defArgs s_Book_read) (defBody s_Book_read) (defScope s_Book_read) .none kV_Book_read dc_Book_read pm_Book_read an_Book_read cd_Book_read ct_Book_read), sl_Book_read⟩)
    (co_Book_read : PySem.W.codeIn K cd_Book_read "Book.read" = true)
    (ke_Book_read : PySem.W.keepIn K (.ref f_Book_read) = true)
    (p6_Book_read : PySem.W.readsIn K c_Book (.type "type") = true)
    (p7_Book_read : PySem.W.specialIn K (.ref c_Book) "__getattribute__" = some (some (.builtin "type.__getattribute__")))
    (at_Book_text : PySem.W.findIn K (.ref c_Book) "text" = some (some (.ref f_Book_text)))
    (lk_Book_text : K.lookup f_Book_text = some ⟨oc_Book_text, od_Book_text, .func (PySem.W.fnOf "text" "Book.text" (defArgs s_Book_text) (defBody s_Book_text) (defScope s_Book_text) .none kV_Book_text dc_Book_text pm_Book_text an_Book_text cd_Book_text ct_Book_text), sl_Book_text⟩)
    (co_Book_text : PySem.W.codeIn K cd_Book_text "Book.text" = true)
    (ke_Book_text : PySem.W.keepIn K (.ref f_Book_text) = true)
    (fn_Book_text : PySem.W.isFn K (.ref f_Book_text) = true)
    (at_Book_first : PySem.W.findIn K (.ref c_Book) "first" = some (some (.ref f_Book_first)))
    (lk_Book_first : K.lookup f_Book_first = some ⟨oc_Book_first, od_Book_first, .func (PySem.W.fnOf "first" "Book.first" (defArgs s_Book_first) (defBody s_Book_first) (defScope s_Book_first) .none kV_Book_first dc_Book_first pm_Book_first an_Book_first cd_Book_first ct_Book_first), sl_Book_first⟩)
    (co_Book_first : PySem.W.codeIn K cd_Book_first "Book.first" = true)
    (ke_Book_first : PySem.W.keepIn K (.ref f_Book_first) = true)
    (fn_Book_first : PySem.W.isFn K (.ref f_Book_first) = true)
    (at_Book_without : PySem.W.findIn K (.ref c_Book) "without" = some (some (.ref f_Book_without)))
    (lk_Book_without : K.lookup f_Book_without = some ⟨oc_Book_without, od_Book_without, .func (PySem.W.fnOf "without" "Book.without" (defArgs s_Book_without) (defBody s_Book_without) (defScope s_Book_without) .none kV_Book_without dc_Book_without pm_Book_without an_Book_without cd_Book_without ct_Book_without), sl_Book_without⟩)
    (co_Book_without : PySem.W.codeIn K cd_Book_without "Book.without" = true)
    (ke_Book_without : PySem.W.keepIn K (.ref f_Book_without) = true)
    (fn_Book_without : PySem.W.isFn K (.ref f_Book_without) = true)
    (at_Book_put : PySem.W.findIn K (.ref c_Book) "put" = some (some (.ref f_Book_put)))
    (lk_Book_put : K.lookup f_Book_put = some ⟨oc_Book_put, od_Book_put, .func (PySem.W.fnOf "put" "Book.put" (defArgs s_Book_put) (defBody s_Book_put) (defScope s_Book_put) .none kV_Book_put dc_Book_put pm_Book_put an_Book_put cd_Book_put ct_Book_put), sl_Book_put⟩)
    (co_Book_put : PySem.W.codeIn K cd_Book_put "Book.put" = true)
    (ke_Book_put : PySem.W.keepIn K (.ref f_Book_put) = true)
    (fn_Book_put : PySem.W.isFn K (.ref f_Book_put) = true)
    (at_Book_add : PySem.W.findIn K (.ref c_Book) "__add__" = some (some (.ref f_Book_add)))
    (lk_Book_add : K.lookup f_Book_add = some ⟨oc_Book_add, od_Book_add, .func (PySem.W.fnOf "__add__" "Book.__add__" (defArgs s_Book_add) (defBody s_Book_add) (defScope s_Book_add) .none kV_Book_add dc_Book_add pm_Book_add an_Book_add cd_Book_add ct_Book_add), sl_Book_add⟩)
    (co_Book_add : PySem.W.codeIn K cd_Book_add "Book.__add__" = true)
    (ke_Book_add : PySem.W.keepIn K (.ref f_Book_add) = true)
    (fn_Book_add : PySem.W.isFn K (.ref f_Book_add) = true)
    (at_Book_eq : PySem.W.findIn K (.ref c_Book) "__eq__" = some (some (.ref f_Book_eq)))
    (lk_Book_eq : K.lookup f_Book_eq = some ⟨oc_Book_eq, od_Book_eq, .func (PySem.W.fnOf "__eq__" "Book.__eq__" (defArgs s_Book_eq) (defBody s_Book_eq) (defScope s_Book_eq) .none kV_Book_eq dc_Book_eq pm_Book_eq an_Book_eq cd_Book_eq ct_Book_eq), sl_Book_eq⟩)
    (co_Book_eq : PySem.W.codeIn K cd_Book_eq "Book.__eq__" = true)
    (ke_Book_eq : PySem.W.keepIn K (.ref f_Book_eq) = true)
    (fn_Book_eq : PySem.W.isFn K (.ref f_Book_eq) = true)
    (at_Book_getitem : PySem.W.findIn K (.ref c_Book) "__getitem__" = some (some (.ref f_Book_getitem)))
    (lk_Book_getitem : K.lookup f_Book_getitem = some ⟨oc_Book_getitem, od_Book_getitem, .func (PySem.W.fnOf "__getitem__" "Book.__getitem__" (defArgs s_Book_getitem) (defBody s_Book_getitem) (defScope s_Book_getitem) .none kV_Book_getitem dc_Book_getitem pm_Book_getitem an_Book_getitem cd_Book_getitem ct_Book_getitem), sl_Book_getitem⟩)
    (co_Book_getitem : PySem.W.codeIn K cd_Book_getitem "Book.__getitem__" = true)
    (ke_Book_getitem : PySem.W.keepIn K (.ref f_Book_getitem) = true)
    (fn_Book_getitem : PySem.W.isFn K (.ref f_Book_getitem) = true)
    (at_Book_len : PySem.W.findIn K (.ref c_Book) "__len__" = some (some (.ref f_Book_len)))
    (lk_Book_len : K.lookup f_Book_len = some ⟨oc_Book_len, od_Book_len, .func (PySem.W.fnOf "__len__" "Book.__len__" (defArgs s_Book_len) (defBody s_Book_len) (defScope s_Book_len) .none kV_Book_len dc_Book_len pm_Book_len an_Book_len cd_Book_len ct_Book_len), sl_Book_len⟩)
    (co_Book_len : PySem.W.codeIn K cd_Book_len "Book.__len__" = true)
    (ke_Book_len : PySem.W.keepIn K (.ref f_Book_len) = true)
    (fn_Book_len : PySem.W.isFn K (.ref f_Book_len) = true)
    (at_Book_iter : PySem.W.findIn K (.ref c_Book) "__iter__" = some (some (.ref f_Book_iter)))
    (lk_Book_iter : K.lookup f_Book_iter = some ⟨oc_Book_iter, od_Book_iter, .func (PySem.W.fnOf "__iter__" "Book.__iter__" (defArgs s_Book_iter) (defBody s_Book_iter) (defScope s_Book_iter) .none kV_Book_iter dc_Book_iter pm_Book_iter an_Book_iter cd_Book_iter ct_Book_iter), sl_Book_iter⟩)
    (co_Book_iter : PySem.W.codeIn K cd_Book_iter "Book.__iter__" = true)
    (ke_Book_iter : PySem.W.keepIn K (.ref f_Book_iter) = true)
    (fn_Book_iter : PySem.W.isFn K (.ref f_Book_iter) = true)
    (at_mixed : PySem.W.nsIn K mainGlobals "_law_mixed" = some (some (.ref f_mixed)))
    (lk_mixed : K.lookup f_mixed = some ⟨oc_mixed, od_mixed, .func (PySem.W.fnOf "_law_mixed" "_law_mixed" (defArgs s_mixed) (defBody s_mixed) (defScope s_mixed) .none kV_mixed dc_mixed pm_mixed an_mixed cd_mixed ct_mixed), sl_mixed⟩)
    (co_mixed : PySem.W.codeIn K cd_mixed "_law_mixed" = true)
    (ke_mixed : PySem.W.keepIn K (.ref f_mixed) = true)
    (at_drawing : PySem.W.nsIn K mainGlobals "_law_drawing" = some (some (.ref f_drawing)))
    (lk_drawing : K.lookup f_drawing = some ⟨oc_drawing, od_drawing, .func (PySem.W.fnOf "_law_drawing" "_law_drawing" (defArgs s_drawing) (defBody s_drawing) (defScope s_drawing) .none kV_drawing dc_drawing pm_drawing an_drawing cd_drawing ct_drawing), sl_drawing⟩)
    (co_drawing : PySem.W.codeIn K cd_drawing "_law_drawing" = true)
    (ke_drawing : PySem.W.keepIn K (.ref f_drawing) = true)
    (at_take : PySem.W.nsIn K mainGlobals "_law_take" = some (some (.ref f_take)))
    (lk_take : K.lookup f_take = some ⟨oc_take, od_take, .func (PySem.W.fnOf "_law_take" "_law_take" (defArgs s_take) (defBody s_take) (defScope s_take) .none kV_take dc_take pm_take an_take cd_take ct_take), sl_take⟩)
    (co_take : PySem.W.codeIn K cd_take "_law_take" = true)
    (ke_take : PySem.W.keepIn K (.ref f_take) = true)
    (at_same : PySem.W.nsIn K mainGlobals "_law_same" = some (some (.ref f_same)))
    (lk_same : K.lookup f_same = some ⟨oc_same, od_same, .func (PySem.W.fnOf "_law_same" "_law_same" (defArgs s_same) (defBody s_same) (defScope s_same) .none kV_same dc_same pm_same an_same cd_same ct_same), sl_same⟩)
    (co_same : PySem.W.codeIn K cd_same "_law_same" = true)
    (ke_same : PySem.W.keepIn K (.ref f_same) = true)
    (at_forms : PySem.W.nsIn K mainGlobals "_law_forms" = some (some (.ref f_forms)))
    (lk_forms : K.lookup f_forms = some ⟨oc_forms, od_forms, .func (PySem.W.fnOf "_law_forms" "_law_forms" (defArgs s_forms) (defBody s_forms) (defScope s_forms) .none kV_forms dc_forms pm_forms an_forms cd_forms ct_forms), sl_forms⟩)
    (co_forms : PySem.W.codeIn K cd_forms "_law_forms" = true)
    (ke_forms : PySem.W.keepIn K (.ref f_forms) = true)
    (at_written : PySem.W.nsIn K mainGlobals "_law_written" = some (some (.ref f_written)))
    (lk_written : K.lookup f_written = some ⟨oc_written, od_written, .func (PySem.W.fnOf "_law_written" "_law_written" (defArgs s_written) (defBody s_written) (defScope s_written) .none kV_written dc_written pm_written an_written cd_written ct_written), sl_written⟩)
    (co_written : PySem.W.codeIn K cd_written "_law_written" = true)
    (ke_written : PySem.W.keepIn K (.ref f_written) = true)
    (at_l_is_number : PySem.W.nsIn K mainGlobals "_law_is_number" = some (some (.ref f_l_is_number)))
    (lk_l_is_number : K.lookup f_l_is_number = some ⟨oc_l_is_number, od_l_is_number, .func (PySem.W.fnOf "_law_is_number" "_law_is_number" (defArgs s_l_is_number) (defBody s_l_is_number) (defScope s_l_is_number) .none kV_l_is_number dc_l_is_number pm_l_is_number an_l_is_number cd_l_is_number ct_l_is_number), sl_l_is_number⟩)
    (co_l_is_number : PySem.W.codeIn K cd_l_is_number "_law_is_number" = true)
    (ke_l_is_number : PySem.W.keepIn K (.ref f_l_is_number) = true)
    (at_read : PySem.W.nsIn K mainGlobals "_law_read" = some (some (.ref f_read)))
    (lk_read : K.lookup f_read = some ⟨oc_read, od_read, .func (PySem.W.fnOf "_law_read" "_law_read" (defArgs s_read) (defBody s_read) (defScope s_read) .none kV_read dc_read pm_read an_read cd_read ct_read), sl_read⟩)
    (co_read : PySem.W.codeIn K cd_read "_law_read" = true)
    (ke_read : PySem.W.keepIn K (.ref f_read) = true)
    (at_word : PySem.W.nsIn K mainGlobals "_law_word" = some (some (.ref f_word)))
    (lk_word : K.lookup f_word = some ⟨oc_word, od_word, .func (PySem.W.fnOf "_law_word" "_law_word" (defArgs s_word) (defBody s_word) (defScope s_word) .none kV_word dc_word pm_word an_word cd_word ct_word), sl_word⟩)
    (co_word : PySem.W.codeIn K cd_word "_law_word" = true)
    (ke_word : PySem.W.keepIn K (.ref f_word) = true)
    (at_drawn_event : PySem.W.nsIn K mainGlobals "_law_drawn_event" = some (some (.ref f_drawn_event)))
    (lk_drawn_event : K.lookup f_drawn_event = some ⟨oc_drawn_event, od_drawn_event, .func (PySem.W.fnOf "_law_drawn_event" "_law_drawn_event" (defArgs s_drawn_event) (defBody s_drawn_event) (defScope s_drawn_event) .none kV_drawn_event dc_drawn_event pm_drawn_event an_drawn_event cd_drawn_event ct_drawn_event), sl_drawn_event⟩)
    (co_drawn_event : PySem.W.codeIn K cd_drawn_event "_law_drawn_event" = true)
    (ke_drawn_event : PySem.W.keepIn K (.ref f_drawn_event) = true)
    (at_text : PySem.W.nsIn K mainGlobals "_law_text" = some (some (.ref f_text)))
    (lk_text : K.lookup f_text = some ⟨oc_text, od_text, .func (PySem.W.fnOf "_law_text" "_law_text" (defArgs s_text) (defBody s_text) (defScope s_text) .none kV_text dc_text pm_text an_text cd_text ct_text), sl_text⟩)
    (co_text : PySem.W.codeIn K cd_text "_law_text" = true)
    (ke_text : PySem.W.keepIn K (.ref f_text) = true)
    (at_reading : PySem.W.nsIn K mainGlobals "_law_reading" = some (some (.ref f_reading)))
    (lk_reading : K.lookup f_reading = some ⟨oc_reading, od_reading, .func (PySem.W.fnOf "_law_reading" "_law_reading" (defArgs s_reading) (defBody s_reading) (defScope s_reading) .none kV_reading dc_reading pm_reading an_reading cd_reading ct_reading), sl_reading⟩)
    (co_reading : PySem.W.codeIn K cd_reading "_law_reading" = true)
    (ke_reading : PySem.W.keepIn K (.ref f_reading) = true)
    (at_answer : PySem.W.nsIn K mainGlobals "_law_answer" = some (some (.ref f_answer)))
    (lk_answer : K.lookup f_answer = some ⟨oc_answer, od_answer, .func (PySem.W.fnOf "_law_answer" "_law_answer" (defArgs s_answer) (defBody s_answer) (defScope s_answer) .none kV_answer dc_answer pm_answer an_answer cd_answer ct_answer), sl_answer⟩)
    (co_answer : PySem.W.codeIn K cd_answer "_law_answer" = true)
    (ke_answer : PySem.W.keepIn K (.ref f_answer) = true)
    (at_changed : PySem.W.nsIn K mainGlobals "_law_changed" = some (some (.ref f_changed)))
    (lk_changed : K.lookup f_changed = some ⟨oc_changed, od_changed, .func (PySem.W.fnOf "_law_changed" "_law_changed" (defArgs s_changed) (defBody s_changed) (defScope s_changed) .none kV_changed dc_changed pm_changed an_changed cd_changed ct_changed), sl_changed⟩)
    (co_changed : PySem.W.codeIn K cd_changed "_law_changed" = true)
    (ke_changed : PySem.W.keepIn K (.ref f_changed) = true)
    (at_is_book : PySem.W.nsIn K mainGlobals "_law_is_book" = some (some (.ref f_is_book)))
    (lk_is_book : K.lookup f_is_book = some ⟨oc_is_book, od_is_book, .func (PySem.W.fnOf "_law_is_book" "_law_is_book" (defArgs s_is_book) (defBody s_is_book) (defScope s_is_book) .none kV_is_book dc_is_book pm_is_book an_is_book cd_is_book ct_is_book), sl_is_book⟩)
    (co_is_book : PySem.W.codeIn K cd_is_book "_law_is_book" = true)
    (ke_is_book : PySem.W.keepIn K (.ref f_is_book) = true)
    (at_refusal : PySem.W.nsIn K mainGlobals "_law_refusal" = some (some (.ref f_refusal)))
    (lk_refusal : K.lookup f_refusal = some ⟨oc_refusal, od_refusal, .func (PySem.W.fnOf "_law_refusal" "_law_refusal" (defArgs s_refusal) (defBody s_refusal) (defScope s_refusal) .none kV_refusal dc_refusal pm_refusal an_refusal cd_refusal ct_refusal), sl_refusal⟩)
    (co_refusal : PySem.W.codeIn K cd_refusal "_law_refusal" = true)
    (ke_refusal : PySem.W.keepIn K (.ref f_refusal) = true)
    (at_edits : PySem.W.nsIn K mainGlobals "_law_edits" = some (some (.ref f_edits)))
    (lk_edits : K.lookup f_edits = some ⟨oc_edits, od_edits, .func (PySem.W.fnOf "_law_edits" "_law_edits" (defArgs s_edits) (defBody s_edits) (defScope s_edits) .none kV_edits dc_edits pm_edits an_edits cd_edits ct_edits), sl_edits⟩)
    (co_edits : PySem.W.codeIn K cd_edits "_law_edits" = true)
    (ke_edits : PySem.W.keepIn K (.ref f_edits) = true)
    (at_law : PySem.W.nsIn K mainGlobals "law" = some (some (.ref f_law)))
    (lk_law : K.lookup f_law = some ⟨oc_law, od_law, .func (PySem.W.fnOf "law" "law" (defArgs s_law) (defBody s_law) (defScope s_law) .none kV_law dc_law pm_law an_law cd_law ct_law), sl_law⟩)
    (co_law : PySem.W.codeIn K cd_law "law" = true)
    (ke_law : PySem.W.keepIn K (.ref f_law) = true)
    (pg_Book : PySem.W.plainGet K c_Book Str.empty = true)
    (hd_Book : PySem.W.hasDictIn K c_Book = true)
    (po_Book : PySem.W.plainOver K c_Book = true)
    (sa_Book : PySem.W.findIn K (.ref c_Book) "__setattr__" = some (some (.builtin "object.__setattr__")))
    (mk_Book : PySem.W.makesIn K c_Book = true)
    (kp_Book : PySem.W.keepIn K (.ref c_Book) = true)
    (sf_Book : PySem.W.selfFirst K c_Book = true)
    (k1_Book : PySem.W.findIn K (.ref c_Book) "__class__" = some (some (.builtin "object.__class__")))
    (k4_Book : PySem.W.mroIn K c_Book (.type "object") = some true)
    (no_Book_events : PySem.W.findIn K (.ref c_Book) "events" = some none)
    (kg : PySem.W.specialIn K (.builtin "object.__class__") "__get__" = some (some (.builtin "getset_descriptor.__get__")))
    (kt : PySem.W.takesIn K (.builtin "object.__class__") = some true)
    (xl_GangError : K.lookup c_GangError = some (excClassObj nm_GangError q_GangError c_GangError N_GangError bs_GangError bm_GangError true sn_GangError sub_GangError ab_GangError col_GangError dd_GangError m0_GangError m1_GangError m2_GangError m3_GangError m5_GangError "ValueError.__new__"))
    (xr_GangError : PySem.HandSPX.refsVE bm_GangError = true)
    (xsa_GangError : PySem.W.findIn K (.ref c_GangError) "__setattr__" = some (some (.builtin "object.__setattr__")))
    (xex_GangError : PySem.W.subIn K (.ref c_GangError) (.type "BaseException") = some true)
    (xty_GangError : PySem.W.typeIn K (.ref c_GangError) = some (.type "type"))
    (xkp_GangError : PySem.W.keepIn K (.ref c_GangError) = true)
    (xin_GangError : PySem.W.findIn K (.ref c_GangError) "__init__" = some (some (.ref f_GangError_init)))
    (xno_GangError : PySem.W.findIn K (.ref c_GangError) "subject" = some none)
    (xga_GangError : PySem.W.findIn K (.ref c_GangError) "__getattribute__" = some (some (.builtin "BaseException.__getattribute__")))
    (xgg_GangError : PySem.W.findIn K (.ref c_GangError) "__getattr__" = some none)
    (xhd_GangError : PySem.W.hasDictIn K c_GangError = true)
    (xk1_GangError : PySem.W.findIn K (.ref c_GangError) "__class__" = some (some (.builtin "object.__class__")))
    (xk4_GangError : PySem.W.mroIn K c_GangError (.type "object") = some true)
    (xem_GangError : PySem.W.subIn K (.ref c_GangError) (.ref c_GangError) = some true)
    (xl_BadLine : K.lookup c_BadLine = some (excClassObj nm_BadLine q_BadLine c_BadLine N_BadLine bs_BadLine bm_BadLine true sn_BadLine sub_BadLine ab_BadLine col_BadLine dd_BadLine m0_BadLine m1_BadLine m2_BadLine m3_BadLine m5_BadLine "ValueError.__new__"))
    (xr_BadLine : PySem.HandSPX.refsVE bm_BadLine = true)
    (xsa_BadLine : PySem.W.findIn K (.ref c_BadLine) "__setattr__" = some (some (.builtin "object.__setattr__")))
    (xex_BadLine : PySem.W.subIn K (.ref c_BadLine) (.type "BaseException") = some true)
    (xty_BadLine : PySem.W.typeIn K (.ref c_BadLine) = some (.type "type"))
    (xkp_BadLine : PySem.W.keepIn K (.ref c_BadLine) = true)
    (xin_BadLine : PySem.W.findIn K (.ref c_BadLine) "__init__" = some (some (.ref f_GangError_init)))
    (xno_BadLine : PySem.W.findIn K (.ref c_BadLine) "subject" = some none)
    (xga_BadLine : PySem.W.findIn K (.ref c_BadLine) "__getattribute__" = some (some (.builtin "BaseException.__getattribute__")))
    (xgg_BadLine : PySem.W.findIn K (.ref c_BadLine) "__getattr__" = some none)
    (xhd_BadLine : PySem.W.hasDictIn K c_BadLine = true)
    (xk1_BadLine : PySem.W.findIn K (.ref c_BadLine) "__class__" = some (some (.builtin "object.__class__")))
    (xk4_BadLine : PySem.W.mroIn K c_BadLine (.type "object") = some true)
    (xem_BadLine : PySem.W.subIn K (.ref c_BadLine) (.ref c_GangError) = some true)
    (xl_BadEvent : K.lookup c_BadEvent = some (excClassObj nm_BadEvent q_BadEvent c_BadEvent N_BadEvent bs_BadEvent bm_BadEvent true sn_BadEvent sub_BadEvent ab_BadEvent col_BadEvent dd_BadEvent m0_BadEvent m1_BadEvent m2_BadEvent m3_BadEvent m5_BadEvent "ValueError.__new__"))
    (xr_BadEvent : PySem.HandSPX.refsVE bm_BadEvent = true)
    (xsa_BadEvent : PySem.W.findIn K (.ref c_BadEvent) "__setattr__" = some (some (.builtin "object.__setattr__")))
    (xex_BadEvent : PySem.W.subIn K (.ref c_BadEvent) (.type "BaseException") = some true)
    (xty_BadEvent : PySem.W.typeIn K (.ref c_BadEvent) = some (.type "type"))
    (xkp_BadEvent : PySem.W.keepIn K (.ref c_BadEvent) = true)
    (xin_BadEvent : PySem.W.findIn K (.ref c_BadEvent) "__init__" = some (some (.ref f_GangError_init)))
    (xno_BadEvent : PySem.W.findIn K (.ref c_BadEvent) "subject" = some none)
    (xga_BadEvent : PySem.W.findIn K (.ref c_BadEvent) "__getattribute__" = some (some (.builtin "BaseException.__getattribute__")))
    (xgg_BadEvent : PySem.W.findIn K (.ref c_BadEvent) "__getattr__" = some none)
    (xhd_BadEvent : PySem.W.hasDictIn K c_BadEvent = true)
    (xk1_BadEvent : PySem.W.findIn K (.ref c_BadEvent) "__class__" = some (some (.builtin "object.__class__")))
    (xk4_BadEvent : PySem.W.mroIn K c_BadEvent (.type "object") = some true)
    (xem_BadEvent : PySem.W.subIn K (.ref c_BadEvent) (.ref c_GangError) = some true)
    (xl_NoEvent : K.lookup c_NoEvent = some (excClassObj nm_NoEvent q_NoEvent c_NoEvent N_NoEvent bs_NoEvent bm_NoEvent true sn_NoEvent sub_NoEvent ab_NoEvent col_NoEvent dd_NoEvent m0_NoEvent m1_NoEvent m2_NoEvent m3_NoEvent m5_NoEvent "ValueError.__new__"))
    (xr_NoEvent : PySem.HandSPX.refsVE bm_NoEvent = true)
    (xsa_NoEvent : PySem.W.findIn K (.ref c_NoEvent) "__setattr__" = some (some (.builtin "object.__setattr__")))
    (xex_NoEvent : PySem.W.subIn K (.ref c_NoEvent) (.type "BaseException") = some true)
    (xty_NoEvent : PySem.W.typeIn K (.ref c_NoEvent) = some (.type "type"))
    (xkp_NoEvent : PySem.W.keepIn K (.ref c_NoEvent) = true)
    (xin_NoEvent : PySem.W.findIn K (.ref c_NoEvent) "__init__" = some (some (.ref f_GangError_init)))
    (xno_NoEvent : PySem.W.findIn K (.ref c_NoEvent) "subject" = some none)
    (xga_NoEvent : PySem.W.findIn K (.ref c_NoEvent) "__getattribute__" = some (some (.builtin "BaseException.__getattribute__")))
    (xgg_NoEvent : PySem.W.findIn K (.ref c_NoEvent) "__getattr__" = some none)
    (xhd_NoEvent : PySem.W.hasDictIn K c_NoEvent = true)
    (xk1_NoEvent : PySem.W.findIn K (.ref c_NoEvent) "__class__" = some (some (.builtin "object.__class__")))
    (xk4_NoEvent : PySem.W.mroIn K c_NoEvent (.type "object") = some true)
    (xem_NoEvent : PySem.W.subIn K (.ref c_NoEvent) (.ref c_GangError) = some true)
    (tI_GangError : PySem.W.typeIn K (.ref f_GangError_init) = some (.type "function"))
    (da_FORMS : PySem.W.nsIn K mainGlobals "FORMS" = some (some (.ref kd_FORMS)))
    (dl_FORMS : K.lookup kd_FORMS = some ⟨.type "dict", none, .dict #[⟨hh0_FORMS, Value.str (Str.ofString "come") tk0_FORMS, Value.str (Str.ofString "WW") tv0_FORMS⟩, ⟨hh1_FORMS, Value.str (Str.ofString "drop") tk1_FORMS, Value.str (Str.ofString "W") tv1_FORMS⟩, ⟨hh2_FORMS, Value.str (Str.ofString "early") tk2_FORMS, Value.str (Str.ofString "W") tv2_FORMS⟩, ⟨hh3_FORMS, Value.str (Str.ofString "tick") tk3_FORMS, Value.str (Str.ofString "") tv3_FORMS⟩, ⟨hh4_FORMS, Value.str (Str.ofString "policy") tk4_FORMS, Value.str (Str.ofString "WWWW") tv4_FORMS⟩, ⟨hh5_FORMS, Value.str (Str.ofString "fail") tk5_FORMS, Value.str (Str.ofString "W") tv5_FORMS⟩, ⟨hh6_FORMS, Value.str (Str.ofString "repair") tk6_FORMS, Value.str (Str.ofString "W") tv6_FORMS⟩, ⟨hh7_FORMS, Value.str (Str.ofString "reserve") tk7_FORMS, Value.str (Str.ofString "WWN") tv7_FORMS⟩, ⟨hh8_FORMS, Value.str (Str.ofString "close") tk8_FORMS, Value.str (Str.ofString "WNN") tv8_FORMS⟩, ⟨hh9_FORMS, Value.str (Str.ofString "cancel") tk9_FORMS, Value.str (Str.ofString "WN") tv9_FORMS⟩, ⟨hh10_FORMS, Value.str (Str.ofString "shut") tk10_FORMS, Value.str (Str.ofString "W") tv10_FORMS⟩, ⟨hh11_FORMS, Value.str (Str.ofString "reopen") tk11_FORMS, Value.str (Str.ofString "W") tv11_FORMS⟩, ⟨hh12_FORMS, Value.str (Str.ofString "drain") tk12_FORMS, Value.str (Str.ofString "W") tv12_FORMS⟩] nd_FORMS, #[]⟩)
    (dh_FORMS : PySem.W.KeysLit w.params [⟨hh0_FORMS, Value.str (Str.ofString "come") tk0_FORMS, Value.str (Str.ofString "WW") tv0_FORMS⟩, ⟨hh1_FORMS, Value.str (Str.ofString "drop") tk1_FORMS, Value.str (Str.ofString "W") tv1_FORMS⟩, ⟨hh2_FORMS, Value.str (Str.ofString "early") tk2_FORMS, Value.str (Str.ofString "W") tv2_FORMS⟩, ⟨hh3_FORMS, Value.str (Str.ofString "tick") tk3_FORMS, Value.str (Str.ofString "") tv3_FORMS⟩, ⟨hh4_FORMS, Value.str (Str.ofString "policy") tk4_FORMS, Value.str (Str.ofString "WWWW") tv4_FORMS⟩, ⟨hh5_FORMS, Value.str (Str.ofString "fail") tk5_FORMS, Value.str (Str.ofString "W") tv5_FORMS⟩, ⟨hh6_FORMS, Value.str (Str.ofString "repair") tk6_FORMS, Value.str (Str.ofString "W") tv6_FORMS⟩, ⟨hh7_FORMS, Value.str (Str.ofString "reserve") tk7_FORMS, Value.str (Str.ofString "WWN") tv7_FORMS⟩, ⟨hh8_FORMS, Value.str (Str.ofString "close") tk8_FORMS, Value.str (Str.ofString "WNN") tv8_FORMS⟩, ⟨hh9_FORMS, Value.str (Str.ofString "cancel") tk9_FORMS, Value.str (Str.ofString "WN") tv9_FORMS⟩, ⟨hh10_FORMS, Value.str (Str.ofString "shut") tk10_FORMS, Value.str (Str.ofString "W") tv10_FORMS⟩, ⟨hh11_FORMS, Value.str (Str.ofString "reopen") tk11_FORMS, Value.str (Str.ofString "W") tv11_FORMS⟩, ⟨hh12_FORMS, Value.str (Str.ofString "drain") tk12_FORMS, Value.str (Str.ofString "W") tv12_FORMS⟩])
    (ds_FORMS : (kd_FORMS == sysModules) = false)
    (kc_DIGITS : PySem.W.nsIn K mainGlobals "DIGITS" = some (some (.str (Str.ofString "0123456789") tk_DIGITS)))
    (kc_MOST_DIGITS : PySem.W.nsIn K mainGlobals "MOST_DIGITS" = some (some (.int 6 tk_MOST_DIGITS)))
    (ss_BadEvent : PySem.W.subIn K (.ref c_BadEvent) (.ref c_BadEvent) = some true)
    (su_BadEvent_BadEvent : PySem.W.subIn K (.ref c_BadEvent) (.ref c_BadEvent) = some true)
    (ss_BadLine : PySem.W.subIn K (.ref c_BadLine) (.ref c_BadLine) = some true)
    (su_BadLine_BadLine : PySem.W.subIn K (.ref c_BadLine) (.ref c_BadLine) = some true)
    (ss_GangError : PySem.W.subIn K (.ref c_GangError) (.ref c_GangError) = some true)
    (su_BadLine_GangError : PySem.W.subIn K (.ref c_BadLine) (.ref c_GangError) = some true)
    (su_BadLine_ValueError : PySem.W.subIn K (.ref c_BadLine) (.type "ValueError") = some true)
    (su_BadLine_BadEvent : PySem.W.subIn K (.ref c_BadLine) (.ref c_BadEvent) = some false)
    (ss_NoEvent : PySem.W.subIn K (.ref c_NoEvent) (.ref c_NoEvent) = some true)
    (su_BadLine_NoEvent : PySem.W.subIn K (.ref c_BadLine) (.ref c_NoEvent) = some false)
    (su_NoEvent_NoEvent : PySem.W.subIn K (.ref c_NoEvent) (.ref c_NoEvent) = some true)
    (su_NoEvent_GangError : PySem.W.subIn K (.ref c_NoEvent) (.ref c_GangError) = some true)
    (su_NoEvent_BadLine : PySem.W.subIn K (.ref c_NoEvent) (.ref c_BadLine) = some false)
    (su_NoEvent_BadEvent : PySem.W.subIn K (.ref c_NoEvent) (.ref c_BadEvent) = some false)
    : ∃ fd : FuncData, (∀ (s : Shared) (v : Value), BindsTo s fd ⟨[v], []⟩ [("_law_script", v)]) ∧ ∀ base : Heap, K.In base → base.Ns mainGlobals mg → FnOk P w K mg base CX0 12 fa fd ["_law_script"] (spLaw K) := by
  have e := hfa.symm.trans (PySem.W.mg_of X G at_law)
  cases e
  let A : Adr := { c_Book := c_Book, c_GangError := c_GangError, c_BadLine := c_BadLine, c_BadEvent := c_BadEvent, c_NoEvent := c_NoEvent, kd_FORMS := kd_FORMS, f_GangError_init := f_GangError_init, d_GangError_init := PySem.W.fnOf "__init__" "GangError.__init__" (defArgs s_GangError_init) (defBody s_GangError_init) (defScope s_GangError_init) .none kV_GangError_init dc_GangError_init pm_GangError_init an_GangError_init cd_GangError_init ct_GangError_init, f_is_digits := f_is_digits, d_is_digits := PySem.W.fnOf "is_digits" "is_digits" (defArgs s_is_digits) (defBody s_is_digits) (defScope s_is_digits) .none kV_is_digits dc_is_digits pm_is_digits an_is_digits cd_is_digits ct_is_digits, f_is_number := f_is_number, d_is_number := PySem.W.fnOf "is_number" "is_number" (defArgs s_is_number) (defBody s_is_number) (defScope s_is_number) .none kV_is_number dc_is_number pm_is_number an_is_number cd_is_number ct_is_number, f_event_line := f_event_line, d_event_line := PySem.W.fnOf "event_line" "event_line" (defArgs s_event_line) (defBody s_event_line) (defScope s_event_line) .none kV_event_line dc_event_line pm_event_line an_event_line cd_event_line ct_event_line, f_read_event := f_read_event, d_read_event := PySem.W.fnOf "read_event" "read_event" (defArgs s_read_event) (defBody s_read_event) (defScope s_read_event) .none kV_read_event dc_read_event pm_read_event an_read_event cd_read_event ct_read_event, f_Book_init := f_Book_init, d_Book_init := PySem.W.fnOf "__init__" "Book.__init__" (defArgs s_Book_init) (defBody s_Book_init) (defScope s_Book_init) .none kV_Book_init dc_Book_init pm_Book_init an_Book_init cd_Book_init ct_Book_init, f_Book_read := f_Book_read, d_Book_read := PySem.W.fnOf "read" "Book.read" (defArgs s_Book_read) (defBody s_Book_read) (defScope s_Book_read) .none kV_Book_read dc_Book_read pm_Book_read an_Book_read cd_Book_read ct_Book_read, f_Book_text := f_Book_text, d_Book_text := PySem.W.fnOf "text" "Book.text" (defArgs s_Book_text) (defBody s_Book_text) (defScope s_Book_text) .none kV_Book_text dc_Book_text pm_Book_text an_Book_text cd_Book_text ct_Book_text, f_Book_first := f_Book_first, d_Book_first := PySem.W.fnOf "first" "Book.first" (defArgs s_Book_first) (defBody s_Book_first) (defScope s_Book_first) .none kV_Book_first dc_Book_first pm_Book_first an_Book_first cd_Book_first ct_Book_first, f_Book_without := f_Book_without, d_Book_without := PySem.W.fnOf "without" "Book.without" (defArgs s_Book_without) (defBody s_Book_without) (defScope s_Book_without) .none kV_Book_without dc_Book_without pm_Book_without an_Book_without cd_Book_without ct_Book_without, f_Book_put := f_Book_put, d_Book_put := PySem.W.fnOf "put" "Book.put" (defArgs s_Book_put) (defBody s_Book_put) (defScope s_Book_put) .none kV_Book_put dc_Book_put pm_Book_put an_Book_put cd_Book_put ct_Book_put, f_Book_add := f_Book_add, d_Book_add := PySem.W.fnOf "__add__" "Book.__add__" (defArgs s_Book_add) (defBody s_Book_add) (defScope s_Book_add) .none kV_Book_add dc_Book_add pm_Book_add an_Book_add cd_Book_add ct_Book_add, f_Book_eq := f_Book_eq, d_Book_eq := PySem.W.fnOf "__eq__" "Book.__eq__" (defArgs s_Book_eq) (defBody s_Book_eq) (defScope s_Book_eq) .none kV_Book_eq dc_Book_eq pm_Book_eq an_Book_eq cd_Book_eq ct_Book_eq, f_Book_getitem := f_Book_getitem, d_Book_getitem := PySem.W.fnOf "__getitem__" "Book.__getitem__" (defArgs s_Book_getitem) (defBody s_Book_getitem) (defScope s_Book_getitem) .none kV_Book_getitem dc_Book_getitem pm_Book_getitem an_Book_getitem cd_Book_getitem ct_Book_getitem, f_Book_len := f_Book_len, d_Book_len := PySem.W.fnOf "__len__" "Book.__len__" (defArgs s_Book_len) (defBody s_Book_len) (defScope s_Book_len) .none kV_Book_len dc_Book_len pm_Book_len an_Book_len cd_Book_len ct_Book_len, f_Book_iter := f_Book_iter, d_Book_iter := PySem.W.fnOf "__iter__" "Book.__iter__" (defArgs s_Book_iter) (defBody s_Book_iter) (defScope s_Book_iter) .none kV_Book_iter dc_Book_iter pm_Book_iter an_Book_iter cd_Book_iter ct_Book_iter, f_mixed := f_mixed, d_mixed := PySem.W.fnOf "_law_mixed" "_law_mixed" (defArgs s_mixed) (defBody s_mixed) (defScope s_mixed) .none kV_mixed dc_mixed pm_mixed an_mixed cd_mixed ct_mixed, f_drawing := f_drawing, d_drawing := PySem.W.fnOf "_law_drawing" "_law_drawing" (defArgs s_drawing) (defBody s_drawing) (defScope s_drawing) .none kV_drawing dc_drawing pm_drawing an_drawing cd_drawing ct_drawing, f_take := f_take, d_take := PySem.W.fnOf "_law_take" "_law_take" (defArgs s_take) (defBody s_take) (defScope s_take) .none kV_take dc_take pm_take an_take cd_take ct_take, f_same := f_same, d_same := PySem.W.fnOf "_law_same" "_law_same" (defArgs s_same) (defBody s_same) (defScope s_same) .none kV_same dc_same pm_same an_same cd_same ct_same, f_forms := f_forms, d_forms := PySem.W.fnOf "_law_forms" "_law_forms" (defArgs s_forms) (defBody s_forms) (defScope s_forms) .none kV_forms dc_forms pm_forms an_forms cd_forms ct_forms, f_written := f_written, d_written := PySem.W.fnOf "_law_written" "_law_written" (defArgs s_written) (defBody s_written) (defScope s_written) .none kV_written dc_written pm_written an_written cd_written ct_written, f_l_is_number := f_l_is_number, d_l_is_number := PySem.W.fnOf "_law_is_number" "_law_is_number" (defArgs s_l_is_number) (defBody s_l_is_number) (defScope s_l_is_number) .none kV_l_is_number dc_l_is_number pm_l_is_number an_l_is_number cd_l_is_number ct_l_is_number, f_read := f_read, d_read := PySem.W.fnOf "_law_read" "_law_read" (defArgs s_read) (defBody s_read) (defScope s_read) .none kV_read dc_read pm_read an_read cd_read ct_read, f_word := f_word, d_word := PySem.W.fnOf "_law_word" "_law_word" (defArgs s_word) (defBody s_word) (defScope s_word) .none kV_word dc_word pm_word an_word cd_word ct_word, f_drawn_event := f_drawn_event, d_drawn_event := PySem.W.fnOf "_law_drawn_event" "_law_drawn_event" (defArgs s_drawn_event) (defBody s_drawn_event) (defScope s_drawn_event) .none kV_drawn_event dc_drawn_event pm_drawn_event an_drawn_event cd_drawn_event ct_drawn_event, f_text := f_text, d_text := PySem.W.fnOf "_law_text" "_law_text" (defArgs s_text) (defBody s_text) (defScope s_text) .none kV_text dc_text pm_text an_text cd_text ct_text, f_reading := f_reading, d_reading := PySem.W.fnOf "_law_reading" "_law_reading" (defArgs s_reading) (defBody s_reading) (defScope s_reading) .none kV_reading dc_reading pm_reading an_reading cd_reading ct_reading, f_answer := f_answer, d_answer := PySem.W.fnOf "_law_answer" "_law_answer" (defArgs s_answer) (defBody s_answer) (defScope s_answer) .none kV_answer dc_answer pm_answer an_answer cd_answer ct_answer, f_changed := f_changed, d_changed := PySem.W.fnOf "_law_changed" "_law_changed" (defArgs s_changed) (defBody s_changed) (defScope s_changed) .none kV_changed dc_changed pm_changed an_changed cd_changed ct_changed, f_is_book := f_is_book, d_is_book := PySem.W.fnOf "_law_is_book" "_law_is_book" (defArgs s_is_book) (defBody s_is_book) (defScope s_is_book) .none kV_is_book dc_is_book pm_is_book an_is_book cd_is_book ct_is_book, f_refusal := f_refusal, d_refusal := PySem.W.fnOf "_law_refusal" "_law_refusal" (defArgs s_refusal) (defBody s_refusal) (defScope s_refusal) .none kV_refusal dc_refusal pm_refusal an_refusal cd_refusal ct_refusal, f_edits := f_edits, d_edits := PySem.W.fnOf "_law_edits" "_law_edits" (defArgs s_edits) (defBody s_edits) (defScope s_edits) .none kV_edits dc_edits pm_edits an_edits cd_edits ct_edits, f_law := fa, d_law := PySem.W.fnOf "law" "law" (defArgs s_law) (defBody s_law) (defScope s_law) .none kV_law dc_law pm_law an_law cd_law ct_law }
  have T : Txt (w := w) K mg A := {
    n_ValueError := PySem.W.mg_none_of X G nb_ValueError
    n_abs := PySem.W.mg_none_of X G nb_abs
    n_all := PySem.W.mg_none_of X G nb_all
    n_bool := PySem.W.mg_none_of X G nb_bool
    n_enumerate := PySem.W.mg_none_of X G nb_enumerate
    n_int := PySem.W.mg_none_of X G nb_int
    n_isinstance := PySem.W.mg_none_of X G nb_isinstance
    n_iter := PySem.W.mg_none_of X G nb_iter
    n_len := PySem.W.mg_none_of X G nb_len
    n_list := PySem.W.mg_none_of X G nb_list
    n_range := PySem.W.mg_none_of X G nb_range
    n_str := PySem.W.mg_none_of X G nb_str
    n_tuple := PySem.W.mg_none_of X G nb_tuple
    n_zip := PySem.W.mg_none_of X G nb_zip
    g_Book := PySem.W.mg_of X G ag_Book
    g_GangError := PySem.W.mg_of X G ag_GangError
    g_BadLine := PySem.W.mg_of X G ag_BadLine
    g_BadEvent := PySem.W.mg_of X G ag_BadEvent
    g_NoEvent := PySem.W.mg_of X G ag_NoEvent
    F_GangError_init := fun_mk (st := s_GangError_init) lk_GangError_init co_GangError_init ke_GangError_init
    b_GangError_init := (fun_mk (st := s_GangError_init) lk_GangError_init co_GangError_init ke_GangError_init).binds (ps := ["self", "subject"]) fun _ _ _ _ _ _ us hl => match us, hl with | [_, _], _ => rfl
    me_GangError_init := ⟨at_GangError_init, fn_GangError_init, ke_GangError_init⟩
    F_is_digits := fun_mk (st := s_is_digits) lk_is_digits co_is_digits ke_is_digits
    b_is_digits := (fun_mk (st := s_is_digits) lk_is_digits co_is_digits ke_is_digits).binds (ps := ["text"]) fun _ _ _ _ _ _ us hl => match us, hl with | [_], _ => rfl
    g_is_digits := PySem.W.mg_of X G at_is_digits
    F_is_number := fun_mk (st := s_is_number) lk_is_number co_is_number ke_is_number
    b_is_number := (fun_mk (st := s_is_number) lk_is_number co_is_number ke_is_number).binds (ps := ["word", "most"]) fun _ _ _ _ _ _ us hl => match us, hl with | [_, _], _ => rfl
    g_is_number := PySem.W.mg_of X G at_is_number
    F_event_line := fun_mk (st := s_event_line) lk_event_line co_event_line ke_event_line
    b_event_line := (fun_mk (st := s_event_line) lk_event_line co_event_line ke_event_line).binds (ps := ["event"]) fun _ _ _ _ _ _ us hl => match us, hl with | [_], _ => rfl
    g_event_line := PySem.W.mg_of X G at_event_line
    F_read_event := fun_mk (st := s_read_event) lk_read_event co_read_event ke_read_event
    b_read_event := (fun_mk (st := s_read_event) lk_read_event co_read_event ke_read_event).binds (ps := ["line"]) fun _ _ _ _ _ _ us hl => match us, hl with | [_], _ => rfl
    g_read_event := PySem.W.mg_of X G at_read_event
    F_Book_init := fun_mk (st := s_Book_init) lk_Book_init co_Book_init ke_Book_init
    b_Book_init := (fun_mk (st := s_Book_init) lk_Book_init co_Book_init ke_Book_init).binds (ps := ["self", "events"]) fun _ _ _ _ _ _ us hl => match us, hl with | [_, _], _ => rfl
    me_Book_init := ⟨at_Book_init, fn_Book_init, ke_Book_init⟩
    F_Book_read := fun_mk (st := s_Book_read) lk_Book_read co_Book_read ke_Book_read
    b_Book_read := (fun_mk (st := s_Book_read) lk_Book_read co_Book_read ke_Book_read).binds (ps := ["cls", "text"]) fun _ _ _ _ _ _ us hl => match us, hl with | [_, _], _ => rfl
    rd_Book := ⟨p6_Book_read, p7_Book_read⟩
    cm_Book_read := ⟨_, p1_Book_read, ⟨_, p4_Book_read⟩, by unfold PySem.W.fnIn; rw [lk_Book_read]⟩
    F_Book_text := fun_mk (st := s_Book_text) lk_Book_text co_Book_text ke_Book_text
    b_Book_text := (fun_mk (st := s_Book_text) lk_Book_text co_Book_text ke_Book_text).binds (ps := ["self"]) fun _ _ _ _ _ _ us hl => match us, hl with | [_], _ => rfl
    me_Book_text := ⟨at_Book_text, fn_Book_text, ke_Book_text⟩
    F_Book_first := fun_mk (st := s_Book_first) lk_Book_first co_Book_first ke_Book_first
    b_Book_first := (fun_mk (st := s_Book_first) lk_Book_first co_Book_first ke_Book_first).binds (ps := ["self", "n"]) fun _ _ _ _ _ _ us hl => match us, hl with | [_, _], _ => rfl
    me_Book_first := ⟨at_Book_first, fn_Book_first, ke_Book_first⟩
    F_Book_without := fun_mk (st := s_Book_without) lk_Book_without co_Book_without ke_Book_without
    b_Book_without := (fun_mk (st := s_Book_without) lk_Book_without co_Book_without ke_Book_without).binds (ps := ["self", "at"]) fun _ _ _ _ _ _ us hl => match us, hl with | [_, _], _ => rfl
    me_Book_without := ⟨at_Book_without, fn_Book_without, ke_Book_without⟩
    F_Book_put := fun_mk (st := s_Book_put) lk_Book_put co_Book_put ke_Book_put
    b_Book_put := (fun_mk (st := s_Book_put) lk_Book_put co_Book_put ke_Book_put).binds (ps := ["self", "at", "event"]) fun _ _ _ _ _ _ us hl => match us, hl with | [_, _, _], _ => rfl
    me_Book_put := ⟨at_Book_put, fn_Book_put, ke_Book_put⟩
    F_Book_add := fun_mk (st := s_Book_add) lk_Book_add co_Book_add ke_Book_add
    b_Book_add := (fun_mk (st := s_Book_add) lk_Book_add co_Book_add ke_Book_add).binds (ps := ["self", "other"]) fun _ _ _ _ _ _ us hl => match us, hl with | [_, _], _ => rfl
    me_Book_add := ⟨at_Book_add, fn_Book_add, ke_Book_add⟩
    F_Book_eq := fun_mk (st := s_Book_eq) lk_Book_eq co_Book_eq ke_Book_eq
    b_Book_eq := (fun_mk (st := s_Book_eq) lk_Book_eq co_Book_eq ke_Book_eq).binds (ps := ["self", "other"]) fun _ _ _ _ _ _ us hl => match us, hl with | [_, _], _ => rfl
    me_Book_eq := ⟨at_Book_eq, fn_Book_eq, ke_Book_eq⟩
    F_Book_getitem := fun_mk (st := s_Book_getitem) lk_Book_getitem co_Book_getitem ke_Book_getitem
    b_Book_getitem := (fun_mk (st := s_Book_getitem) lk_Book_getitem co_Book_getitem ke_Book_getitem).binds (ps := ["self", "at"]) fun _ _ _ _ _ _ us hl => match us, hl with | [_, _], _ => rfl
    fn_Book_getitem := (by unfold PySem.W.fnIn; rw [lk_Book_getitem])
    me_Book_getitem := ⟨at_Book_getitem, fn_Book_getitem, ke_Book_getitem⟩
    F_Book_len := fun_mk (st := s_Book_len) lk_Book_len co_Book_len ke_Book_len
    b_Book_len := (fun_mk (st := s_Book_len) lk_Book_len co_Book_len ke_Book_len).binds (ps := ["self"]) fun _ _ _ _ _ _ us hl => match us, hl with | [_], _ => rfl
    me_Book_len := ⟨at_Book_len, fn_Book_len, ke_Book_len⟩
    F_Book_iter := fun_mk (st := s_Book_iter) lk_Book_iter co_Book_iter ke_Book_iter
    b_Book_iter := (fun_mk (st := s_Book_iter) lk_Book_iter co_Book_iter ke_Book_iter).binds (ps := ["self"]) fun _ _ _ _ _ _ us hl => match us, hl with | [_], _ => rfl
    me_Book_iter := ⟨at_Book_iter, fn_Book_iter, ke_Book_iter⟩
    F_mixed := fun_mk (st := s_mixed) lk_mixed co_mixed ke_mixed
    b_mixed := (fun_mk (st := s_mixed) lk_mixed co_mixed ke_mixed).binds (ps := ["_law_number", "_law_k"]) fun _ _ _ _ _ _ us hl => match us, hl with | [_, _], _ => rfl
    g_mixed := PySem.W.mg_of X G at_mixed
    F_drawing := fun_mk (st := s_drawing) lk_drawing co_drawing ke_drawing
    b_drawing := (fun_mk (st := s_drawing) lk_drawing co_drawing ke_drawing).binds (ps := ["_law_script"]) fun _ _ _ _ _ _ us hl => match us, hl with | [_], _ => rfl
    g_drawing := PySem.W.mg_of X G at_drawing
    F_take := fun_mk (st := s_take) lk_take co_take ke_take
    b_take := (fun_mk (st := s_take) lk_take co_take ke_take).binds (ps := ["_law_draws", "_law_limit"]) fun _ _ _ _ _ _ us hl => match us, hl with | [_, _], _ => rfl
    g_take := PySem.W.mg_of X G at_take
    F_same := fun_mk (st := s_same) lk_same co_same ke_same
    b_same := (fun_mk (st := s_same) lk_same co_same ke_same).binds (ps := ["_law_told", "_law_due"]) fun _ _ _ _ _ _ us hl => match us, hl with | [_, _], _ => rfl
    g_same := PySem.W.mg_of X G at_same
    F_forms := fun_mk (st := s_forms) lk_forms co_forms ke_forms
    b_forms := (fun_mk (st := s_forms) lk_forms co_forms ke_forms).binds (ps := []) fun _ _ _ _ _ _ us hl => match us, hl with | [], _ => rfl
    g_forms := PySem.W.mg_of X G at_forms
    F_written := fun_mk (st := s_written) lk_written co_written ke_written
    b_written := (fun_mk (st := s_written) lk_written co_written ke_written).binds (ps := ["_law_event"]) fun _ _ _ _ _ _ us hl => match us, hl with | [_], _ => rfl
    g_written := PySem.W.mg_of X G at_written
    F_l_is_number := fun_mk (st := s_l_is_number) lk_l_is_number co_l_is_number ke_l_is_number
    b_l_is_number := (fun_mk (st := s_l_is_number) lk_l_is_number co_l_is_number ke_l_is_number).binds (ps := ["_law_word_here"]) fun _ _ _ _ _ _ us hl => match us, hl with | [_], _ => rfl
    g_l_is_number := PySem.W.mg_of X G at_l_is_number
    F_read := fun_mk (st := s_read) lk_read co_read ke_read
    b_read := (fun_mk (st := s_read) lk_read co_read ke_read).binds (ps := ["_law_line"]) fun _ _ _ _ _ _ us hl => match us, hl with | [_], _ => rfl
    g_read := PySem.W.mg_of X G at_read
    F_word := fun_mk (st := s_word) lk_word co_word ke_word
    b_word := (fun_mk (st := s_word) lk_word co_word ke_word).binds (ps := ["_law_pick"]) fun _ _ _ _ _ _ us hl => match us, hl with | [_], _ => rfl
    g_word := PySem.W.mg_of X G at_word
    F_drawn_event := fun_mk (st := s_drawn_event) lk_drawn_event co_drawn_event ke_drawn_event
    b_drawn_event := (fun_mk (st := s_drawn_event) lk_drawn_event co_drawn_event ke_drawn_event).binds (ps := ["_law_draws"]) fun _ _ _ _ _ _ us hl => match us, hl with | [_], _ => rfl
    g_drawn_event := PySem.W.mg_of X G at_drawn_event
    F_text := fun_mk (st := s_text) lk_text co_text ke_text
    b_text := (fun_mk (st := s_text) lk_text co_text ke_text).binds (ps := ["_law_events"]) fun _ _ _ _ _ _ us hl => match us, hl with | [_], _ => rfl
    g_text := PySem.W.mg_of X G at_text
    F_reading := fun_mk (st := s_reading) lk_reading co_reading ke_reading
    b_reading := (fun_mk (st := s_reading) lk_reading co_reading ke_reading).binds (ps := ["_law_text_here"]) fun _ _ _ _ _ _ us hl => match us, hl with | [_], _ => rfl
    g_reading := PySem.W.mg_of X G at_reading
    F_answer := fun_mk (st := s_answer) lk_answer co_answer ke_answer
    b_answer := (fun_mk (st := s_answer) lk_answer co_answer ke_answer).binds (ps := ["_law_text_here"]) fun _ _ _ _ _ _ us hl => match us, hl with | [_], _ => rfl
    g_answer := PySem.W.mg_of X G at_answer
    F_changed := fun_mk (st := s_changed) lk_changed co_changed ke_changed
    b_changed := (fun_mk (st := s_changed) lk_changed co_changed ke_changed).binds (ps := ["_law_draws", "_law_text_here"]) fun _ _ _ _ _ _ us hl => match us, hl with | [_, _], _ => rfl
    g_changed := PySem.W.mg_of X G at_changed
    F_is_book := fun_mk (st := s_is_book) lk_is_book co_is_book ke_is_book
    b_is_book := (fun_mk (st := s_is_book) lk_is_book co_is_book ke_is_book).binds (ps := ["_law_told", "_law_events"]) fun _ _ _ _ _ _ us hl => match us, hl with | [_, _], _ => rfl
    g_is_book := PySem.W.mg_of X G at_is_book
    F_refusal := fun_mk (st := s_refusal) lk_refusal co_refusal ke_refusal
    b_refusal := (fun_mk (st := s_refusal) lk_refusal co_refusal ke_refusal).binds (ps := ["_law_book", "_law_way", "_law_at"]) fun _ _ _ _ _ _ us hl => match us, hl with | [_, _, _], _ => rfl
    g_refusal := PySem.W.mg_of X G at_refusal
    F_edits := fun_mk (st := s_edits) lk_edits co_edits ke_edits
    b_edits := (fun_mk (st := s_edits) lk_edits co_edits ke_edits).binds (ps := ["_law_draws", "_law_book", "_law_events"]) fun _ _ _ _ _ _ us hl => match us, hl with | [_, _, _], _ => rfl
    g_edits := PySem.W.mg_of X G at_edits
    F_law := fun_mk (st := s_law) lk_law co_law ke_law
    b_law := (fun_mk (st := s_law) lk_law co_law ke_law).binds (ps := ["_law_script"]) fun _ _ _ _ _ _ us hl => match us, hl with | [_], _ => rfl
    g_law := PySem.W.mg_of X G at_law
    cl_Book := ⟨pg_Book, hd_Book, po_Book, sa_Book⟩
    mk_Book := ⟨mk_Book, at_Book_init, fn_Book_init, kp_Book⟩
    sf_Book := sf_Book
    k1_Book := k1_Book
    k4_Book := k4_Book
    no_Book_events := no_Book_events
    kg := kg
    kt := kt
    x_GangError := ⟨⟨⟨_, _, _, _, _, _, _, _, _, _, _, _, _, _, _, xl_GangError, xr_GangError⟩, xsa_GangError, xex_GangError, xty_GangError, xkp_GangError⟩, xin_GangError, tI_GangError, xno_GangError⟩
    xf_GangError := ⟨xga_GangError, xgg_GangError, xex_GangError, xhd_GangError⟩
    xc_GangError := ⟨xga_GangError, xgg_GangError, xex_GangError, xhd_GangError, xk1_GangError, kg, kt, xk4_GangError⟩
    xm_GangError := PySem.W.exm_ref xex_GangError xhd_GangError xty_GangError xem_GangError
    x_BadLine := ⟨⟨⟨_, _, _, _, _, _, _, _, _, _, _, _, _, _, _, xl_BadLine, xr_BadLine⟩, xsa_BadLine, xex_BadLine, xty_BadLine, xkp_BadLine⟩, xin_BadLine, tI_GangError, xno_BadLine⟩
    xf_BadLine := ⟨xga_BadLine, xgg_BadLine, xex_BadLine, xhd_BadLine⟩
    xc_BadLine := ⟨xga_BadLine, xgg_BadLine, xex_BadLine, xhd_BadLine, xk1_BadLine, kg, kt, xk4_BadLine⟩
    xm_BadLine := PySem.W.exm_ref xex_GangError xhd_GangError xty_GangError xem_BadLine
    x_BadEvent := ⟨⟨⟨_, _, _, _, _, _, _, _, _, _, _, _, _, _, _, xl_BadEvent, xr_BadEvent⟩, xsa_BadEvent, xex_BadEvent, xty_BadEvent, xkp_BadEvent⟩, xin_BadEvent, tI_GangError, xno_BadEvent⟩
    xf_BadEvent := ⟨xga_BadEvent, xgg_BadEvent, xex_BadEvent, xhd_BadEvent⟩
    xc_BadEvent := ⟨xga_BadEvent, xgg_BadEvent, xex_BadEvent, xhd_BadEvent, xk1_BadEvent, kg, kt, xk4_BadEvent⟩
    xm_BadEvent := PySem.W.exm_ref xex_GangError xhd_GangError xty_GangError xem_BadEvent
    x_NoEvent := ⟨⟨⟨_, _, _, _, _, _, _, _, _, _, _, _, _, _, _, xl_NoEvent, xr_NoEvent⟩, xsa_NoEvent, xex_NoEvent, xty_NoEvent, xkp_NoEvent⟩, xin_NoEvent, tI_GangError, xno_NoEvent⟩
    xf_NoEvent := ⟨xga_NoEvent, xgg_NoEvent, xex_NoEvent, xhd_NoEvent⟩
    xc_NoEvent := ⟨xga_NoEvent, xgg_NoEvent, xex_NoEvent, xhd_NoEvent, xk1_NoEvent, kg, kt, xk4_NoEvent⟩
    xm_NoEvent := PySem.W.exm_ref xex_GangError xhd_GangError xty_GangError xem_NoEvent
    g_FORMS := PySem.W.mg_of X G da_FORMS
    D_FORMS := ⟨_, _, ⟨dl_FORMS, dh_FORMS, ds_FORMS⟩, ⟨⟨⟨_, rfl⟩, _, rfl⟩, ⟨⟨⟨_, rfl⟩, _, rfl⟩, ⟨⟨⟨_, rfl⟩, _, rfl⟩, ⟨⟨⟨_, rfl⟩, _, rfl⟩, ⟨⟨⟨_, rfl⟩, _, rfl⟩, ⟨⟨⟨_, rfl⟩, _, rfl⟩, ⟨⟨⟨_, rfl⟩, _, rfl⟩, ⟨⟨⟨_, rfl⟩, _, rfl⟩, ⟨⟨⟨_, rfl⟩, _, rfl⟩, ⟨⟨⟨_, rfl⟩, _, rfl⟩, ⟨⟨⟨_, rfl⟩, _, rfl⟩, ⟨⟨⟨_, rfl⟩, _, rfl⟩, ⟨⟨⟨_, rfl⟩, _, rfl⟩, trivial⟩⟩⟩⟩⟩⟩⟩⟩⟩⟩⟩⟩⟩⟩
    k_DIGITS := ⟨_, PySem.W.mg_of X G kc_DIGITS⟩
    k_MOST_DIGITS := ⟨_, PySem.W.mg_of X G kc_MOST_DIGITS⟩
    kt_BadEvent_BadEvent := kit_sub xhd_BadEvent xty_BadEvent ss_BadEvent su_BadEvent_BadEvent
    kt_BadLine_BadLine := kit_sub xhd_BadLine xty_BadLine ss_BadLine su_BadLine_BadLine
    kt_BadLine_GangError := kit_sub xhd_GangError xty_GangError ss_GangError su_BadLine_GangError
    kt_BadLine_ValueError := kit_base (by decide +kernel) su_BadLine_ValueError
    kt_BadLine_BadEvent := kit_sub xhd_BadEvent xty_BadEvent ss_BadEvent su_BadLine_BadEvent
    kt_BadLine_NoEvent := kit_sub xhd_NoEvent xty_NoEvent ss_NoEvent su_BadLine_NoEvent
    kt_NoEvent_NoEvent := kit_sub xhd_NoEvent xty_NoEvent ss_NoEvent su_NoEvent_NoEvent
    kt_NoEvent_GangError := kit_sub xhd_GangError xty_GangError ss_GangError su_NoEvent_GangError
    kt_NoEvent_BadLine := kit_sub xhd_BadLine xty_BadLine ss_BadLine su_NoEvent_BadLine
    kt_NoEvent_BadEvent := kit_sub xhd_BadEvent xty_BadEvent ss_BadEvent su_NoEvent_BadEvent
    xs_BadEvent := PySem.W.exm_ref xex_BadEvent xhd_BadEvent xty_BadEvent su_BadEvent_BadEvent
    xs_BadLine := PySem.W.exm_ref xex_BadLine xhd_BadLine xty_BadLine su_BadLine_BadLine
    xs_NoEvent := PySem.W.exm_ref xex_NoEvent xhd_NoEvent xty_NoEvent su_NoEvent_NoEvent
  }
  exact ⟨A.d_law, fun s v => .of_eq rfl, fun base _ _ => ok_law (base := base) T⟩
theorem walk {l : PySem.W.OpenLaw} {q : Program} {loose : List Str} {XP : (Str → Option Value) → Heap → Prop} {YP : World → Heap → Prop} {d : DefRec} {K : Params → PySem.W.Frag} (hn : l.most = some 63) (hdf : d.params.defaults = [])
    (hY : ∀ (w : World) (h : Heap), YP w h → (K w.params).In h)
    (F : ∀ (w : World) (mg : Str → Option Value) (fa : Addr) (h : Heap), (K w.params).In h → h.Ns mainGlobals mg → mg d.name = some (.ref fa) →
      ∃ fd : FuncData, (∀ (s : Shared) (u : Value), BindsTo s fd ⟨[u], []⟩ [("_law_script", u)]) ∧ ∀ base : Heap, (K w.params).In base → base.Ns mainGlobals mg → FnOk l.prog w (K w.params) mg base CX0 lawLvl fa fd ["_law_script"] (spLaw (K w.params))) :
    PySem.W.WalkO q loose XP YP l.row.toRowW d [] (fun f vs => PySem.call f vs) :=
  L2.walk_ofB (n := 63) (k := lawLvl) (x := "_law_script") (CX := fun _ => CX0) (sp := fun w => spLaw (K w.params)) hn (by decide) hdf ⟨rfl, by decide, by decide⟩ hY F (fun _ _ a ns hl hb _ hS => ⟨a, ns, rfl, hS, hl, hb, fun _ => rfl⟩) fun _ _ _ _ _ z => z
end LW
open PySem PySem.W PyProof.Rows
set_option maxRecDepth 100000 in
set_option maxHeartbeats 0 in
theorem PySem.Challenge.cw_gangbooks_k65_book_text_and_edits_holds : PySem.Challenge.rw_gangbooks_k65_book_text_and_edits.Holds := by
  w_on; o_law; k_head; (case hw => w_witness2)
  k_fill
  refine LW.walk (l := PySem.Challenge.rw_gangbooks_k65_book_text_and_edits) rfl rfl (fun w h Y => PySem.W.kIn_of Y) ?F
  case F =>
    intro w mg fa h KX G hmg
    refine' LW.all_mk KX G hmg ?nb_ValueError ?nb_abs ?nb_all ?nb_bool ?nb_enumerate ?nb_int ?nb_isinstance ?nb_iter ?nb_len ?nb_list ?nb_range ?nb_str ?nb_tuple ?nb_zip ?ag_Book ?ag_GangError ?ag_BadLine ?ag_BadEvent ?ag_NoEvent ?at_GangError_init ?lk_GangError_init ?co_GangError_init ?ke_GangError_init ?fn_GangError_init ?at_is_digits ?lk_is_digits ?co_is_digits ?ke_is_digits ?at_is_number ?lk_is_number ?co_is_number ?ke_is_number ?at_event_line ?lk_event_line ?co_event_line ?ke_event_line ?at_read_event ?lk_read_event ?co_read_event ?ke_read_event ?at_Book_init ?lk_Book_init ?co_Book_init ?ke_Book_init ?fn_Book_init ?p1_Book_read ?p4_Book_read ?lk_Book_read ?co_Book_read ?ke_Book_read ?p6_Book_read ?p7_Book_read ?at_Book_text ?lk_Book_text ?co_Book_text ?ke_Book_text ?fn_Book_text ?at_Book_first ?lk_Book_first ?co_Book_first ?ke_Book_first ?fn_Book_first ?at_Book_without ?lk_Book_without ?co_Book_without ?ke_Book_without ?fn_Book_without ?at_Book_put ?lk_Book_put ?co_Book_put ?ke_Book_put ?fn_Book_put ?at_Book_add ?lk_Book_add ?co_Book_add ?ke_Book_add ?fn_Book_add ?at_Book_eq ?lk_Book_eq ?co_Book_eq ?ke_Book_eq ?fn_Book_eq ?at_Book_getitem ?lk_Book_getitem ?co_Book_getitem ?ke_Book_getitem ?fn_Book_getitem ?at_Book_len ?lk_Book_len ?co_Book_len ?ke_Book_len ?fn_Book_len ?at_Book_iter ?lk_Book_iter ?co_Book_iter ?ke_Book_iter ?fn_Book_iter ?at_mixed ?lk_mixed ?co_mixed ?ke_mixed ?at_drawing ?lk_drawing ?co_drawing ?ke_drawing ?at_take ?lk_take ?co_take ?ke_take ?at_same ?lk_same ?co_same ?ke_same ?at_forms ?lk_forms ?co_forms ?ke_forms ?at_written ?lk_written ?co_written ?ke_written ?at_l_is_number ?lk_l_is_number ?co_l_is_number ?ke_l_is_number ?at_read ?lk_read ?co_read ?ke_read ?at_word ?lk_word ?co_word ?ke_word ?at_drawn_event ?lk_drawn_event ?co_drawn_event ?ke_drawn_event ?at_text ?lk_text ?co_text ?ke_text ?at_reading ?lk_reading ?co_reading ?ke_reading ?at_answer ?lk_answer ?co_answer ?ke_answer ?at_changed ?lk_changed ?co_changed ?ke_changed ?at_is_book ?lk_is_book ?co_is_book ?ke_is_book ?at_refusal ?lk_refusal ?co_refusal ?ke_refusal ?at_edits ?lk_edits ?co_edits ?ke_edits ?at_law ?lk_law ?co_law ?ke_law ?pg_Book ?hd_Book ?po_Book ?sa_Book ?mk_Book ?kp_Book ?sf_Book ?k1_Book ?k4_Book ?no_Book_events ?kg ?kt ?xl_GangError ?xr_GangError ?xsa_GangError ?xex_GangError ?xty_GangError ?xkp_GangError ?xin_GangError ?xno_GangError ?xga_GangError ?xgg_GangError ?xhd_GangError ?xk1_GangError ?xk4_GangError ?xem_GangError ?xl_BadLine ?xr_BadLine ?xsa_BadLine ?xex_BadLine ?xty_BadLine ?xkp_BadLine ?xin_BadLine ?xno_BadLine ?xga_BadLine ?xgg_BadLine ?xhd_BadLine ?xk1_BadLine ?xk4_BadLine ?xem_BadLine ?xl_BadEvent ?xr_BadEvent ?xsa_BadEvent ?xex_BadEvent ?xty_BadEvent ?xkp_BadEvent ?xin_BadEvent ?xno_BadEvent ?xga_BadEvent ?xgg_BadEvent ?xhd_BadEvent ?xk1_BadEvent ?xk4_BadEvent ?xem_BadEvent ?xl_NoEvent ?xr_NoEvent ?xsa_NoEvent ?xex_NoEvent ?xty_NoEvent ?xkp_NoEvent ?xin_NoEvent ?xno_NoEvent ?xga_NoEvent ?xgg_NoEvent ?xhd_NoEvent ?xk1_NoEvent ?xk4_NoEvent ?xem_NoEvent ?tI_GangError ?da_FORMS ?dl_FORMS ?dh_FORMS ?ds_FORMS ?kc_DIGITS ?kc_MOST_DIGITS ?ss_BadEvent ?su_BadEvent_BadEvent ?ss_BadLine ?su_BadLine_BadLine ?ss_GangError ?su_BadLine_GangError ?su_BadLine_ValueError ?su_BadLine_BadEvent ?ss_NoEvent ?su_BadLine_NoEvent ?su_NoEvent_NoEvent ?su_NoEvent_GangError ?su_NoEvent_BadLine ?su_NoEvent_BadEvent
    (case nb_ValueError => k_is)
    (case nb_abs => k_is)
    (case nb_all => k_is)
    (case nb_bool => k_is)
    (case nb_enumerate => k_is)
    (case nb_int => k_is)
    (case nb_isinstance => k_is)
    (case nb_iter => k_is)
    (case nb_len => k_is)
    (case nb_list => k_is)
    (case nb_range => k_is)
    (case nb_str => k_is)
    (case nb_tuple => k_is)
    (case nb_zip => k_is)
    (case ag_Book => k_is)
    (case ag_GangError => k_is)
    (case ag_BadLine => k_is)
    (case ag_BadEvent => k_is)
    (case ag_NoEvent => k_is)
    (case at_GangError_init => k_is)
    (case lk_GangError_init => k_is)
    (case co_GangError_init => k_is)
    (case ke_GangError_init => k_is)
    (case fn_GangError_init => k_is)
    (case at_is_digits => k_is)
    (case lk_is_digits => k_is)
    (case co_is_digits => k_is)
    (case ke_is_digits => k_is)
    (case at_is_number => k_is)
    (case lk_is_number => k_is)
    (case co_is_number => k_is)
    (case ke_is_number => k_is)
    (case at_event_line => k_is)
    (case lk_event_line => k_is)
    (case co_event_line => k_is)
    (case ke_event_line => k_is)
    (case at_read_event => k_is)
    (case lk_read_event => k_is)
    (case co_read_event => k_is)
    (case ke_read_event => k_is)
    (case at_Book_init => k_is)
    (case lk_Book_init => k_is)
    (case co_Book_init => k_is)
    (case ke_Book_init => k_is)
    (case fn_Book_init => k_is)
    (case p1_Book_read => k_is)
    (case p4_Book_read => k_is)
    (case lk_Book_read => k_is)
    (case co_Book_read => k_is)
    (case ke_Book_read => k_is)
    (case p6_Book_read => k_is)
    (case p7_Book_read => k_is)
    (case at_Book_text => k_is)
    (case lk_Book_text => k_is)
    (case co_Book_text => k_is)
    (case ke_Book_text => k_is)
    (case fn_Book_text => k_is)
    (case at_Book_first => k_is)
    (case lk_Book_first => k_is)
    (case co_Book_first => k_is)
    (case ke_Book_first => k_is)
    (case fn_Book_first => k_is)
    (case at_Book_without => k_is)
    (case lk_Book_without => k_is)
    (case co_Book_without => k_is)
    (case ke_Book_without => k_is)
    (case fn_Book_without => k_is)
    (case at_Book_put => k_is)
    (case lk_Book_put => k_is)
    (case co_Book_put => k_is)
    (case ke_Book_put => k_is)
    (case fn_Book_put => k_is)
    (case at_Book_add => k_is)
    (case lk_Book_add => k_is)
    (case co_Book_add => k_is)
    (case ke_Book_add => k_is)
    (case fn_Book_add => k_is)
    (case at_Book_eq => k_is)
    (case lk_Book_eq => k_is)
    (case co_Book_eq => k_is)
    (case ke_Book_eq => k_is)
    (case fn_Book_eq => k_is)
    (case at_Book_getitem => k_is)
    (case lk_Book_getitem => k_is)
    (case co_Book_getitem => k_is)
    (case ke_Book_getitem => k_is)
    (case fn_Book_getitem => k_is)
    (case at_Book_len => k_is)
    (case lk_Book_len => k_is)
    (case co_Book_len => k_is)
    (case ke_Book_len => k_is)
    (case fn_Book_len => k_is)
    (case at_Book_iter => k_is)
    (case lk_Book_iter => k_is)
    (case co_Book_iter => k_is)
    (case ke_Book_iter => k_is)
    (case fn_Book_iter => k_is)
    (case at_mixed => k_is)
    (case lk_mixed => k_is)
    (case co_mixed => k_is)
    (case ke_mixed => k_is)
    (case at_drawing => k_is)
    (case lk_drawing => k_is)
    (case co_drawing => k_is)
    (case ke_drawing => k_is)
    (case at_take => k_is)
    (case lk_take => k_is)
    (case co_take => k_is)
    (case ke_take => k_is)
    (case at_same => k_is)
    (case lk_same => k_is)
    (case co_same => k_is)
    (case ke_same => k_is)
    (case at_forms => k_is)
    (case lk_forms => k_is)
    (case co_forms => k_is)
    (case ke_forms => k_is)
    (case at_written => k_is)
    (case lk_written => k_is)
    (case co_written => k_is)
    (case ke_written => k_is)
    (case at_l_is_number => k_is)
    (case lk_l_is_number => k_is)
    (case co_l_is_number => k_is)
    (case ke_l_is_number => k_is)
    (case at_read => k_is)
    (case lk_read => k_is)
    (case co_read => k_is)
    (case ke_read => k_is)
    (case at_word => k_is)
    (case lk_word => k_is)
    (case co_word => k_is)
    (case ke_word => k_is)
    (case at_drawn_event => k_is)
    (case lk_drawn_event => k_is)
    (case co_drawn_event => k_is)
    (case ke_drawn_event => k_is)
    (case at_text => k_is)
    (case lk_text => k_is)
    (case co_text => k_is)
    (case ke_text => k_is)
    (case at_reading => k_is)
    (case lk_reading => k_is)
    (case co_reading => k_is)
    (case ke_reading => k_is)
    (case at_answer => k_is)
    (case lk_answer => k_is)
    (case co_answer => k_is)
    (case ke_answer => k_is)
    (case at_changed => k_is)
    (case lk_changed => k_is)
    (case co_changed => k_is)
    (case ke_changed => k_is)
    (case at_is_book => k_is)
    (case lk_is_book => k_is)
    (case co_is_book => k_is)
    (case ke_is_book => k_is)
    (case at_refusal => k_is)
    (case lk_refusal => k_is)
    (case co_refusal => k_is)
    (case ke_refusal => k_is)
    (case at_edits => k_is)
    (case lk_edits => k_is)
    (case co_edits => k_is)
    (case ke_edits => k_is)
    (case at_law => k_is)
    (case lk_law => k_is)
    (case co_law => k_is)
    (case ke_law => k_is)
    (case pg_Book => k_is)
    (case hd_Book => k_is)
    (case po_Book => k_is)
    (case sa_Book => k_is)
    (case mk_Book => k_is)
    (case kp_Book => k_is)
    (case sf_Book => k_is)
    (case k1_Book => k_is)
    (case k4_Book => k_is)
    (case no_Book_events => k_is)
    (case kg => k_is)
    (case kt => k_is)
    (case xl_GangError => k_is)
    (case xr_GangError => first | rfl | decide +kernel)
    (case xsa_GangError => k_is)
    (case xex_GangError => k_is)
    (case xty_GangError => k_is)
    (case xkp_GangError => k_is)
    (case xin_GangError => k_is)
    (case xno_GangError => k_is)
    (case xga_GangError => k_is)
    (case xgg_GangError => k_is)
    (case xhd_GangError => k_is)
    (case xk1_GangError => k_is)
    (case xk4_GangError => k_is)
    (case xem_GangError => first | rfl | k_is)
    (case xl_BadLine => k_is)
    (case xr_BadLine => first | rfl | decide +kernel)
    (case xsa_BadLine => k_is)
    (case xex_BadLine => k_is)
    (case xty_BadLine => k_is)
    (case xkp_BadLine => k_is)
    (case xin_BadLine => k_is)
    (case xno_BadLine => k_is)
    (case xga_BadLine => k_is)
    (case xgg_BadLine => k_is)
    (case xhd_BadLine => k_is)
    (case xk1_BadLine => k_is)
    (case xk4_BadLine => k_is)
    (case xem_BadLine => first | rfl | k_is)
    (case xl_BadEvent => k_is)
    (case xr_BadEvent => first | rfl | decide +kernel)
    (case xsa_BadEvent => k_is)
    (case xex_BadEvent => k_is)
    (case xty_BadEvent => k_is)
    (case xkp_BadEvent => k_is)
    (case xin_BadEvent => k_is)
    (case xno_BadEvent => k_is)
    (case xga_BadEvent => k_is)
    (case xgg_BadEvent => k_is)
    (case xhd_BadEvent => k_is)
    (case xk1_BadEvent => k_is)
    (case xk4_BadEvent => k_is)
    (case xem_BadEvent => first | rfl | k_is)
    (case xl_NoEvent => k_is)
    (case xr_NoEvent => first | rfl | decide +kernel)
    (case xsa_NoEvent => k_is)
    (case xex_NoEvent => k_is)
    (case xty_NoEvent => k_is)
    (case xkp_NoEvent => k_is)
    (case xin_NoEvent => k_is)
    (case xno_NoEvent => k_is)
    (case xga_NoEvent => k_is)
    (case xgg_NoEvent => k_is)
    (case xhd_NoEvent => k_is)
    (case xk1_NoEvent => k_is)
    (case xk4_NoEvent => k_is)
    (case xem_NoEvent => first | rfl | k_is)
    (case tI_GangError => k_is)
    (case da_FORMS => k_is)
    (case dl_FORMS => k_is)
    (case dh_FORMS => exact ⟨⟨_, _, rfl, rfl⟩, ⟨⟨_, _, rfl, rfl⟩, ⟨⟨_, _, rfl, rfl⟩, ⟨⟨_, _, rfl, rfl⟩, ⟨⟨_, _, rfl, rfl⟩, ⟨⟨_, _, rfl, rfl⟩, ⟨⟨_, _, rfl, rfl⟩, ⟨⟨_, _, rfl, rfl⟩, ⟨⟨_, _, rfl, rfl⟩, ⟨⟨_, _, rfl, rfl⟩, ⟨⟨_, _, rfl, rfl⟩, ⟨⟨_, _, rfl, rfl⟩, ⟨⟨_, _, rfl, rfl⟩, trivial⟩⟩⟩⟩⟩⟩⟩⟩⟩⟩⟩⟩⟩)
    (case ds_FORMS => first | rfl | decide +kernel)
    (case kc_DIGITS => k_is)
    (case kc_MOST_DIGITS => k_is)
    (case ss_BadEvent => first | rfl | k_is)
    (case su_BadEvent_BadEvent => first | rfl | k_is)
    (case ss_BadLine => first | rfl | k_is)
    (case su_BadLine_BadLine => first | rfl | k_is)
    (case ss_GangError => first | rfl | k_is)
    (case su_BadLine_GangError => first | rfl | k_is)
    (case su_BadLine_ValueError => first | rfl | k_is)
    (case su_BadLine_BadEvent => first | rfl | k_is)
    (case ss_NoEvent => first | rfl | k_is)
    (case su_BadLine_NoEvent => first | rfl | k_is)
    (case su_NoEvent_NoEvent => first | rfl | k_is)
    (case su_NoEvent_GangError => first | rfl | k_is)
    (case su_NoEvent_BadLine => first | rfl | k_is)
    (case su_NoEvent_BadEvent => first | rfl | k_is)
