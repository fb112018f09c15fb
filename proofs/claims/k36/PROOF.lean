import PyProof.Rows.All
import Wide.All
import OpenK.AllK
import Wide.FinOn
import KE.KExcInit
import KE.KExcIs
import PyProof.ListStr
import PyProof.FitsInt
import HandS.ExcInit
import HandS.ExcField
import HandS.ExcIs
import HandS.IsInst
import HandS.Words
import HandS.WordsList
import HandS.Wide
import HandS.Comp
import HandS.Text
import HandS.Iter
import HandS.Walk
import PySem.Challenge.RW_heirsback_k36_nested_texts
import HandS.DictComp
import HandS.FStr
import HandS.Star
import HandS.ClsMeth
import HandS.OwnEq
import HandS.Defaults
import HandS.AnyAll
import KE.KCallOwn
import OpenK.KMeth
import OpenK.KOps
import HandS.Exc
import HandS.ExcOwn
import HandS.WordsExc
import HandS.More
import HandS.Property
import HandS.List
import HandS.TryOnly
import HandS.TryMany
import KE.KOpsOwn
import PyProof.Rows.FactsN_abs
import HandS.StrMore
import HandS.RaiseMore
import PyProof.EqKinds
import KE.KBytesNew
import HandS.Style
import KE.GoesMore
import PyProof.Draws
import PyProof.EnumMake
import KE.KExcLine
set_option Elab.async false
set_option linter.all false
set_option maxRecDepth 100000
set_option maxHeartbeats 8000000
/-! own exceptions held as values: made by their own __init__, their fields stored and read, isinstance -/
namespace EV
open PySem PySem.Spec PyProof.Rows L2 PySem.Builtin PySem.Builtin.ObjectAttr
abbrev Fg := PySem.W.Frag
/-- what the text says of an own exception class at C -/
structure XCls (K : Fg) (C : Addr) : Prop where
  base : ∃ (B nI iI : String) (bmB : List Value), ExcBaseFacts B nI iI bmB ∧ StoreFacts B bmB "object.__setattr__" "object" ∧
    PySem.W.excInitIn K C bmB nI = true ∧ PySem.W.excOver K C bmB = true
  sa : PySem.W.findIn K (.ref C) "__setattr__" = some (some (.builtin "object.__setattr__"))
  ex : ExcC K C
  kC : PySem.W.keepIn K (.ref C) = true
section
variable {X : Cx} {pins : List (Addr × Obj)} {σ : L2.St} {H : Hp} {s : Shared} {a C dx : Addr} {f : Str} {y : V} {u : Value}
variable {fs : List (Str × V)} {Q : Unit → Shared → Prop} {E : Value → Shared → Prop} {A : Around}

/-- the first field -/
theorem put_first (T : XCls X.K C) (I : Inv X pins σ H s) (e : H a = some (exo a C none)) (no : NoAttr X.K C f) (ry : RelV y u)
    (h : ∀ dx s', H dx = none → dx ≠ a → Inv X pins σ (upd (upd H dx (exd dx [(f, y)])) a (exo a C (some dx))) s' → Q () s') :
    wpAny (model X.prog X.w) A (setAttr (.ref a) f u) Q E s := by
  obtain ⟨B, nI, iI, bmB, FB, SF, q1, q2⟩ := T.base
  obtain ⟨t1, ho⟩ := exo_at I.hok e
  obtain ⟨hp, g, d, t, os⟩ := s
  have J : PySem.W.InstAt hp a { cls := .ref C, dict := none, data := .fields #[.ref t1, .none, .none, .none, .bool false, .none] } C none :=
    ⟨ho, rfl, rfl, trivial⟩
  refine PySem.W.set_plain I.kIn J T.sa ?_
  refine PySem.W.osa_openX (s := ⟨hp, g, d, t + 1, os⟩) (r := none) SF I.kIn J q2 no.taker fun b => ?_
  show wpAny _ _ (storeInOwnDict (.ref a) (.ref C) (.str f t) f u b) _ _ _
  obtain ⟨cd, hc, hh⟩ := PySem.W.any_some T.ex.hd
  have hcls : PySem.W.Looks (model X.prog X.w) hp (classData C) cd := PySem.W.looks_clsIn I.kIn hc
  have hxs : a ≠ hp.objs.size := Nat.ne_of_lt (Heap.lt_size ho)
  obtain ⟨nm, bs, mro, ns, qn, hd, sn, sb, ab, col, del⟩ := cd
  dsimp only at hh
  subst hh
  unfold storeInOwnDict ownDictForStores
  repeat (first
    | with_reducible refine PySem.HandSPX.store_in_new ?_ ?_
    | with_reducible refine wpAny_loadPart_at ho ?_
    | with_reducible refine hcls.at ?_
    | wp_step)
  · exact ⟨_, #[], _, (Heap.get?_update_ne _ _ _ _ hxs.symm).trans (Heap.get?_push_at rfl rfl), rfl, fun z hz => absurd hz (by simp), fun _ => rfl⟩
  · intro h' tk' hn hs
    have en : H hp.objs.size = none := I.hok.fresh (Nat.le_refl _)
    have g1 : (hp.push { cls := .type "dict", data := .dict #[] }).get? hp.objs.size = some { cls := .type "dict", data := .dict #[] } :=
      Heap.get?_push_size hp rfl
    have e3 : (hp.push { cls := .type "dict", data := .dict #[] }).Ns hp.objs.size (fun _ => none) :=
      ⟨_, #[], _, g1, rfl, fun z hz => absurd hz (by simp), fun _ => rfl⟩
    have I1 := I.laid (a := hp.objs.size) (o := exd hp.objs.size []) (t' := tk') (h' := hp.push { cls := .type "dict", data := .dict #[] })
      (fun b o q => Heap.get?_push_of_some _ q) (Nat.le_refl _) (exd_ok (fs := []) (Heap.Ns1.of_empty e3) fun _ => True.intro)
    have g2 := Heap.get?_push_of_some (h := hp) { cls := .type "dict", data := .dict #[] } ho
    have ga := Heap.get?_update_self (fun o : Obj => { cls := o.cls, dict := some hp.objs.size, data := o.data, slots := o.slots }) g2 rfl
    have I2 := I1.write (x := a) (e := a) (o := exo a C (some hp.objs.size)) (t' := tk')
      (h' := (hp.push { cls := .type "dict", data := .dict #[] }).update a fun o => { cls := o.cls, dict := some hp.objs.size, data := o.data, slots := o.slots })
      (by rw [upd_ne hxs, e]; exact True.intro) (.inl rfl) (fun b o hb q => (Heap.get?_update_ne _ _ _ _ hb).trans q) ⟨_, ga⟩ (exo_ok ga)
    have I3 := I2.write (x := hp.objs.size) (e := hp.objs.size) (o := exd hp.objs.size [(f, y)]) (t' := tk') (h' := h')
      (by rw [upd_ne hxs.symm, upd_same]; exact True.intro) (.inl rfl) (fun b o hb q => (hs.2 b hb).trans q)
      (let ⟨o, _, _, z, _⟩ := hn; ⟨o, z⟩) (exd_ok hn (relO_put (fs := []) ry fun _ => True.intro))
    have eu : upd (upd (upd H hp.objs.size (exd hp.objs.size [])) a (exo a C (some hp.objs.size))) hp.objs.size (exd hp.objs.size [(f, y)])
        = upd (upd H hp.objs.size (exd hp.objs.size [(f, y)])) a (exo a C (some hp.objs.size)) := by
      funext b
      unfold upd
      by_cases h1 : b = a
      · subst h1
        rw [if_neg hxs, if_pos rfl, if_pos rfl]
      · by_cases h2 : b = hp.objs.size
        · rw [if_pos h2, if_neg h1, if_pos h2]
        · rw [if_neg h2, if_neg h1, if_neg h2, if_neg h1, if_neg h2]
    rw [eu] at I3
    exact h hp.objs.size _ en hxs.symm I3
/-- a further field -/
theorem put_more (T : XCls X.K C) (I : Inv X pins σ H s) (e : H a = some (exo a C (some dx))) (ed : H dx = some (exd dx fs)) (hl : fs.length ≤ 900)
    (no : NoAttr X.K C f) (ry : RelV y u) (h : ∀ s', Inv X pins σ (upd H dx (exd dx ((f, y) :: fs))) s' → Q () s') :
    wpAny (model X.prog X.w) A (setAttr (.ref a) f u) Q E s := by
  obtain ⟨B, nI, iI, bmB, FB, SF, q1, q2⟩ := T.base
  obtain ⟨t1, ho⟩ := exo_at I.hok e
  obtain ⟨mA, hns, rel⟩ := exd_at I.hok ed
  have hw := within_of rel
  obtain ⟨hp, g, d, t, os⟩ := s
  obtain ⟨oD, esD, epD, hoD, hdD, _⟩ := hns.count hw
  have J : PySem.W.InstAt hp a { cls := .ref C, dict := some dx, data := .fields #[.ref t1, .none, .none, .none, .bool false, .none] } C (some oD) :=
    ⟨ho, rfl, rfl, hoD⟩
  refine PySem.W.set_plain I.kIn J T.sa ?_
  refine PySem.W.osa_openX (s := ⟨hp, g, d, t + 1, os⟩) (r := none) SF I.kIn J q2 no.taker fun b => ?_
  show wpAny _ _ (storeInOwnDict (.ref a) (.ref C) (.str f t) f u b) _ _ _
  obtain ⟨cd, hc, hh⟩ := PySem.W.any_some T.ex.hd
  have hcls : PySem.W.Looks (model X.prog X.w) hp (classData C) cd := PySem.W.looks_clsIn I.kIn hc
  obtain ⟨nm, bs, mro, ns, qn, hd, sn, sb, ab, col, del⟩ := cd
  dsimp only at hh
  subst hh
  unfold storeInOwnDict ownDictForStores
  repeat (first
    | with_reducible refine PySem.OEX.store_in_old hns hw ?_ ?_
    | with_reducible refine wpAny_loadPart_at ho ?_
    | with_reducible refine hcls.at ?_
    | wp_step)
  · rw [List.length_map]; omega
  · intro h' tk' hn hs
    have hd : ∃ o, h'.get? dx = some o := by
      obtain ⟨o, _, _, z, _⟩ := hn
      exact ⟨o, z⟩
    exact h _ (I.write (t' := tk') (x := dx) (e := dx) (o := exd dx ((f, y) :: fs)) (by rw [ed]; exact True.intro) (.inl rfl)
      (fun b o hb q => (hs.2 b hb).trans q) hd (exd_ok hn (relO_put ry rel)))
end
/-! ### the statement self.f = e -/
/-- the error at a is of the class at C, its fields are fs -/
def ErrAt (H : Hp) (a C : Addr) (fs : List (Str × V)) : Prop := ∃ d, H a = some (exo a C (some d)) ∧ H d = some (exd d fs)
section
variable {X : Cx} {o e : Expr} {es : List Expr} {to te : TE} {ta : TA} {f : Str} {p p' pos : Pos} {C : Addr}
def tPut1 (K : Fg) (f : Str) (to te : TE) : TS := fun D σ H => te σ H fun y H1 => to σ H1 fun x H2 => ∃ a C : Addr, x = .ref a ∧ XCls K C ∧ NoAttr K C f ∧
  H2 a = some (exo a C none) ∧ ∀ dx, H2 dx = none → dx ≠ a → D.nx σ (upd (upd H2 dx (exd dx [(f, y)])) a (exo a C (some dx)))
def tPut2 (K : Fg) (f : Str) (to te : TE) : TS := fun D σ H => te σ H fun y H1 => to σ H1 fun x H2 => ∃ (a C dx : Addr) (fs : List (Str × V)), x = .ref a ∧ XCls K C ∧ NoAttr K C f ∧
  H2 a = some (exo a C (some dx)) ∧ H2 dx = some (exd dx fs) ∧ fs.length ≤ 900 ∧ D.nx σ (upd H2 dx (exd dx ((f, y) :: fs)))
theorem ps_put1 (ho : PE X o to) (he : PE X e te) (hs : swapsWith e (some (.Attribute o f p')) pos.line X.env = pure false := by rfl) :
    PS X (.Assign [.Attribute o f p'] e pos) (tPut1 X.K f to te) := by
  refine ⟨fun pins s σ H D I h => ?_⟩
  refine plainObj_wpAny_Assign_Attribute (thn (he.run pins s σ H _ I h) fun v s1 hv => ?_) hs
  obtain ⟨y, H1, I1, r1, q1⟩ := hv
  refine thn (ho.run pins s1 σ H1 _ I1 q1) fun u s2 hu => ?_
  obtain ⟨x, H2, I2, r2, a, C, ex, T, no, ea, q⟩ := hu
  subst ex
  obtain rfl : u = Value.ref a := r2
  exact put_first T I2 ea no r1 fun dx s' n ne J => ⟨σ, _, J, q dx n ne⟩
theorem ps_put2 (ho : PE X o to) (he : PE X e te) (hs : swapsWith e (some (.Attribute o f p')) pos.line X.env = pure false := by rfl) :
    PS X (.Assign [.Attribute o f p'] e pos) (tPut2 X.K f to te) := by
  refine ⟨fun pins s σ H D I h => ?_⟩
  refine plainObj_wpAny_Assign_Attribute (thn (he.run pins s σ H _ I h) fun v s1 hv => ?_) hs
  obtain ⟨y, H1, I1, r1, q1⟩ := hv
  refine thn (ho.run pins s1 σ H1 _ I1 q1) fun u s2 hu => ?_
  obtain ⟨x, H2, I2, r2, a, C, dx, fs, ex, T, no, ea, ed, hl, q⟩ := hu
  subst ex
  obtain rfl : u = Value.ref a := r2
  exact put_more T I2 ea ed hl no r1 fun s' J => ⟨σ, _, J, q⟩
/-! ### C(e, ..), a new error as a value -/
def tNew (C : Addr) (sp : Sp) (dvs : List V) (ta : TA) : TE := fun σ H Q => ta σ H fun vs H1 => vs.length ≤ 1000 ∧ ∀ a, H1 a = none →
  sp (.ref a :: (vs ++ dvs)) (upd H1 a (exo a C none)) (fun v H2 => v = .non ∧ Q (.ref a) H2) (fun _ _ _ => False)
theorem pe_new {CX : CXT} {x : Str} {fI : Addr} {k : Nat} {fd : FuncData} {ps : List Str} {sp : Sp} {ds : List Value} {dvs : List V} (T : XCls X.K C)
    (iC : PySem.W.findIn X.K (.ref C) "__init__" = some (some (.ref fI))) (tI : PySem.W.isFn X.K (.ref fI) = true)
    (F1 : FnOk X.prog X.w X.K X.mg X.base CX k fI fd ps sp) (hr : Room (k + 1) X.A) (hb : Binds X.K fd ps ds) (hd : Vals dvs ds)
    (hx : Passes CX X (fun _ _ _ => False)) (hg : Gl X x) (hm : X.mg x = some (.ref C)) (ha : PA X (e :: es) ta)
    (hdb : (x == ("__debug__" : Str)) = false := by decide) (he : starEach (e :: es) X.env = (false, eval e X.env) :: starEach es X.env := by rfl)
    (hpl : (backTo pos (starEach es X.env)).any (·.1) = false := by rfl) :
    PE X (.Call (.Name x p) (e :: es) [] pos) (tNew C sp dvs ta) := by
  refine ⟨fun pins s σ H Q I h => ?_⟩
  obtain ⟨B, nI, iI, bmB, FB, SF, q1, q2⟩ := T.base
  refine wpAny_Call_Name_kw (ld_glob I hg hm ?_ hdb)
  refine PySem.W.callWith_K (h₀ := X.base) I.ok.mod.kin T.kC (thn (ha.run pos pins s σ H _ I h) fun us s1 hu => ?_) he hpl
  obtain ⟨vs, H1, I1, r1, hz, q⟩ := hu
  refine ⟨I1.kIn, ?_⟩
  show wpAny _ _ (call (.ref C) us) _ _ _
  obtain ⟨nm, N', qn, bs, bm, hdct, sn, sub, ab, col, dd, k0, k1, k2, k3, k5, hC, hT⟩ := PySem.W.excInit_of I1.kIn q1
  obtain ⟨oI, hoI, hcI⟩ : ∃ oI, s1.heap.get? fI = some oI ∧ oI.cls = .type "function" := by
    obtain ⟨o, z1, z2⟩ := Option.map_eq_some_iff.mp (show (X.K.lookup fI).map (·.cls) = some (.type "function") from beq_iff_eq.mp tI)
    exact ⟨o, I1.kIn _ _ z1, z2⟩
  obtain ⟨hp, g, dr, tk, os⟩ := s1
  have hsz : hp.objs.size ≤ hp.objs.size + 1 := Nat.le_succ _
  have hn : H1 (hp.objs.size + 1) = none := I1.hok.fresh hsz
  have hq := q (hp.objs.size + 1) hn
  have kk : ∀ b o, hp.get? b = some o → ((hp.push (PySem.W.kdv_tup us)).push (PySem.HandSPX.excO C hp.objs.size)).get? b = some o :=
    fun b o z => Heap.get?_push_of_some _ (Heap.get?_push_of_some _ z)
  have hget : ((hp.push (PySem.W.kdv_tup us)).push (PySem.HandSPX.excO C hp.objs.size)).get? (hp.objs.size + 1) = some (PySem.HandSPX.excO C hp.objs.size) := by heap_get
  have I2 := I1.laid (t' := tk) (a := hp.objs.size + 1) (o := exo (hp.objs.size + 1) C none)
    (h' := (hp.push (PySem.W.kdv_tup us)).push (PySem.HandSPX.excO C hp.objs.size)) kk hsz (exo_ok hget)
  have r2 : Vals (V.ref (hp.objs.size + 1) :: (vs ++ dvs)) (Value.ref (hp.objs.size + 1) :: (us ++ ds)) := .cons rfl (r1.append hd)
  have hl : (Value.ref (hp.objs.size + 1) :: us ++ ds).length = ps.length := by
    have z := r2.length
    rw [F1.len _ _ _ _ hq] at z
    exact z.symm
  have hus : us.length ≤ sizeLine := by
    rw [← Paired.length r1, sizeLine_eq]
    omega
  refine wpAny_call (PySem.HandSPX.call_own FB hT hC (PySem.W.looks_findIn I1.kIn iC) (fun self => PySem.W.exc_bind hoI hcI self) hus
    (codeAny_mono (F1.run _ X.stack _ _ ⟨Value.ref (hp.objs.size + 1) :: us, []⟩ (Value.ref (hp.objs.size + 1) :: (us ++ ds)) _ _ (fun _ _ _ => False)
      (hr.make C us []) (I2.env0.make C us []) (hb _ (Value.ref (hp.objs.size + 1) :: us) I2.kIn hl) r2 hq) fun r s' hq' => ?_))
  cases r with
  | error er => exact hx pins σ _ _ er s' I2 hq'
  | ok fl =>
    cases fl with
    | ret u =>
      obtain ⟨v, H2, I3, rv, ev, q2⟩ := I2.after hq'
      subst ev
      exact ⟨rv, .ref (hp.objs.size + 1), H2, I3, rfl, q2⟩
    | next => exact False.elim hq'
    | brk => exact False.elim hq'
    | cont => exact False.elim hq'
/-! ### e.f of an error -/
def tGet (K : Fg) (te : TE) (f : Str) : TE := fun σ H Q => te σ H fun x H1 => ∃ (a C : Addr) (fs : List (Str × V)) (v : V), x = .ref a ∧ XCls K C ∧ NoAttr K C f ∧
  ErrAt H1 a C fs ∧ fs.lookup f = some v ∧ Q v H1
theorem pe_get {te : TE} (he : PE X e te) (hb : attributeBase e f X.env (eval e X.env) = eval e X.env := by rfl) :
    PE X (.Attribute e f pos) (tGet X.K te f) := by
  refine ⟨fun pins s σ H Q I h => ?_⟩
  refine attr_of hb (thn (he.run pins s σ H _ I h) fun u s1 hu => ?_)
  obtain ⟨x, H1, I1, rx, a, C, fs, v, ex, T, no, ⟨d, ea, ed⟩, l, q⟩ := hu
  subst ex
  obtain rfl : u = Value.ref a := rx
  obtain ⟨t1, ho⟩ := exo_at I1.hok ea
  obtain ⟨mA, hns, hr⟩ := exd_at I1.hok ed
  obtain ⟨od, hod, hl⟩ := lookIn_ns hns
  obtain ⟨u, hu, ru⟩ := RelO.some_of (v := v) (o := mA f) (by rw [← l]; exact hr f)
  have J : PySem.W.InstAt s1.heap a { cls := .ref C, dict := some d, data := .fields #[.ref t1, .none, .none, .none, .bool false, .none] } C (some od) :=
    ⟨ho, rfl, rfl, hod⟩
  exact PySem.HandSPX.exc_get I1.kIn J T.ex.hg T.ex.hk T.ex.hs (PySem.W.findObj_own T.ex.hd no rfl (by rw [hl, hu])) (handed_of ru)
    ⟨v, H1, I1.tok _, ru, q⟩
/-! ### isinstance of an error -/
def rIsX (K : Fg) : List V → Hp → VK → Prop := fun xs H Q => ∃ (a C : Addr) (c : V) (u : Value) (b : Bool) (fs : List (Str × V)), xs = [.ref a, c] ∧ ClsV c u ∧
  ErrAt H a C fs ∧ XCls K C ∧ PySem.W.kitOne K (.ref C) u = some b ∧ Q (.bl b) H
theorem call_isX : CallR X (.builtin "isinstance") (rIsX X.K) := by
  intro pins s σ H xs us Q I r h
  obtain ⟨a, C, c, u, b, fs, rfl, hc, ⟨d, ea, ed⟩, T, ek, q⟩ := h
  obtain ⟨u1, u2, rfl, r1, r2⟩ := vals2 r
  obtain rfl : u1 = Value.ref a := r1
  have e2 := hc.eq r2
  subst e2
  obtain ⟨t1, ho⟩ := exo_at I.hok ea
  obtain ⟨mA, hns, hr⟩ := exd_at I.hok ed
  obtain ⟨od, hod, hl⟩ := lookIn_ns hns
  have J : PySem.W.InstAt s.heap a { cls := .ref C, dict := some d, data := .fields #[.ref t1, .none, .none, .none, .bool false, .none] } C (some od) :=
    ⟨ho, rfl, rfl, hod⟩
  exact PySem.W.kia_one (PySem.W.kitx_exc (by obtain ⟨cd, hc, _⟩ := PySem.W.any_some T.ex.hd; rw [hc]; rfl) T.ex.hg T.ex.hk T.ex.hs T.ex.ha T.ex.hn T.ex.ht T.ex.hm) I.kIn J ek (fun z => nomatch z)
    fun tk => ⟨.bl b, H, I.kept (t' := tk) fun _ _ z => z, rfl, q⟩
end
/-! ### a def, a class by its name -/
structure Ok (P : Program) (w : World) (K : Fg) (mg : Str → Option Value) (base : Heap) (k : Nat) (x : Str) (ps : List Str) (sp : Sp) : Prop where
  ex : ∃ (f : Addr) (fd : FuncData), FnOk P w K mg base CX0 k f fd ps sp ∧ mg x = some (.ref f) ∧ PySem.W.keepIn K (.ref f) = true ∧ Binds K fd ps []
structure OkC (P : Program) (w : World) (K : Fg) (mg : Str → Option Value) (base : Heap) (k : Nat) (x : Str) (C : Addr) (ps : List Str) (sp : Sp) : Prop where
  cl : XCls K C
  nm : mg x = some (.ref C)
  ex : ∃ (f : Addr) (fd : FuncData), FnOk P w K mg base CX0 k f fd ps sp ∧ PySem.W.findIn K (.ref C) "__init__" = some (some (.ref f)) ∧
    PySem.W.isFn K (.ref f) = true ∧ Binds K fd ps []
section
variable {X : Cx} {e : Expr} {es : List Expr} {t : TA} {x : Str} {p pos : Pos} {k : Nat} {ps : List Str} {sp : Sp} {C : Addr}
theorem pe_callO (O : Ok X.prog X.w X.K X.mg X.base k x ps sp) (hr : Room k X.A) (ha : PA X (e :: es) t) (hg : Gl X x := by rfl)
    (hdb : (x == ("__debug__" : Str)) = false := by decide) (he : starEach (e :: es) X.env = (false, eval e X.env) :: starEach es X.env := by rfl)
    (hpl : (backTo pos (starEach es X.env)).any (·.1) = false := by rfl) : PE X (.Call (.Name x p) (e :: es) [] pos) (tCall sp [] E0 t) := by
  obtain ⟨f, fd, G, m, kp, b⟩ := O.ex
  exact pe_call G hr hg m kp b .nil pass0 ha hdb he hpl
theorem pe_newO (O : OkC X.prog X.w X.K X.mg X.base k x C ps sp) (hr : Room (k + 1) X.A) (ha : PA X (e :: es) t) (hg : Gl X x := by rfl)
    (hdb : (x == ("__debug__" : Str)) = false := by decide) (he : starEach (e :: es) X.env = (false, eval e X.env) :: starEach es X.env := by rfl)
    (hpl : (backTo pos (starEach es X.env)).any (·.1) = false := by rfl) : PE X (.Call (.Name x p) (e :: es) [] pos) (tNew C sp [] t) := by
  obtain ⟨f, fd, G, i, kp, b⟩ := O.ex
  exact pe_new O.cl i kp G hr b .nil pass0 hg O.nm ha hdb he hpl
end
/-! ### what is said of heaps -/
theorem same_upd {H : Hp} {p : Addr} {o : HO} (h : H p = none) : Same H (upd H p o) := fun b u z => by
  rw [upd_ne (ne_of_none z h)]
  exact z
theorem same_upd' {H0 H : Hp} {p : Addr} {o : HO} (s : Same H0 H) (h : H0 p = none) : Same H0 (upd H p o) := fun b u z => by
  rw [upd_ne (ne_of_none z h)]
  exact s b u z
theorem ErrAt.same {H H' : Hp} {a C : Addr} {fs : List (Str × V)} (s : Same H H') (h : ErrAt H a C fs) : ErrAt H' a C fs :=
  let ⟨d, z1, z2⟩ := h
  ⟨d, s _ _ z1, s _ _ z2⟩
/-- all but what stands at b is as it was -/
def Keep (b : Addr) (H H' : Hp) : Prop := ∀ a o, a ≠ b → H a = some o → H' a = some o
theorem Keep.refl {b : Addr} (H : Hp) : Keep b H H := fun _ _ _ z => z
theorem Keep.trans {b : Addr} {H H1 H2 : Hp} (x : Keep b H H1) (y : Keep b H1 H2) : Keep b H H2 := fun a o n z => y a o n (x a o n z)
theorem Keep.of {b : Addr} {H H' : Hp} (s : Same H H') : Keep b H H' := fun a o _ z => s a o z
theorem Keep.upd {b : Addr} {H : Hp} {o : HO} : Keep b H (upd H b o) := fun a u n z => by
  rw [upd_ne n]
  exact z
theorem ErrAt.keep {b : Addr} {H H' : Hp} {a C : Addr} {fs : List (Str × V)} (s : Keep b H H') (h : ErrAt H a C fs) {l : List V} (hb : H b = some (.lst l)) : ErrAt H' a C fs :=
  let ⟨d, z1, z2⟩ := h
  ⟨d, s _ _ (ne_of z1 hb (by intro q; cases q)) z1, s _ _ (ne_of z2 hb (by intro q; cases q)) z2⟩
/-! ### list(text) -/
def signsV (z : Str) : List V := z.cps.toList.map fun c => V.str ⟨#[c]⟩
theorem signs_vals (z : Str) : ∀ (l : List Nat) (its : List Value), its.length = l.length →
    (∀ (j : Nat) (v : Value), its[j]? = some v → ∃ (c : Nat) (u : Tok), l[j]? = some c ∧ v = Value.str ⟨#[c]⟩ u) → Vals (l.map fun c => V.str ⟨#[c]⟩) its
  | [], [], _, _ => .nil
  | [], _ :: _, h, _ => absurd h (by simp)
  | _ :: _, [], h, _ => absurd h (by simp)
  | c :: l, v :: its, h, k => by
    refine .cons ?_ (signs_vals z l its (by simpa using h) fun j u q => ?_)
    · obtain ⟨c', u, e1, e2⟩ := k 0 v rfl
      cases e1
      exact ⟨u, e2⟩
    · exact k (j + 1) u (by simpa using q)
theorem call_list_text {X : Cx} (hc : X.calm = true) : CallR X (.type "list") (fun xs H Q => ∃ z, xs = [.str z] ∧ z.length ≤ sizeLine ∧
    ∀ l, H l = none → Q (.ref l) (upd H l (.lst (signsV z)))) := by
  intro pins s σ H xs us Q I r h
  obtain ⟨z, rfl, hz, q⟩ := h
  obtain ⟨u, rfl, t, rfl⟩ := vals1 r
  have hl : z.cps.size ≤ sizeLine := hz
  refine call_list_str (hn := hl) (I.ok.hd hc) z t fun h' tk acc' c' hk hS hacc => ?_
  have hn : H s.heap.objs.size = none := I.hok.fresh (Nat.le_refl _)
  have hv : Vals (signsV z) acc'.toList := by
    refine signs_vals z _ _ (by rw [Array.length_toList, Array.length_toList, hacc.1]) fun j v q => ?_
    obtain ⟨c, u, e1, e2⟩ := hacc.2 j v (by rw [← Array.getElem?_toList]; exact q)
    exact ⟨c, u, by rw [Array.getElem?_toList]; exact e1, e2⟩
  refine ⟨.ref s.heap.objs.size, _, I.laid (a := s.heap.objs.size) (o := .lst (signsV z)) (t' := tk) hk (Nat.le_refl _) ⟨?_, acc'.toList, c', hv, ?_⟩, rfl, q _ hn⟩
  · show (z.cps.toList.map _).length ≤ sizeLine
    rw [List.length_map, Array.length_toList]
    exact hl
  · simpa using hS
/-! ### where ways meet: what is wanted between -/
section
variable {X : Cx} {e : Expr} {te : TE} {tt : TT} {st : Stmt} {ts : TS}
def tMid (t : TE) : TE := fun σ H Q => ∃ Q0 : VK, t σ H Q0 ∧ ∀ x H1, Q0 x H1 → Q x H1
theorem pe_mid (h : PE X e te) : PE X e (tMid te) := by
  refine ⟨fun pins s σ H Q I hq => ?_⟩
  obtain ⟨Q0, h0, k⟩ := hq
  exact thn (h.run pins s σ H Q0 I h0) fun u s1 hu => by
    obtain ⟨v, H1, I1, r, q⟩ := hu
    exact ⟨v, H1, I1, r, k _ _ q⟩
def bMid (t : TT) : TT := fun σ H Q => ∃ Q0 : Bool → Hp → Prop, t σ H Q0 ∧ ∀ x H1, Q0 x H1 → Q x H1
theorem pt_mid (h : PT X e tt) : PT X e (bMid tt) := by
  refine ⟨fun pins s σ H Q I hq => ?_⟩
  obtain ⟨Q0, h0, k⟩ := hq
  exact thn (h.run pins s σ H Q0 I h0) fun u s1 hu => by
    obtain ⟨H1, I1, q⟩ := hu
    exact ⟨H1, I1, k _ _ q⟩
def sMid (t : TS) : TS := fun D σ H => ∃ M : L2.St → Hp → Prop, t { D with nx := M } σ H ∧ ∀ σ' H', M σ' H' → D.nx σ' H'
theorem ps_mid (h : PS X st ts) : PS X st (sMid ts) := by
  refine ⟨fun pins s σ H D I hq => ?_⟩
  obtain ⟨M, h0, k⟩ := hq
  refine thn (h.run pins s σ H _ I h0) fun f s1 hf => ?_
  cases f with
  | next =>
    obtain ⟨σ', H', I', q⟩ := hf
    exact ⟨σ', H', I', k _ _ q⟩
  | ret v => exact hf
  | brk => exact hf
  | cont => exact hf
end
theorem same_keep {H0 H H' : Hp} {b : Addr} (s : Same H0 H) (n : H0 b = none) (k : Keep b H H') : Same H0 H' := fun a o z =>
  k a o (ne_of_none z n) (s a o z)
/-! ### lists of truth values, compared -/
theorem dp_bools {K : Fg} {H : Hp} {p : Addr} {bs : List Bool} (h : H p = some (.lst (bs.map V.bl))) : Dp K H (.ref p) (.list (bs.map PyData.bool)) := by
  refine .lst (SqL.of h) ?_
  clear h
  induction bs with
  | nil => exact .nil
  | cons b bs ih => exact .cons (.bl b) ih
theorem can_bools (bs : List Bool) : PyData.canLay0 (.list (bs.map PyData.bool)) = true := by
  rw [PyData.canLay0]
  induction bs with
  | nil => rfl
  | cons b bs ih =>
    rw [List.map_cons, PyData.canLayAll0, PyData.canLay0, ih]
    rfl
theorem depth_bools (bs : List Bool) : PyData.depthAll (bs.map PyData.bool) ≤ 1 := by
  induction bs with
  | nil => simp [PyData.depthAll]
  | cons b bs ih => simp only [List.map_cons, PyData.depthAll, PyData.depth]; omega
theorem shaped_bools (bs : List Bool) : SeqAt.shaped (.list (bs.map PyData.bool)) = true := by
  unfold SeqAt.shaped
  rw [can_bools, Bool.true_and]
  refine decide_eq_true ?_
  have q := depth_bools bs
  rw [PyData.depth]
  omega
/-- two lists of the same truth values are not unlike -/
theorem ne_bools {K : Fg} {H : Hp} {p q : Addr} {bs : List Bool} {Q : VK} (h1 : H p = some (.lst (bs.map V.bl))) (h2 : H q = some (.lst (bs.map V.bl))) (k : Q (.bl false) H) :
    rNeD K (.ref p) (.ref q) H Q := by
  refine ⟨_, _, dp_bools h1, dp_bools h2, shaped_bools bs, shaped_bools bs, ?_⟩
  rw [SeqAt.eqv_refl _ (can_bools bs)]
  exact k
end EV

namespace K36
open PySem PySem.Spec PyProof.Rows L2 EV
def top (i : Nat) : Stmt := PySem.Challenge.pw_heirsback_k36_nested_texts.main.body.getD i (.Pass ⟨0, 0, 0, 0⟩)

abbrev s_BadExpression___init__ : Stmt := inClass (top 3) 0
theorem sc_BadExpression___init__ : FnScope ["self", "at"] ["self", "at"] (defScope s_BadExpression___init__) :=
  ⟨rfl, rfl, rfl, by decide +kernel, rfl, by decide +kernel, by decide +kernel⟩
abbrev s_TooMany___init__ : Stmt := inClass (top 4) 0
theorem sc_TooMany___init__ : FnScope ["self", "what"] ["self", "what"] (defScope s_TooMany___init__) :=
  ⟨rfl, rfl, rfl, by decide +kernel, rfl, by decide +kernel, by decide +kernel⟩
abbrev s_arity_of : Stmt := top 9
theorem sc_arity_of : FnScope ["sign"] ["sign"] (defScope s_arity_of) :=
  ⟨rfl, rfl, rfl, by decide +kernel, rfl, by decide +kernel, by decide +kernel⟩
abbrev s_Phrase___init__ : Stmt := inClass (top 12) 0
theorem sc_Phrase___init__ : FnScope ["self", "text"] ["self", "text"] (defScope s_Phrase___init__) :=
  ⟨rfl, rfl, rfl, by decide +kernel, rfl, by decide +kernel, by decide +kernel⟩
abbrev s_Phrase_take_all : Stmt := inClass (top 12) 1
theorem sc_Phrase_take_all : FnScope ["self", "operand_follows"] ["self"] (defScope s_Phrase_take_all) :=
  ⟨rfl, rfl, rfl, by decide +kernel, rfl, by decide +kernel, by decide +kernel⟩
abbrev s_Phrase__take_start : Stmt := inClass (top 12) 2
theorem sc_Phrase__take_start : FnScope ["self", "name", "word"] ["self"] (defScope s_Phrase__take_start) :=
  ⟨rfl, rfl, rfl, by decide +kernel, rfl, by decide +kernel, by decide +kernel⟩
abbrev s_Phrase__take_opening : Stmt := inClass (top 12) 3
theorem sc_Phrase__take_opening : FnScope ["self", "kind"] ["self", "kind"] (defScope s_Phrase__take_opening) :=
  ⟨rfl, rfl, rfl, by decide +kernel, rfl, by decide +kernel, by decide +kernel⟩
abbrev s_Phrase__take_sign : Stmt := inClass (top 12) 4
theorem sc_Phrase__take_sign : FnScope ["self", "sign", "letter"] ["self"] (defScope s_Phrase__take_sign) :=
  ⟨rfl, rfl, rfl, by decide +kernel, rfl, by decide +kernel, by decide +kernel⟩
abbrev s_Phrase__take_class : Stmt := inClass (top 12) 5
theorem sc_Phrase__take_class : FnScope ["self", "start"] ["self"] (defScope s_Phrase__take_class) :=
  ⟨rfl, rfl, rfl, by decide +kernel, rfl, by decide +kernel, by decide +kernel⟩
abbrev s_Phrase__take_word : Stmt := inClass (top 12) 6
theorem sc_Phrase__take_word : FnScope ["self", "start"] ["self"] (defScope s_Phrase__take_word) :=
  ⟨rfl, rfl, rfl, by decide +kernel, rfl, by decide +kernel, by decide +kernel⟩
abbrev s_Phrase__take_request : Stmt := inClass (top 12) 7
theorem sc_Phrase__take_request : FnScope ["self", "word"] ["self"] (defScope s_Phrase__take_request) :=
  ⟨rfl, rfl, rfl, by decide +kernel, rfl, by decide +kernel, by decide +kernel⟩
abbrev s_Phrase__skip_small : Stmt := inClass (top 12) 8
theorem sc_Phrase__skip_small : FnScope ["self", "end"] ["self", "end"] (defScope s_Phrase__skip_small) :=
  ⟨rfl, rfl, rfl, by decide +kernel, rfl, by decide +kernel, by decide +kernel⟩
abbrev s_Phrase__take : Stmt := inClass (top 12) 9
theorem sc_Phrase__take : FnScope ["self", "letter"] ["self", "letter"] (defScope s_Phrase__take) :=
  ⟨rfl, rfl, rfl, by decide +kernel, rfl, by decide +kernel, by decide +kernel⟩
abbrev s_Phrase__letter : Stmt := inClass (top 12) 10
theorem sc_Phrase__letter : FnScope ["self"] ["self"] (defScope s_Phrase__letter) :=
  ⟨rfl, rfl, rfl, by decide +kernel, rfl, by decide +kernel, by decide +kernel⟩
abbrev s_Phrase__is_between : Stmt := inClass (top 12) 11
theorem sc_Phrase__is_between : FnScope ["self", "low", "high"] ["self", "low", "high"] (defScope s_Phrase__is_between) :=
  ⟨rfl, rfl, rfl, by decide +kernel, rfl, by decide +kernel, by decide +kernel⟩
abbrev s_Expression___init__ : Stmt := inClass (top 15) 0
theorem sc_Expression___init__ : FnScope ["self", "parts", "sign", "_"] ["self", "parts"] (defScope s_Expression___init__) :=
  ⟨rfl, rfl, rfl, by decide +kernel, rfl, by decide +kernel, by decide +kernel⟩
abbrev s_Expression_read : Stmt := inClass (top 15) 1
theorem sc_Expression_read : FnScope ["cls", "text"] ["cls", "text"] (defScope s_Expression_read) :=
  ⟨rfl, rfl, rfl, by decide +kernel, rfl, by decide +kernel, by decide +kernel⟩
abbrev s_Expression_leaf : Stmt := inClass (top 15) 2
theorem sc_Expression_leaf : FnScope ["label", "name"] ["label", "name"] (defScope s_Expression_leaf) :=
  ⟨rfl, rfl, rfl, by decide +kernel, rfl, by decide +kernel, by decide +kernel⟩
abbrev s_Expression_parts : Stmt := inClass (top 15) 4
theorem sc_Expression_parts : FnScope ["self"] ["self"] (defScope s_Expression_parts) :=
  ⟨rfl, rfl, rfl, by decide +kernel, rfl, by decide +kernel, by decide +kernel⟩
abbrev s_Expression___len__ : Stmt := inClass (top 15) 7
theorem sc_Expression___len__ : FnScope ["self"] ["self"] (defScope s_Expression___len__) :=
  ⟨rfl, rfl, rfl, by decide +kernel, rfl, by decide +kernel, by decide +kernel⟩
abbrev s_Expression___str__ : Stmt := inClass (top 15) 8
theorem sc_Expression___str__ : FnScope ["self"] ["self"] (defScope s_Expression___str__) :=
  ⟨rfl, rfl, rfl, by decide +kernel, rfl, by decide +kernel, by decide +kernel⟩
abbrev s_Expression___eq__ : Stmt := inClass (top 15) 9
theorem sc_Expression___eq__ : FnScope ["self", "other"] ["self", "other"] (defScope s_Expression___eq__) :=
  ⟨rfl, rfl, rfl, by decide +kernel, rfl, by decide +kernel, by decide +kernel⟩
abbrev s_Expression___add__ : Stmt := inClass (top 15) 10
theorem sc_Expression___add__ : FnScope ["self", "other"] ["self", "other"] (defScope s_Expression___add__) :=
  ⟨rfl, rfl, rfl, by decide +kernel, rfl, by decide +kernel, by decide +kernel⟩
abbrev s_Expression___sub__ : Stmt := inClass (top 15) 11
theorem sc_Expression___sub__ : FnScope ["self", "other"] ["self", "other"] (defScope s_Expression___sub__) :=
  ⟨rfl, rfl, rfl, by decide +kernel, rfl, by decide +kernel, by decide +kernel⟩
abbrev s_Expression___mul__ : Stmt := inClass (top 15) 12
theorem sc_Expression___mul__ : FnScope ["self", "other"] ["self", "other"] (defScope s_Expression___mul__) :=
  ⟨rfl, rfl, rfl, by decide +kernel, rfl, by decide +kernel, by decide +kernel⟩
abbrev s_Expression___floordiv__ : Stmt := inClass (top 15) 13
theorem sc_Expression___floordiv__ : FnScope ["self", "other"] ["self", "other"] (defScope s_Expression___floordiv__) :=
  ⟨rfl, rfl, rfl, by decide +kernel, rfl, by decide +kernel, by decide +kernel⟩
abbrev s_Expression___and__ : Stmt := inClass (top 15) 14
theorem sc_Expression___and__ : FnScope ["self", "other"] ["self", "other"] (defScope s_Expression___and__) :=
  ⟨rfl, rfl, rfl, by decide +kernel, rfl, by decide +kernel, by decide +kernel⟩
abbrev s_Expression___or__ : Stmt := inClass (top 15) 15
theorem sc_Expression___or__ : FnScope ["self", "other"] ["self", "other"] (defScope s_Expression___or__) :=
  ⟨rfl, rfl, rfl, by decide +kernel, rfl, by decide +kernel, by decide +kernel⟩
abbrev s_Expression___xor__ : Stmt := inClass (top 15) 16
theorem sc_Expression___xor__ : FnScope ["self", "other"] ["self", "other"] (defScope s_Expression___xor__) :=
  ⟨rfl, rfl, rfl, by decide +kernel, rfl, by decide +kernel, by decide +kernel⟩
abbrev s_Expression___lshift__ : Stmt := inClass (top 15) 17
theorem sc_Expression___lshift__ : FnScope ["self", "other"] ["self", "other"] (defScope s_Expression___lshift__) :=
  ⟨rfl, rfl, rfl, by decide +kernel, rfl, by decide +kernel, by decide +kernel⟩
abbrev s_Expression___rshift__ : Stmt := inClass (top 15) 18
theorem sc_Expression___rshift__ : FnScope ["self", "other"] ["self", "other"] (defScope s_Expression___rshift__) :=
  ⟨rfl, rfl, rfl, by decide +kernel, rfl, by decide +kernel, by decide +kernel⟩
abbrev s_Expression___rmul__ : Stmt := inClass (top 15) 19
theorem sc_Expression___rmul__ : FnScope ["self", "other"] ["self", "other"] (defScope s_Expression___rmul__) :=
  ⟨rfl, rfl, rfl, by decide +kernel, rfl, by decide +kernel, by decide +kernel⟩
abbrev s_Expression___pow__ : Stmt := inClass (top 15) 20
theorem sc_Expression___pow__ : FnScope ["self", "other"] ["self", "other"] (defScope s_Expression___pow__) :=
  ⟨rfl, rfl, rfl, by decide +kernel, rfl, by decide +kernel, by decide +kernel⟩
abbrev s_Expression___neg__ : Stmt := inClass (top 15) 21
theorem sc_Expression___neg__ : FnScope ["self"] ["self"] (defScope s_Expression___neg__) :=
  ⟨rfl, rfl, rfl, by decide +kernel, rfl, by decide +kernel, by decide +kernel⟩
abbrev s_Expression___pos__ : Stmt := inClass (top 15) 22
theorem sc_Expression___pos__ : FnScope ["self"] ["self"] (defScope s_Expression___pos__) :=
  ⟨rfl, rfl, rfl, by decide +kernel, rfl, by decide +kernel, by decide +kernel⟩
abbrev s_Expression___invert__ : Stmt := inClass (top 15) 23
theorem sc_Expression___invert__ : FnScope ["self"] ["self"] (defScope s_Expression___invert__) :=
  ⟨rfl, rfl, rfl, by decide +kernel, rfl, by decide +kernel, by decide +kernel⟩
abbrev s_Expression___abs__ : Stmt := inClass (top 15) 24
theorem sc_Expression___abs__ : FnScope ["self"] ["self"] (defScope s_Expression___abs__) :=
  ⟨rfl, rfl, rfl, by decide +kernel, rfl, by decide +kernel, by decide +kernel⟩
abbrev s_joined : Stmt := top 16
theorem sc_joined : FnScope ["sign", "operands", "parts", "operand"] ["sign", "operands"] (defScope s_joined) :=
  ⟨rfl, rfl, rfl, by decide +kernel, rfl, by decide +kernel, by decide +kernel⟩
abbrev s_repeated : Stmt := top 17
theorem sc_repeated : FnScope ["sign", "operand", "many", "parts"] ["sign", "operand", "many"] (defScope s_repeated) :=
  ⟨rfl, rfl, rfl, by decide +kernel, rfl, by decide +kernel, by decide +kernel⟩
abbrev s_checked : Stmt := top 18
theorem sc_checked : FnScope ["parts", "sign", "_"] ["parts"] (defScope s_checked) :=
  ⟨rfl, rfl, rfl, by decide +kernel, rfl, by decide +kernel, by decide +kernel⟩
abbrev s_written : Stmt := top 19
theorem sc_written : FnScope ["parts", "texts", "sign", "label", "name", "operand", "right", "left"] ["parts"] (defScope s_written) :=
  ⟨rfl, rfl, rfl, by decide +kernel, rfl, by decide +kernel, by decide +kernel⟩
abbrev s_law_bag : Stmt := top 21
theorem sc_law_bag : FnScope ["script", "at", "cell", "mixed", "k", "each"] ["script", "at"] (defScope s_law_bag) :=
  ⟨rfl, rfl, rfl, by decide +kernel, rfl, by decide +kernel, by decide +kernel⟩
abbrev s_law_take : Stmt := top 22
theorem sc_law_take : FnScope ["bag", "many", "digit"] ["bag", "many"] (defScope s_law_take) :=
  ⟨rfl, rfl, rfl, by decide +kernel, rfl, by decide +kernel, by decide +kernel⟩
abbrev s_law_of : Stmt := top 23
theorem sc_law_of : FnScope ["bag", "some"] ["bag", "some"] (defScope s_law_of) :=
  ⟨rfl, rfl, rfl, by decide +kernel, rfl, by decide +kernel, by decide +kernel⟩
abbrev s_law_read : Stmt := top 24
theorem sc_law_read : FnScope ["text", "made"] ["text"] (defScope s_law_read) :=
  ⟨rfl, rfl, rfl, by decide +kernel, rfl, by decide +kernel, by decide +kernel⟩
abbrev s_law_nested : Stmt := top 25
theorem sc_law_nested : FnScope ["bag", "many", "ahead", "behind", "steps", "turn", "kind", "sign"] ["bag", "many"] (defScope s_law_nested) :=
  ⟨rfl, rfl, rfl, by decide +kernel, rfl, by decide +kernel, by decide +kernel⟩
abbrev s_law_nested_right : Stmt := top 26
theorem sc_law_nested_right : FnScope ["bag", "many", "ahead", "behind", "steps", "text", "count", "place", "k", "letter"] ["bag", "many"] (defScope s_law_nested_right) :=
  ⟨rfl, rfl, rfl, by decide +kernel, rfl, by decide +kernel, by decide +kernel⟩
abbrev s_law_long : Stmt := top 27
theorem sc_law_long : FnScope ["bag", "many", "parts", "steps", "turn", "is_asked", "rows", "k", "row"] ["bag", "many"] (defScope s_law_long) :=
  ⟨rfl, rfl, rfl, by decide +kernel, rfl, by decide +kernel, by decide +kernel⟩
abbrev s_law : Stmt := top 28
theorem sc_law : FnScope ["script", "at", "bag", "many", "text", "steps"] ["script"] (defScope s_law) :=
  ⟨rfl, rfl, rfl, by decide +kernel, rfl, by decide +kernel, by decide +kernel⟩
structure Txt (K : Fg) (mg : Str → Option Value) : Prop where
  n_isinstance : mg "isinstance" = none
  n_list : mg "list" = none
  n_tuple : mg "tuple" = none
  n_int : mg "int" = none
  n_str : mg "str" = none
  n_bool : mg "bool" = none
  n_len : mg "len" = none
  n_abs : mg "abs" = none
  n_max : mg "max" = none
  n_min : mg "min" = none
  n_range : mg "range" = none
  n_enumerate : mg "enumerate" = none
  n_all : mg "all" = none
  n_ValueError : mg "ValueError" = none
  n_LookupError : mg "LookupError" = none
  n_KeyError : mg "KeyError" = none
  n_IndexError : mg "IndexError" = none
end K36

/-! rules for objects of own classes: methods by one word, own __contains__, __len__, __str__, cls(..), own errors raised -/
namespace EV
open PySem PySem.Spec PyProof.Rows L2
/-- a def that may raise -/
structure OkX (P : Program) (w : World) (K : Fg) (mg : Str → Option Value) (base : Heap) (k : Nat) (x : Str) (ps : List Str) (sp : Sp) : Prop where
  ex : ∃ (f : Addr) (fd : FuncData), FnOk P w K mg base (L2.CX P w) k f fd ps sp ∧ mg x = some (.ref f) ∧ PySem.W.keepIn K (.ref f) = true ∧ Binds K fd ps []
/-- a method of the class at C (cx: what leaves it) -/
structure OkM (cx : CXT) (P : Program) (w : World) (K : Fg) (mg : Str → Option Value) (base : Heap) (k : Nat) (C : Addr) (m : Str) (ps : List Str) (sp : Sp) : Prop where
  ex : ∃ (f : Addr) (fd : FuncData), FnOk P w K mg base cx k f fd ps sp ∧ Meth K C m f ∧ Binds K fd ps []
/-- the class at C, made by its own __init__ -/
structure OkI (P : Program) (w : World) (K : Fg) (mg : Str → Option Value) (base : Heap) (k : Nat) (x : Str) (C : Addr) (ps : List Str) (sp : Sp) : Prop where
  nm : mg x = some (.ref C)
  ex : ∃ (f : Addr) (fd : FuncData), FnOk P w K mg base CX0 k f fd ps sp ∧ Mk K C f ∧ Binds K fd ps []
/-- a classmethod of the class at C -/
structure OkCM (P : Program) (w : World) (K : Fg) (mg : Str → Option Value) (base : Heap) (k : Nat) (C : Addr) (m : Str) (ps : List Str) (sp : Sp) : Prop where
  ex : ∃ (p g : Addr) (fd : FuncData) (mc : Value), FnOk P w K mg base (L2.CX P w) k g fd ps sp ∧ ClX.CRead K C mc ∧ ClX.CMet K C mc m p g ∧ Binds K fd ps []
section
variable {X : Cx} {e o : Expr} {es : List Expr} {t : TA} {ta : TE} {x m : Str} {p pos apos : Pos} {k : Nat} {ps : List Str} {sp : Sp} {C : Addr} {W : WX}
/-! ### calls whose error is taken by W -/
theorem pe_callX (tk : Takes X W) (O : OkX X.prog X.w X.K X.mg X.base k x ps sp) (hr : Room k X.A) (ha : PA X (e :: es) t) (hg : Gl X x := by rfl)
    (hdb : (x == ("__debug__" : Str)) = false := by decide) (he : starEach (e :: es) X.env = (false, eval e X.env) :: starEach es X.env := by rfl)
    (hpl : (backTo pos (starEach es X.env)).any (·.1) = false := by rfl) : PE X (.Call (.Name x p) (e :: es) [] pos) (tCallS sp (WE W) t) := by
  obtain ⟨f, fd, G, m, kp, b⟩ := O.ex
  exact pe_callS G hr hg m kp b (fun σ => passAt tk σ) ha hdb he hpl
def tMethS (C : Addr) (m : Str) (sp : Sp) (E : L2.St → XK) (ta : TE) (t : TA) : TE := fun σ H Q => ta σ H fun x H1 => ∃ a dx fs, x = .ref a ∧ H1 a = some (.ins C dx fs) ∧ fs.lookup m = none ∧ t σ H1 fun vs H2 => sp (x :: vs) H2 Q (E σ)
theorem pe_methX {pl : Sem Bool} (tk : Takes X W) (he : PE X o ta) (c : Cls X.K C) (O : OkM (L2.CX X.prog X.w) X.prog X.w X.K X.mg X.base k C m ps sp) (hr : Room k X.A) (ha : PA X (e :: es) t)
    (hst : starEach (e :: es) X.env = (false, eval e X.env) :: starEach es X.env := by rfl) (hpl : (backTo pos (starEach es X.env)).any (·.1) = false := by rfl)
    (ht : eval (.Call (.Attribute o m apos) (e :: es) [] pos) X.env = (do
      let ov ← eval o X.env
      standAt apos.atName
      let (f, first) ← holding [ov] (getMethod ov m pl)
      callWith pos f first (backTo pos (starEach (e :: es) X.env)) (backToKw pos (keywordEach [] X.env))) := by rfl) :
    PE X (.Call (.Attribute o m apos) (e :: es) [] pos) (tMethS C m sp (WE W) ta t) := by
  obtain ⟨f, fd, F, hm, hb⟩ := O.ex
  refine ⟨fun pins s σ H Q I h => ?_⟩
  refine PySem.W.methodCall_KW (pl := pl) (thn (he.run pins s σ H _ I h) fun u s1 ⟨x, H1, I1, rx, a, dx, fs, ex, ea, l, q⟩ => ?_) ht
  subst ex
  obtain rfl : u = Value.ref a := rx
  refine getmeth_ok I1 ea c hm l ?_
  refine PySem.W.callWith_K (first := [.ref a]) (h₀ := X.base) I.ok.mod.kin hm.kp (thn (ha.run pos pins s1 σ H1 _ I1 q) fun us s2 ⟨vs, H2, I2, r, q2⟩ => ⟨I2.kIn, ?_⟩) hst hpl
  exact run_fnS (us := .ref a :: us) (vs := .ref a :: vs) (E := WE W) F hr hb (passAt tk σ) I2 (.cons rfl r) q2
theorem pe_methO {pl : Sem Bool} (he : PE X o ta) (c : Cls X.K C) (O : OkM CX0 X.prog X.w X.K X.mg X.base k C m ps sp) (hr : Room k X.A) (ha : PA X (e :: es) t)
    (hst : starEach (e :: es) X.env = (false, eval e X.env) :: starEach es X.env := by rfl) (hpl : (backTo pos (starEach es X.env)).any (·.1) = false := by rfl)
    (ht : eval (.Call (.Attribute o m apos) (e :: es) [] pos) X.env = (do
      let ov ← eval o X.env
      standAt apos.atName
      let (f, first) ← holding [ov] (getMethod ov m pl)
      callWith pos f first (backTo pos (starEach (e :: es) X.env)) (backToKw pos (keywordEach [] X.env))) := by rfl) :
    PE X (.Call (.Attribute o m apos) (e :: es) [] pos) (tMeth C m sp [] E0 ta t) := by
  obtain ⟨f, fd, F, hm, hb⟩ := O.ex
  exact pe_meth he c hm F hr hb .nil pass0 ha hst hpl ht
theorem pe_methO0 {pl : Sem Bool} (he : PE X o ta) (c : Cls X.K C) (O : OkM CX0 X.prog X.w X.K X.mg X.base k C m ps sp) (hr : Room k X.A)
    (ht : eval (.Call (.Attribute o m apos) [] [] pos) X.env = (do
      let ov ← eval o X.env
      standAt apos.atName
      let (f, first) ← holding [ov] (getMethod ov m pl)
      callWith pos f first (backTo pos (starEach [] X.env)) (backToKw pos (keywordEach [] X.env))) := by rfl) :
    PE X (.Call (.Attribute o m apos) [] [] pos) (tMeth C m sp [] E0 ta tNil) := by
  obtain ⟨f, fd, F, hm, hb⟩ := O.ex
  exact pe_meth0 he c hm F hr hb .nil pass0 ht
/-- C(e, ..), the class by its name -/
theorem pe_makeO (O : OkI X.prog X.w X.K X.mg X.base k x C ps sp) (hr : Room (k + 1) X.A) (ha : PA X (e :: es) t) (hg : Gl X x := by rfl)
    (hdb : (x == ("__debug__" : Str)) = false := by decide) (he : starEach (e :: es) X.env = (false, eval e X.env) :: starEach es X.env := by rfl)
    (hpl : (backTo pos (starEach es X.env)).any (·.1) = false := by rfl) : PE X (.Call (.Name x p) (e :: es) [] pos) (tMake C sp [] E0 t) := by
  obtain ⟨f, fd, F, M, b⟩ := O.ex
  exact pe_make M F hr hg O.nm b .nil pass0 ha hdb he hpl
/-- cls(e, ..), the class in a slot -/
def tMakeV (C : Addr) (sp : Sp) (tf : TE) (t : TA) : TE := fun σ H Q => tf σ H fun c H1 => c = .ref C ∧ tMake C sp [] E0 t σ H1 Q
theorem pe_makeV {y : Str} (O : OkI X.prog X.w X.K X.mg X.base k y C ps sp) (hr : Room (k + 1) X.A) (hf : PE X (.Name x p) ta) (ha : PA X (e :: es) t)
    (he : starEach (e :: es) X.env = (false, eval e X.env) :: starEach es X.env := by rfl)
    (hpl : (backTo pos (starEach es X.env)).any (·.1) = false := by rfl) : PE X (.Call (.Name x p) (e :: es) [] pos) (tMakeV C sp ta t) := by
  obtain ⟨f, fd, F, M, b⟩ := O.ex
  refine ⟨fun pins s σ H Q I h => ?_⟩
  refine wpAny_Call_Name_kw (thn (hf.run pins s σ H _ I h) fun u s1 ⟨c, H1, I1, rc, ec, q1⟩ => ?_)
  subst ec
  obtain rfl : u = Value.ref C := rc
  refine PySem.W.callWith_K (h₀ := X.base) I.ok.mod.kin M.kp (thn (ha.run pos pins s1 σ H1 _ I1 q1) fun us s2 ⟨vs, H2, I2, r, q⟩ => ⟨I2.kIn, ?_⟩) he hpl
  exact run_make M F hr b .nil pass0 I2 r q
/-! ### x in o, len(o), str(o) -/
theorem ins_inst {pins : List (Addr × Obj)} {σ : L2.St} {H : Hp} {s : Shared} {a dx : Addr} {fs : List (Str × V)} (I : Inv X pins σ H s) (ea : H a = some (.ins C dx fs)) : ∃ ox od, PySem.W.InstAt s.heap a ox C (some od) := by
  obtain ⟨mA, O, _, _, _, _⟩ := ins_get I.hok ea
  obtain ⟨od, J, _⟩ := O.look
  exact ⟨_, od, J⟩
def rInOwn (C : Addr) (sp : Sp) (neg : Bool) : R2 := fun x y H Q => ∃ a dx fs, y = .ref a ∧ H a = some (.ins C dx fs) ∧ sp [.ref a, x] H (fun v H2 => ∃ b : Bool, v = .bl b ∧ Q (.bl (if neg then !b else b)) H2) E0
theorem op_inO (O : OkM CX0 X.prog X.w X.K X.mg X.base k C "__contains__" ps sp) (hr : Room k X.A) : OpR X (compareOp .In) (rInOwn C sp false) := by
  intro pins s σ H x y v u Q I rx ry h
  obtain ⟨a, dx, fs, rfl, ea, q⟩ := h
  obtain rfl : u = Value.ref a := ry
  obtain ⟨f, fd, F, hm, hb⟩ := O.ex
  obtain ⟨ox, od, J⟩ := ins_inst I ea
  obtain ⟨m, fr⟩ := I.fr
  refine PySem.W.in_K fr I.ok.mod.kin J hm.at_ hm.fn ?_
  refine thn (run_fn (us := [.ref a, v]) (vs := [.ref a, x]) (dvs := []) F hr hb .nil pass0 I (.cons rfl (.cons rx .nil)) q) fun r s1 hh => ?_
  obtain ⟨z, H2, I2, rz, b, ez, q2⟩ := hh
  subst ez
  obtain rfl : r = Value.bool b := rz
  exact wpAny_truthy_bool ⟨.bl b, H2, I2, rfl, q2⟩
theorem op_notInO (O : OkM CX0 X.prog X.w X.K X.mg X.base k C "__contains__" ps sp) (hr : Room k X.A) : OpR X (compareOp .NotIn) (rInOwn C sp true) := by
  intro pins s σ H x y v u Q I rx ry h
  obtain ⟨a, dx, fs, rfl, ea, q⟩ := h
  obtain rfl : u = Value.ref a := ry
  obtain ⟨f, fd, F, hm, hb⟩ := O.ex
  obtain ⟨ox, od, J⟩ := ins_inst I ea
  obtain ⟨m, fr⟩ := I.fr
  refine PySem.W.notIn_K fr I.ok.mod.kin J hm.at_ hm.fn ?_
  refine thn (run_fn (us := [.ref a, v]) (vs := [.ref a, x]) (dvs := []) F hr hb .nil pass0 I (.cons rfl (.cons rx .nil)) q) fun r s1 hh => ?_
  obtain ⟨z, H2, I2, rz, b, ez, q2⟩ := hh
  subst ez
  obtain rfl : r = Value.bool b := rz
  exact wpAny_truthy_bool ⟨.bl (!b), H2, I2, rfl, q2⟩
/-- a def, run where a builtin runs -/
theorem run_in {A : Around} {Q : Value → Shared → Prop} {E : Value → Shared → Prop} {f : Addr} {fd : FuncData} {ps : List Str} {sp : Sp} {pins : List (Addr × Obj)} {σ : L2.St} {H : Hp} {s : Shared} {us : List Value} {vs : List V} {QV : VK}
    (F : FnOk X.prog X.w X.K X.mg X.base CX0 k f fd ps sp) (hr : Room k A) (hf : A.frames = X.A.frames) (hb : Binds X.K fd ps []) (I : Inv X pins σ H s) (r : Vals vs us) (h : sp vs H QV E0)
    (hQ : ∀ v s', EP X pins σ QV v s' → Q v s') : wpAny (model X.prog X.w) A (call (.ref f) us) Q E s := by
  have hl : us.length = ps.length := by rw [← r.length]; exact F.len _ _ _ _ h
  have b := hb s us I.kIn (by rw [List.append_nil]; exact hl)
  rw [List.append_nil] at b
  have e0 := I.env0
  refine wpAny_call (codeAny_mono (F.run A X.stack s H ⟨us, []⟩ us vs QV E0 hr { e0 with frames := hf.trans e0.frames } b r h) fun z s' hq => ?_)
  cases z with
  | error er => exact False.elim hq
  | ok fl =>
    cases fl with
    | ret u => exact hQ _ _ (I.after hq)
    | next => exact False.elim hq
    | brk => exact False.elim hq
    | cont => exact False.elim hq
theorem call_lenO (O : OkM CX0 X.prog X.w X.K X.mg X.base k C "__len__" ps sp) (hr : Room (k + 1) X.A) : CallR X (.builtin "len") (fun xs H Q => ∃ a dx fs, xs = [.ref a] ∧ H a = some (.ins C dx fs) ∧
    sp [.ref a] H (fun v H2 => ∃ n : Int, v = .int n ∧ 0 ≤ n ∧ n < 2 ^ 63 ∧ Q (.int n) H2) E0) := by
  intro pins s σ H xs us Q I r h
  obtain ⟨a, dx, fs, rfl, ea, q⟩ := h
  obtain ⟨u, rfl, ru⟩ := vals1 r
  obtain rfl : u = Value.ref a := ru
  obtain ⟨f, fd, F, hm, hb⟩ := O.ex
  obtain ⟨ox, od, J⟩ := ins_inst I ea
  obtain ⟨m, fr⟩ := I.fr
  refine PySem.W.len_K fr I.ok.mod.kin J hm.at_ hm.fn (run_in (vs := [.ref a]) F hr.in1 rfl hb I (.cons rfl .nil) q fun v s' hh => ?_)
  obtain ⟨z, H2, I2, rz, n, ez, n0, n1, q2⟩ := hh
  subst ez
  obtain ⟨t, rfl⟩ := rz
  exact ⟨⟨n0, n1⟩, ⟨.int n, H2, I2.tok _, ⟨_, rfl⟩, q2⟩⟩
theorem call_strO (O : OkM CX0 X.prog X.w X.K X.mg X.base k C "__str__" ps sp) (hr : Room (k + 2) X.A) : CallR X (.type "str") (fun xs H Q => ∃ a dx fs, xs = [.ref a] ∧ H a = some (.ins C dx fs) ∧
    sp [.ref a] H (fun v H2 => ∃ z : Str, v = .str z ∧ Q (.str z) H2) E0) := by
  intro pins s σ H xs us Q I r h
  obtain ⟨a, dx, fs, rfl, ea, q⟩ := h
  obtain ⟨u, rfl, ru⟩ := vals1 r
  obtain rfl : u = Value.ref a := ru
  obtain ⟨f, fd, F, hm, hb⟩ := O.ex
  obtain ⟨ox, od, J⟩ := ins_inst I ea
  have h2 : Room k X.A.in1.in1 := (Room.in1 (k := k + 1) hr).in1
  refine PySem.W.kso_call (h2.units0) I.kIn J hm.at_ hm.fn (run_in (vs := [.ref a]) F h2 rfl hb I (.cons rfl .nil) q fun v s' hh => ?_)
  obtain ⟨z, H2, I2, rz, y, ez, q2⟩ := hh
  subst ez
  obtain ⟨t, rfl⟩ := rz
  exact ⟨.str y, H2, I2, ⟨_, rfl⟩, q2⟩
/-! ### a == b, both of the class at C, by C's own __eq__ -/
def rEqO (C : Addr) (sp : Sp) : R2 := fun x y H Q => ∃ a b dx dy fs gs, x = .ref a ∧ y = .ref b ∧ H a = some (.ins C dx fs) ∧ H b = some (.ins C dy gs) ∧
  sp [.ref a, .ref b] H (fun v H2 => ∃ c : Bool, v = .bl c ∧ Q (.bl c) H2) E0
theorem op_eqO (O : OkM CX0 X.prog X.w X.K X.mg X.base k C "__eq__" ps sp) (hr : Room k X.A) : OpR X (compareOp .Eq) (rEqO C sp) := by
  intro pins s σ H x y v u Q I rx ry h
  obtain ⟨a, b, dx, dy, fs, gs, rfl, rfl, ea, eb, q⟩ := h
  obtain rfl : v = Value.ref a := rx
  obtain rfl : u = Value.ref b := ry
  obtain ⟨f, fd, F, hm, hb⟩ := O.ex
  obtain ⟨ox, od, J⟩ := ins_inst I ea
  obtain ⟨oy, od', J'⟩ := ins_inst I eb
  obtain ⟨m, fr⟩ := I.fr
  show wpAny (model X.prog X.w) X.A (richCompare .Eq (.ref a) (.ref b)) (EP X pins σ Q) X.xe s
  refine PySem.W.cmp_K (op := .Eq) (tb := .ref C) hr.units0 fr I.ok.mod.kin J J'.type (by simp [PySem.W.notFirst]) hm.at_ hm.fn ?_
  refine thn (run_fn (us := [.ref a, .ref b]) (vs := [.ref a, .ref b]) (dvs := []) F hr hb .nil pass0 I (.cons rfl (.cons rfl .nil)) q) fun r s1 hh => ?_
  obtain ⟨z, H2, I2, rz, c, ez, q2⟩ := hh
  subst ez
  obtain rfl : r = Value.bool c := rz
  exact ⟨.bl c, H2, I2, rfl, q2⟩
/-! ### C.m(..), m a classmethod that may raise -/
theorem pe_cmethX {pl : Sem Bool} (tk : Takes X W) (he : PE X o ta) (O : OkCM X.prog X.w X.K X.mg X.base k C m ps sp) (hr : Room k X.A) (ha : PA X (e :: es) t)
    (hst : starEach (e :: es) X.env = (false, eval e X.env) :: starEach es X.env := by rfl) (hpl : (backTo pos (starEach es X.env)).any (·.1) = false := by rfl)
    (ht : eval (.Call (.Attribute o m apos) (e :: es) [] pos) X.env = (do
      let ov ← eval o X.env
      standAt apos.atName
      let (f, first) ← holding [ov] (getMethod ov m pl)
      callWith pos f first (backTo pos (starEach (e :: es) X.env)) (backToKw pos (keywordEach [] X.env))) := by rfl) :
    PE X (.Call (.Attribute o m apos) (e :: es) [] pos) (fun σ H Q => ta σ H fun x H1 => x = .ref C ∧ t σ H1 fun vs H2 => sp (.ref C :: vs) H2 Q (WE W σ)) := by
  obtain ⟨p, g, fd, mc, F, r, c, hb⟩ := O.ex
  refine ⟨fun pins s σ H Q I h => ?_⟩
  refine PySem.W.methodCall_KW (pl := pl) (thn (he.run pins s σ H _ I h) fun u s1 ⟨x, H1, I1, rx, ex, q⟩ => ?_) ht
  subst ex
  obtain rfl : u = Value.ref C := rx
  refine ClX.getmethcm_ok I1 r c fun s2 I2 => ?_
  refine ClX.callwith_cm I2 (ClX.base_none I1 (Nat.le_refl _)) c.fi (thn (ha.run pos _ s2 σ H1 _ I2 q) fun us s3 ⟨vs, H2, I3, rv, q2⟩ => ⟨⟨ClX.pin_at I3, I3.kIn⟩, ?_⟩) hst hpl
  have hl : (Value.ref C :: us).length = ps.length := by
    have z : Vals (V.ref C :: vs) (Value.ref C :: us) := .cons rfl rv
    rw [← z.length]
    exact F.len _ _ _ _ q2
  have bb := hb s3 (.ref C :: us) I3.kIn (by rw [List.append_nil]; exact hl)
  rw [List.append_nil] at bb
  refine thn (Q := EP X ((s1.heap.objs.size, PySem.W.methodObj (.ref g) (.ref C)) :: pins) σ Q) (wpAny_call (PySem.W.method_call (ClX.pin_at I3) (codeAny_mono (F.run X.A X.stack s3 H2 ⟨.ref C :: us, []⟩ (.ref C :: us) (.ref C :: vs) Q (WE W σ) hr I3.env0 bb (.cons rfl rv) q2) fun z s' hq => ?_))) fun _ _ y => ClX.unpinE y
  cases z with
  | error er => exact passAt tk σ _ _ _ _ _ I3 hq
  | ok fl =>
    cases fl with
    | ret u => exact I3.after hq
    | next => exact False.elim hq
    | brk => exact False.elim hq
    | cont => exact False.elim hq
/-! ### raise C(e, ..), C an own error with its own __init__ -/
theorem pmk_x {C : Addr} (O : OkC X.prog X.w X.K X.mg X.base k x C ps sp) (ty : PySem.W.typeIn X.K (.ref C) = some (.type "type")) (hr : Room (k + 1) X.A) (ha : PA X (e :: es) t) (hg : Gl X x := by rfl)
    (hdb : (x == ("__debug__" : Str)) = false := by decide) (he : starEach (e :: es) X.env = (false, eval e X.env) :: starEach es X.env := by rfl)
    (hpl : (backTo pos (starEach es X.env)).any (·.1) = false := by rfl) : PMk X (.Call (.Name x p) (e :: es) [] pos) (tMkO C sp [] t) := by
  obtain ⟨fI, fd, F1, iC, tI, hb⟩ := O.ex
  intro pins s σ H Q I h
  obtain ⟨B, nI, iI, bmB, FB, SF, q1, q2⟩ := O.cl.base
  refine wpAny_Call_Name_kw (ld_glob I hg O.nm ?_ hdb)
  refine PySem.W.callWith_K (h₀ := X.base) I.ok.mod.kin O.cl.kC (thn (ha.run pos pins s σ H _ I h) fun us s1 hu => ?_) he hpl
  obtain ⟨vs, H1, I1, r1, hz, q⟩ := hu
  refine ⟨I1.kIn, ?_⟩
  show wpAny _ _ (call (.ref C) us) _ _ _
  obtain ⟨nm, N', qn, bs, bm, hdct, sn, sub, ab, col, dd, k0, k1, k2, k3, k5, hC, hT⟩ := PySem.W.excInit_of I1.kIn q1
  obtain ⟨oI, hoI, hcI⟩ : ∃ oI, s1.heap.get? fI = some oI ∧ oI.cls = .type "function" := by
    obtain ⟨o, z1, z2⟩ := Option.map_eq_some_iff.mp (show (X.K.lookup fI).map (·.cls) = some (.type "function") from beq_iff_eq.mp tI)
    exact ⟨o, I1.kIn _ _ z1, z2⟩
  obtain ⟨hp, g, dr, tk, os⟩ := s1
  have hsz : hp.objs.size ≤ hp.objs.size + 1 := Nat.le_succ _
  have hq := q (hp.objs.size + 1) (I1.hok.fresh hsz)
  rw [List.append_nil] at hq
  have kk : ∀ b o, hp.get? b = some o → ((hp.push (PySem.W.kdv_tup us)).push (PySem.HandSPX.excO C hp.objs.size)).get? b = some o :=
    fun b o z => Heap.get?_push_of_some _ (Heap.get?_push_of_some _ z)
  have hget : ((hp.push (PySem.W.kdv_tup us)).push (PySem.HandSPX.excO C hp.objs.size)).get? (hp.objs.size + 1) = some (PySem.HandSPX.excO C hp.objs.size) := by heap_get
  have I2 := I1.laid (t' := tk) (a := hp.objs.size + 1) (o := exo (hp.objs.size + 1) C none)
    (h' := (hp.push (PySem.W.kdv_tup us)).push (PySem.HandSPX.excO C hp.objs.size)) kk hsz (exo_ok hget)
  have r2 : Vals (V.ref (hp.objs.size + 1) :: vs) (Value.ref (hp.objs.size + 1) :: us) := .cons rfl r1
  have hl : (Value.ref (hp.objs.size + 1) :: us ++ []).length = ps.length := by
    have z := r2.length
    rw [F1.len _ _ _ _ hq] at z
    rw [List.append_nil]
    exact z.symm
  have bb := hb _ (Value.ref (hp.objs.size + 1) :: us) I2.kIn hl
  rw [List.append_nil] at bb
  have hus : us.length ≤ sizeLine := by
    rw [← Paired.length r1, sizeLine_eq]
    omega
  refine wpAny_call (PySem.HandSPX.call_own FB hT hC (PySem.W.looks_findIn I1.kIn iC) (fun self => PySem.W.exc_bind hoI hcI self) hus
    (codeAny_mono (F1.run _ X.stack _ _ ⟨Value.ref (hp.objs.size + 1) :: us, []⟩ (Value.ref (hp.objs.size + 1) :: us) _ _ (fun _ _ _ => False)
      (hr.make C us []) (I2.env0.make C us []) bb r2 hq) fun r s' hq' => ?_))
  cases r with
  | error er => exact False.elim hq'
  | ok fl =>
    cases fl with
    | ret u =>
      obtain ⟨v, H2, os2, bare2, un2, hok2, rv, ev, d, fs, ea, ed, hd1, q2⟩ := hq'
      subst ev
      obtain ⟨h2, g2, d2, t2, os'⟩ := s'
      exact ⟨rv, mk_end (raises_own O.cl.ex.hs ty) I1 hsz kk un2 hok2 os2 bare2 ea ed hd1 q2⟩
    | next => exact False.elim hq'
    | brk => exact False.elim hq'
    | cont => exact False.elim hq'
/-- a global by its name, its value known up to the token -/
theorem pe_gv {v : V} {x : Str} {pos : Pos} (h : ∃ u, X.mg x = some u ∧ RelV v u) (hg : Gl X x := by rfl) (hd : (x == ("__debug__" : Str)) = false := by decide) : PE X (.Name x pos) (tC v) := by
  obtain ⟨u, hm, r⟩ := h
  exact pe_glob hg hm r hd
/-- isinstance(e, c), e the error that the suite holds -/
theorem call_isEX {a D : Addr} {oe : Obj} {cls : Value} {d : Option Addr} {pn : List (Addr × Obj)} (T : ExcC X.K D) (hz : Zc cls d oe) (hf : ∃ vs, oe.data = .fields vs) : CallR (X.suite a ((a, oe) :: pn)) (.builtin "isinstance")
    (fun xs H Q => ∃ (c : V) (cv : Value) (b : Bool) (dd : Addr) (fs : List (Str × V)), xs = [.ref a, c] ∧ cls = .ref D ∧ d = some dd ∧ H dd = some (.xd fs) ∧ (∀ u, RelV c u → u = cv) ∧ PySem.W.kitOne X.K (.ref D) cv = some b ∧ Q (.bl b) H) := by
  intro pins s σ H xs us Q I r h
  obtain ⟨c, cv, b, dd, fs, rfl, ec, edd, ed, hcv, e, q⟩ := h
  obtain ⟨u1, u2, rfl, r1, r2⟩ := vals2 r
  obtain rfl : u1 = Value.ref a := r1
  have e2 := hcv _ r2
  subst e2
  subst ec
  subst edd
  obtain ⟨ha, _⟩ := I.pin (a, oe) (List.mem_append_left _ List.mem_cons_self)
  obtain ⟨vs, hd⟩ := hf
  have hx : ObjOk X.prog X.w H s.heap dd (.xd fs) := I.hok dd _ ed
  obtain ⟨mA, hns, hr⟩ := hx
  obtain ⟨od, ho, hl⟩ := lookIn_ns hns
  have J : PySem.W.InstAt s.heap a oe D (some od) := ⟨ha, hz.1, by unfold PySem.W.notCls; rw [hd] <;> rfl, by rw [hz.2]; exact ho⟩
  exact PySem.W.kia_one (PySem.W.kitx_exc (by obtain ⟨cd, hc, _⟩ := PySem.W.any_some T.hd; rw [hc]; rfl) T.hg T.hk T.hs T.ha T.hn T.ht T.hm) I.kIn J e (fun z => nomatch z)
    fun tk => ⟨.bl b, H, I.kept (t' := tk) fun _ _ z => z, rfl, q⟩
/-! ### static methods -/
/-- C.m is a static method: its record at p, its def at f -/
structure SM (K : Fg) (C : Addr) (m : Str) (f : Addr) : Prop where
  ex : ∃ (mc : Value) (p : Addr) (rest : List Value), ClX.CRead K C mc ∧ PySem.W.findCls K (.ref C) mc m = some (.get (.builtin "staticmethod.__get__") (.ref p) .none (.ref C)) ∧
    PySem.W.recIn K p "staticmethod" = some (.ref f :: rest)
  kp : PySem.W.keepIn K (.ref f) = true
/-- .. reached through an instance -/
structure SMI (K : Fg) (C : Addr) (m : Str) (f : Addr) : Prop where
  pg : PySem.W.plainGet K C Str.empty = true
  ic : PySem.W.isClsIn K C = true
  cp : PySem.W.copiedNames.contains m = false
  ex : ∃ (p : Addr) (rest : List Value), PySem.W.findIn K (.ref C) m = some (some (.ref p)) ∧ PySem.W.typeIn K (.ref p) = some (.type "staticmethod") ∧
    PySem.W.specialIn K (.ref p) "__get__" = some (some (.builtin "staticmethod.__get__")) ∧ PySem.W.takesIn K (.ref p) = some false ∧ PySem.W.recIn K p "staticmethod" = some (.ref f :: rest)
  kp : PySem.W.keepIn K (.ref f) = true
theorem SMI.get' {K : Fg} {C f : Addr} {m : Str} (k : SMI K C m f) : PySem.W.plainGet K C m = true := k.pg
section
variable {X : Cx} {e o : Expr} {es : List Expr} {t tk : TA} {ta : TE} {x m : Str} {p pos apos : Pos} {k : Nat} {ps ks : List Str} {sp : Sp} {C f : Addr} {fd : FuncData} {kws : List Keyword} {ds : List Value} {dvs : List V}
  {g : List Value → List Value → List Value} {gV : List V → List V → List V} {pins : List (Addr × Obj)} {σ : L2.St} {H : Hp} {s : Shared}
theorem getsm_ok {pl : Sem Bool} {A : Around} {E : Value → Shared → Prop} {Q : Value × List Value → Shared → Prop} (I : Inv X pins σ H s) (S : SM X.K C m f) (h : ∀ s', Inv X pins σ H s' → Q (.ref f, []) s') :
    wpAny (model X.prog X.w) A (getMethod (.ref C) m pl) Q E s := by
  obtain ⟨mc, q, rest, r, at_, rc⟩ := S.ex
  refine PySem.W.method_cls I.kIn r.ga (PySem.W.cls_bind I.kIn r.rd at_ ?_)
  exact wpAny_call (PySem.W.sm_get (s := { s with toks := s.toks + 1 }) I.kIn rc (PySem.W.handed_on rfl (h _ (I.tok _))))
theorem getsmi_ok {pl : Sem Bool} {A : Around} {E : Value → Shared → Prop} {Q : Value × List Value → Shared → Prop} {a dx : Addr} {fs : List (Str × V)} (I : Inv X pins σ H s) (S : SMI X.K C m f) (ea : H a = some (.ins C dx fs)) (l : fs.lookup m = none)
    (h : ∀ s', Inv X pins σ H s' → Q (.ref f, []) s') : wpAny (model X.prog X.w) A (getMethod (.ref a) m pl) Q E s := by
  obtain ⟨q, rest, at_, ty, get, tk, rc⟩ := S.ex
  obtain ⟨mA, O, rr, _, _, _⟩ := ins_get I.hok ea
  have hn : mA m = none := RelO.none_of (by rw [← l]; exact rr m)
  obtain ⟨od, J, hl⟩ := O.look
  refine PySem.W.method_usual (r := some (.ref q)) I.kIn J (PySem.W.plainGet_of S.get').1 (PySem.W.plainGet_of S.get').2 at_ ?_ ?_
  · show ((PySem.W.typeIn X.K (.ref q)).any fun t => t != .type "function" && t != .type "method_descriptor" && t != .type "wrapper_descriptor") = true
    rw [ty]
    first
    | rfl
    | decide +kernel
  · refine PySem.W.get_bind I.kIn J (PySem.W.plainGet_of S.get').1 (ClX.find_cm S.ic at_ get tk S.cp (by rw [hl m, hn])) (PySem.W.plainGet_of S.get').2 ?_
    exact wpAny_call (PySem.W.sm_get (s := { s with toks := s.toks + 1 }) I.kIn rc (PySem.W.handed_on rfl (h _ (I.tok _))))
/-- C.m(e, ..), the lacking ones by their defaults -/
theorem pe_smeth {pl : Sem Bool} (he : PE X o ta) (S : SM X.K C m f) (F : FnOk X.prog X.w X.K X.mg X.base CX0 k f fd ps sp) (hr : Room k X.A) (hb : Binds X.K fd ps ds) (hd : Vals dvs ds) (ha : PA X (e :: es) t)
    (hst : starEach (e :: es) X.env = (false, eval e X.env) :: starEach es X.env := by rfl) (hpl : (backTo pos (starEach es X.env)).any (·.1) = false := by rfl)
    (ht : eval (.Call (.Attribute o m apos) (e :: es) [] pos) X.env = (do
      let ov ← eval o X.env
      standAt apos.atName
      let (f, first) ← holding [ov] (getMethod ov m pl)
      callWith pos f first (backTo pos (starEach (e :: es) X.env)) (backToKw pos (keywordEach [] X.env))) := by rfl) :
    PE X (.Call (.Attribute o m apos) (e :: es) [] pos) (fun σ H Q => ta σ H fun x H1 => x = .ref C ∧ t σ H1 fun vs H2 => sp (vs ++ dvs) H2 Q E0) := by
  refine ⟨fun pins s σ H Q I h => ?_⟩
  refine PySem.W.methodCall_KW (pl := pl) (thn (he.run pins s σ H _ I h) fun u s1 ⟨x, H1, I1, rx, ex, q⟩ => ?_) ht
  subst ex
  obtain rfl : u = Value.ref C := rx
  refine getsm_ok I1 S fun s2 I2 => ?_
  refine PySem.W.callWith_K (first := []) (h₀ := X.base) I.ok.mod.kin S.kp (thn (ha.run pos pins s2 σ H1 _ I2 q) fun us s3 ⟨vs, H2, I3, r, q2⟩ => ⟨I3.kIn, ?_⟩) hst hpl
  exact run_fn (us := us) (vs := vs) F hr hb hd pass0 I3 r q2
/-- C.m(e, .., k = v, ..) -/
theorem pe_smethK {pl : Sem Bool} (he : PE X o ta) (S : SM X.K C m f) (F : FnOk X.prog X.w X.K X.mg X.base CX0 k f fd ps sp) (hr : Room k X.A) (hb : KBinds X.K fd ps ks g gV) (ha : PA X (e :: es) t) (hkw : PK X kws tk)
    (hall : (backToKw pos (keywordEach kws X.env)).all (·.1.isSome) = true := by rfl) (hks : (backToKw pos (keywordEach kws X.env)).filterMap (·.1) = ks := by rfl)
    (hst : starEach (e :: es) X.env = (false, eval e X.env) :: starEach es X.env := by rfl)
    (hpl : ((backTo pos (starEach (e :: es) X.env)).any (·.1) || (backToKw pos (keywordEach kws X.env)).any (·.1.isNone)) = false := by rfl)
    (ht : eval (.Call (.Attribute o m apos) (e :: es) kws pos) X.env = (do
      let ov ← eval o X.env
      standAt apos.atName
      let (f, first) ← holding [ov] (getMethod ov m pl)
      callWith pos f first (backTo pos (starEach (e :: es) X.env)) (backToKw pos (keywordEach kws X.env))) := by rfl) :
    PE X (.Call (.Attribute o m apos) (e :: es) kws pos) (fun σ H Q => ta σ H fun x H1 => x = .ref C ∧ t σ H1 fun vs H2 => tk σ H2 fun zs H3 => sp (gV vs zs) H3 Q E0) := by
  refine ⟨fun pins s σ H Q I h => ?_⟩
  refine PySem.W.methodCall_KW (pl := pl) (thn (he.run pins s σ H _ I h) fun u s1 ⟨x, H1, I1, rx, ex, q⟩ => ?_) ht
  subst ex
  obtain rfl : u = Value.ref C := rx
  refine getsm_ok I1 S fun s2 I2 => ?_
  refine PySem.W.callWith_KW (first := []) (h₀ := X.base) I.ok.mod.kin S.kp hall (thn (ha.run pos pins s2 σ H1 _ I2 q) fun us s3 ⟨vs, H2, I3, r, q2⟩ => ?_) hpl hst
  refine thn (hkw.run pos pins s3 σ H2 _ I3 q2) fun ws s4 ⟨zs, H3, I4, rz, q3⟩ => ⟨I4.kIn, ?_⟩
  rw [hks]
  exact run_fnk F hr hb pass0 I4 r rz q3
/-- o.m(e, .., k = v, ..), o an instance of C -/
theorem pe_smethI {pl : Sem Bool} (he : PE X o ta) (S : SMI X.K C m f) (F : FnOk X.prog X.w X.K X.mg X.base CX0 k f fd ps sp) (hr : Room k X.A) (hb : KBinds X.K fd ps ks g gV) (ha : PA X (e :: es) t) (hkw : PK X kws tk)
    (hall : (backToKw pos (keywordEach kws X.env)).all (·.1.isSome) = true := by rfl) (hks : (backToKw pos (keywordEach kws X.env)).filterMap (·.1) = ks := by rfl)
    (hst : starEach (e :: es) X.env = (false, eval e X.env) :: starEach es X.env := by rfl)
    (hpl : ((backTo pos (starEach (e :: es) X.env)).any (·.1) || (backToKw pos (keywordEach kws X.env)).any (·.1.isNone)) = false := by rfl)
    (ht : eval (.Call (.Attribute o m apos) (e :: es) kws pos) X.env = (do
      let ov ← eval o X.env
      standAt apos.atName
      let (f, first) ← holding [ov] (getMethod ov m pl)
      callWith pos f first (backTo pos (starEach (e :: es) X.env)) (backToKw pos (keywordEach kws X.env))) := by rfl) :
    PE X (.Call (.Attribute o m apos) (e :: es) kws pos) (fun σ H Q => ta σ H fun x H1 => ∃ a dx fs, x = .ref a ∧ H1 a = some (.ins C dx fs) ∧ fs.lookup m = none ∧ t σ H1 fun vs H2 => tk σ H2 fun zs H3 => sp (gV vs zs) H3 Q E0) := by
  refine ⟨fun pins s σ H Q I h => ?_⟩
  refine PySem.W.methodCall_KW (pl := pl) (thn (he.run pins s σ H _ I h) fun u s1 ⟨x, H1, I1, rx, a, dx, fs, ex, ea, l, q⟩ => ?_) ht
  subst ex
  obtain rfl : u = Value.ref a := rx
  refine getsmi_ok I1 S ea l fun s2 I2 => ?_
  refine PySem.W.callWith_KW (first := []) (h₀ := X.base) I.ok.mod.kin S.kp hall (thn (ha.run pos pins s2 σ H1 _ I2 q) fun us s3 ⟨vs, H2, I3, r, q2⟩ => ?_) hpl hst
  refine thn (hkw.run pos pins s3 σ H2 _ I3 q2) fun ws s4 ⟨zs, H3, I4, rz, q3⟩ => ⟨I4.kIn, ?_⟩
  rw [hks]
  exact run_fnk F hr hb pass0 I4 r rz q3
end
end
end EV

/-! comprehensions that only make objects: what the new list holds -/
namespace EV
open PySem PySem.Spec PyProof.Rows L2
/-- what the first i turns leave in the new list -/
def gath (f : Nat → Option V) : Nat → List V
  | 0 => []
  | i + 1 => gath f i ++ (f i).toList
theorem gath_le (f : Nat → Option V) : ∀ i, (gath f i).length ≤ i
  | 0 => Nat.le_refl _
  | i + 1 => by
    have := gath_le f i
    show (gath f i ++ (f i).toList).length ≤ i + 1
    rw [List.length_append]
    have : (f i).toList.length ≤ 1 := by cases f i <;> simp
    omega
theorem gath_fm {α : Type} (xs : List α) (f : α → Option V) : ∀ i, i ≤ xs.length → gath (fun j : Nat => xs[j]?.bind f) i = (xs.take i).filterMap f
  | 0, _ => by rw [List.take_zero]; rfl
  | i + 1, h => by
    have hi : i < xs.length := h
    show gath _ i ++ (xs[i]?.bind f).toList = _
    rw [gath_fm xs f i (Nat.le_of_lt hi), List.take_succ, List.filterMap_append, List.getElem?_eq_getElem hi]
    cases e : f xs[i] <;> simp [e]
theorem gath_map {α : Type} (xs : List α) (f : α → V) {n : Nat} (hn : n = xs.length) : gath (fun j : Nat => xs[j]?.map f) n = xs.map f := by
  have e : (fun j : Nat => xs[j]?.map f) = fun j : Nat => xs[j]?.bind fun x => some (f x) := by
    funext j
    cases xs[j]? <;> rfl
  subst hn
  rw [e, gath_fm xs _ _ (Nat.le_refl _), List.take_length]
  induction xs with
  | nil => rfl
  | cons x xs ih => simp
theorem gath_filter {α : Type} (xs : List α) (p : α → Bool) (f : α → V) {n : Nat} (hn : n = xs.length) : gath (fun j : Nat => xs[j]?.bind fun x => if p x = true then some (f x) else none) n = (xs.filter p).map f := by
  subst hn
  rw [gath_fm xs _ _ (Nat.le_refl _), List.take_length]
  induction xs with
  | nil => rfl
  | cons x xs ih =>
    by_cases h : p x = true
    · simp [h, ih]
    · simp [h, ih]
section
variable {J : It} {n : Nat} {G : Hp → Prop} {Y : Nat → Hp → V → Hp → Prop} {g : TG} {tt : TT} {te : TE} {vs : List Nat} {σ : L2.St} {H1 : Hp} {D : Addr} {Qd : Hp → Prop}
theorem lc_fm (w : Walk J n G Y) (f : Nat → Option V) (nD : H1 D = none) (hz : n ≤ 1000000) (hG : ∀ H, Same H1 H → G H)
    (hs : ∀ i x H H' (NT : Hp → Prop) (NE : V → Hp → Prop), i < n → Same H1 H → Y i H x H' → (f i = none → ∀ H3, Same H H3 → NT H3) → (∀ y H4, f i = some y → Same H H4 → NE y H4) →
      g x (wipe σ vs) H' fun σ2 H2 => wipe σ2 vs = wipe σ vs ∧ tt σ2 H2 fun b H3 => if b = true then te σ2 H3 NE else NT H3)
    (hd : ∀ H, Same H1 H → H D = some (.lst (gath f n)) → Qd H) :
    ∃ W : Nat → Nat → Hp → Prop, (∃ m, W 0 m (upd H1 D (.lst []))) ∧ ∀ i m H, W i m H →
      (J.stop i H ∧ Qd H) ∨ (J.go i H ∧ ∃ Nx : Hp → Prop, (∀ H', Nx H' → ∃ m', m' < m ∧ W (i + 1) m' H') ∧ ∀ x H', J.yld i H x H' → g x (wipe σ vs) H' fun σ2 H2 => wipe σ2 vs = wipe σ vs ∧ tt σ2 H2 fun b H3 =>
        if b = true then te σ2 H3 fun y H4 => ∃ acc, H4 D = some (.lst acc) ∧ acc.length < sizeLine ∧ Nx (upd H4 D (.lst (acc ++ [y]))) else Nx H3) := by
  refine lc_it w (fun i H => Same H1 H ∧ H D = some (.lst (gath f i))) ⟨same_upd nD, upd_same⟩ (fun i H _ q => hG H q.1) ?_ fun H q => hd H q.1 q.2
  intro i x H H' hi q y
  refine hs i x H H' _ _ hi q.1 y (fun e H3 s3 => ⟨q.1.trans s3, ?_⟩) (fun y H4 e s4 => ⟨gath f i, s4 _ _ q.2, Nat.lt_of_le_of_lt (gath_le f i) (by rw [sizeLine_eq]; omega), ?_, ?_⟩)
  · show H3 D = some (.lst (gath f i ++ (f i).toList))
    rw [e]
    simpa using s3 _ _ q.2
  · exact same_upd' (q.1.trans s4) nD
  · show upd H4 D _ D = some (.lst (gath f i ++ (f i).toList))
    rw [upd_same, e]
    rfl
end
/-- for a, b in ..: two slots (K told, so that a block's own state does not come into the reading) -/
theorem pg_pair {X : Cx} {K : Fg} {x y : Str} {p1 p2 pos : Pos} {k : Nat} (i j : Nat) (hc : X.calm = true) (hN : X.N.Nodup) (hi : X.N[i]? = some x) (hj : X.N[j]? = some y) (lx : X.env.scope.names.lookup x = some .local)
    (ly : X.env.scope.names.lookup y = some .local) (hK : X.K = K := by rfl) : PG X (.Tuple [.Name x p1, .Name y p2] k pos) (gTup K 2 (gCons (gName i) (gCons (gName j) gNil))) := by
  subst hK
  exact pg_tup hc (pgs_cons (pg_name hN hi (Or.inl lx) (.inr lx)) (pgs_cons (pg_name hN hj (Or.inl ly) (.inr ly)) pgs_nil))
theorem pg_three {X : Cx} {K : Fg} {x y z : Str} {p1 p2 p3 pos : Pos} {k : Nat} (i j l : Nat) (hc : X.calm = true) (hN : X.N.Nodup) (hi : X.N[i]? = some x) (hj : X.N[j]? = some y) (hl : X.N[l]? = some z) (lx : X.env.scope.names.lookup x = some .local)
    (ly : X.env.scope.names.lookup y = some .local) (lz : X.env.scope.names.lookup z = some .local) (hK : X.K = K := by rfl) : PG X (.Tuple [.Name x p1, .Name y p2, .Name z p3] k pos) (gTup K 3 (gCons (gName i) (gCons (gName j) (gCons (gName l) gNil)))) := by
  subst hK
  exact pg_tup hc (pgs_cons (pg_name hN hi (Or.inl lx) (.inr lx)) (pgs_cons (pg_name hN hj (Or.inl ly) (.inr ly)) (pgs_cons (pg_name hN hl (Or.inl lz) (.inr lz)) pgs_nil)))
/-- f'..' of two parts or more, its reading as one word -/
def tJoin (ts : List TE) : TE := fun σ H Q => tJs ts Str.empty σ H fun out H1 => Q (.str out) H1
theorem pe_joinedT {X : Cx} {v1 v2 : Expr} {rest : List Expr} {ts : List TE} {pos : Pos} (h : PJ X (v1 :: v2 :: rest) ts) : PE X (.JoinedStr (v1 :: v2 :: rest) pos) (tJoin ts) := pe_joined h
/-- a value's truth as a test, K told -/
theorem pt_truthK {X : Cx} {K : Fg} {a : Expr} {ta : TE} (ha : PE X a ta) (he : ∀ whole, isTrue a X.env whole = (do let v ← whole; standAt a.pos; holding [v] (truthy v))) (hK : X.K = K := by rfl) :
    PT X a (fun σ H Q => ta σ H fun x H' => ∃ k, TruV K x H' k ∧ Q k H') := by
  subst hK
  exact pt_truth ha he
/-- xs.pop() where K is told -/
theorem pe_popK {X : Cx} {K : Fg} {o : Expr} {to : TE} {apos cpos : Pos} (ho : PE X o to) (hbase : attributeBase o "pop" X.env (eval o X.env) = eval o X.env := by rfl)
    (hline : (apos.endLine == cpos.line) = true := by rfl) (hK : X.K = K := by rfl) : PE X (.Call (.Attribute o "pop" apos) [] [] cpos) (tBM0 K "list" rPop to) := by
  subst hK
  exact pe_bm0 PySem.F.plainAttrs_list PySem.F.slot_list_pop PySem.F.type_list_pop mt_pop ho hbase hline
end EV

/-! names, signs, makers and texts of libraries, as plain functions -/
namespace LM
open PySem TL L2
abbrev Rw := List Str
structure Op where
  sign : Str
  changed : List Str
  maker : Str
deriving DecidableEq
structure Lib where
  name : Str
  ps : List Str
  kept : List (Str × Str)
  hook : Option Str
  ops : List Op
deriving DecidableEq
def noFields : List Str := ["by", "changes", "name", "of", "to", "world"]
def binary : List Str := ["+", "-", "*", "//", "&", "|", "^", "<<", ">>"]
def unary : List Str := ["neg", "pos", "abs", "invert"]
def rootHooks : List Str := ["named", "call", "names", "renew", "copy", "bare"]
def makers0 : List Str := ["named", "call own", "names own", "bare own"]
def makers1 : List Str := ["named", "call own", "names own", "renew own", "copy own", "bare own", "hook"]
def makers2 : List Str := ["named", "call own", "call other", "call deeper", "call common", "names own", "names other", "names deeper", "names common", "renew own", "renew other", "renew deeper",
  "copy own", "copy other", "copy deeper", "bare own", "hook"]
def makersOf : Nat → List Str
  | 0 => makers0
  | 1 => makers1
  | _ => makers2
def within (lo hi : Nat) (l : List Nat) : Bool := l.all fun c => decide (lo ≤ c) && decide (c ≤ hi)
def small (w : Str) : Bool := decide (1 ≤ w.length) && decide (w.length ≤ 8) && within 97 122 (tl w)
def className (w : Str) : Bool := decide (1 ≤ w.length) && decide (w.length ≤ 8) && within 65 90 ((tl w).take 1) && within 97 122 ((tl w).drop 1)
def fieldName (w : Str) : Bool := small w && !noFields.contains w
def request (w : Str) : Bool := small w && !unary.contains w
def arity (w : Str) : Nat := if binary.contains w then 2 else if unary.contains w then 1 else 0
def firstRow (r : Rw) : Bool := match r with
  | [a, n] => a == "library" && className n
  | _ => false
def hookRow (r : Rw) : Bool := match r with
  | [a, w] => a == "hook" && rootHooks.contains w
  | _ => false
/-- one right `needs` row -/
def needsRow (r : Rw) (found : List Str) : Option Str := match r with
  | [a, f] => if a == "needs" && fieldName f && !found.contains f then some f else none
  | _ => none
def paramsM : List Rw → List Str → List Str
  | [], found => found
  | r :: rs, found => match needsRow r found with
    | some f => paramsM rs (found ++ [f])
    | none => found
def keepsRow (r : Rw) (known : List Str) : Option (Str × Str) := match r with
  | [a, f, o, s] => if a == "keeps" && o == "of" && fieldName f && !known.contains f && known.contains s then some (f, s) else none
  | _ => none
def keptM : List Rw → List Str → List (Str × Str) → List (Str × Str)
  | [], _, found => found
  | r :: rs, known, found => match keepsRow r known with
    | some p => keptM rs (known ++ [p.1]) (found ++ [p])
    | none => found
def selection (ws ps : List Str) : Bool := match ws with
  | [] => true
  | a :: chosen => a == "changes" && !chosen.isEmpty && decide (chosen = ps.filter fun f => chosen.contains f)
def requestM (r : Rw) (ps : List Str) : Option Op := match r with
  | a :: w :: b :: rest => if b == "by" && request w && makers0.contains (Str.join " " rest) then some ⟨w, ps, Str.join " " rest⟩ else none
  | _ => none
def opM (r : Rw) (ps : List Str) : Option Op := match r with
  | [] => none
  | s :: rest =>
    if s == "make" then requestM r ps
    else if (!binary.contains s && !unary.contains s) || !rest.contains "by" then none
    else
      let e := rest.findIdx (· == ("by" : Str))
      let maker := Str.join " " (rest.drop (e + 1))
      if !(makersOf (arity s)).contains maker || !selection (rest.take e) ps then none
      else some ⟨s, (rest.take e).drop 1, maker⟩
/-- from row k on: the operations, or the number of the first wrong row -/
def opsM (ps : List Str) (hook : Option Str) : Nat → List Rw → List Op → Except Nat (List Op)
  | _, [], found => .ok found
  | k, r :: rs, found => match opM r ps with
    | none => .error k
    | some o => if found.length = 6 || (found.map (·.sign)).contains o.sign || (o.maker == "hook" && hook.isNone) then .error k else opsM ps hook (k + 1) rs (found ++ [o])
def opsOf (rows : List Rw) (at_ : Nat) (ps : List Str) (hook : Option Str) : Except Nat (List Op) :=
  if at_ = rows.length then .error at_ else opsM ps hook at_ (rows.drop at_) []
def rowsM (z : Str) : List Rw := (Txt.split z "\n").map fun l => Txt.split l " "
def hookAt (rows : List Rw) (k : Nat) : Option Str := match rows[k]? with
  | some r => if hookRow r then some (r.getD 1 "") else none
  | none => none
def readRows (rows : List Rw) : Except Nat Lib :=
  if !firstRow (rows.headD []) then .error 0 else
  let ps := paramsM ((rows.drop 1).take 3) []
  if ps.isEmpty then .error 1 else
  let at1 := 1 + ps.length
  let kept := keptM ((rows.drop at1).take 2) ps []
  let at2 := at1 + kept.length
  let hk := hookAt rows at2
  let at3 := if hk.isSome then at2 + 1 else at2
  match opsOf rows at3 ps hk with
  | .error k => .error k
  | .ok ops => .ok ⟨(rows.headD []).getD 1 "", ps, kept, hk, ops⟩
def readM (z : Str) : Except Nat Lib := readRows (rowsM z)
def opLine (o : Op) : Str :=
  if arity o.sign = 0 then ("make " : Str) ++ o.sign ++ (" by " : Str) ++ o.maker
  else if o.changed = [] then o.sign ++ (" by " : Str) ++ o.maker
  else o.sign ++ (" changes " : Str) ++ Str.join " " o.changed ++ (" by " : Str) ++ o.maker
def rootLines (n : Str) (ps : List Str) (kept : List (Str × Str)) (hook : Option Str) : List Str :=
  [("library " : Str) ++ n] ++ ps.map (fun p => ("needs " : Str) ++ p) ++ kept.map (fun p => ("keeps " : Str) ++ p.1 ++ (" of " : Str) ++ p.2) ++ (match hook with | some h => [("hook " : Str) ++ h] | none => [])
def linesM (L : Lib) : List Str := rootLines L.name L.ps L.kept L.hook ++ L.ops.map opLine
def textM (L : Lib) : Str := Str.join "\n" (linesM L)
end LM

/-! the text of a library, cut into rows and read back -/
namespace LM
open PySem TL L2
/-! ### cutting at one sign -/
theorem pre1_self (s : Nat) (q : List Nat) : pre [s] (s :: q) = true := pre_self [s] q
theorem pre1_ne {s c : Nat} (q : List Nat) (h : c ≠ s) : pre [s] (c :: q) = false := pre_of_head [] q h
theorem spl1_app (s : Nat) : ∀ (p acc q : List Nat), spl [s] 0 acc (p ++ s :: q) = spl [s] 0 acc p ++ spl [s] 0 [] q
  | [], acc, q => by
    rw [List.nil_append, spl_hit (pre1_self s q), spl_nil]
    rfl
  | c :: p, acc, q => by
    by_cases h : c = s
    · subst h
      rw [List.cons_append, spl_hit (pre1_self _ _), spl_hit (pre1_self _ _)]
      show acc :: spl [c] 0 [] (p ++ c :: q) = acc :: spl [c] 0 [] p ++ spl [c] 0 [] q
      rw [spl1_app c p [] q]
      rfl
    · rw [List.cons_append, spl_miss (pre1_ne _ h), spl_miss (pre1_ne _ h), spl1_app s p _ q]
theorem spl1_join (s : Nat) : ∀ (p acc : List Nat), joinL [s] (spl [s] 0 acc p) = acc ++ p
  | [], acc => by
    rw [spl_nil, List.append_nil]
    rfl
  | c :: p, acc => by
    by_cases h : c = s
    · subst h
      rw [spl_hit (pre1_self _ _)]
      show joinL [c] (acc :: spl [c] 0 [] p) = _
      cases e : spl [c] 0 [] p with
      | nil =>
        have z := spl1_join c p []
        cases p with
        | nil => rw [spl_nil] at e; cases e
        | cons d r =>
          by_cases hd : d = c
          · subst hd; rw [spl_hit (pre1_self _ _)] at e; cases e
          · rw [e] at z; cases z
      | cons a r =>
        show acc ++ ([c] ++ joinL [c] (a :: r)) = _
        rw [← e, spl1_join c p []]
        rfl
    · rw [spl_miss (pre1_ne _ h), spl1_join s p _, List.append_assoc]
      rfl
theorem spl1_ne (s : Nat) (p acc : List Nat) : spl [s] 0 acc p ≠ [] := by
  cases p with
  | nil => rw [spl_nil]; simp
  | cons c p =>
    intro e
    induction p generalizing c acc with
    | nil =>
      by_cases h : c = s
      · subst h; rw [spl_hit (pre1_self _ _)] at e; cases e
      · rw [spl_miss (pre1_ne _ h), spl_nil] at e; cases e
    | cons d p ih =>
      by_cases h : c = s
      · subst h; rw [spl_hit (pre1_self _ _)] at e; cases e
      · rw [spl_miss (pre1_ne _ h)] at e
        exact ih _ _ e
theorem tl_sp : tl (" " : Str) = [32] := by decide +kernel
theorem tl_nl : tl ("\n" : Str) = [10] := by decide +kernel
theorem sp_all : ((" " : Str)).cps.all (· < 256) = true := by decide +kernel
theorem nl_all : (("\n" : Str)).cps.all (· < 256) = true := by decide +kernel
theorem split_sp (x : Str) : (Txt.split x " ").map tl = spl [32] 0 [] (tl x) := by
  rw [split_spl x " " (by rw [tl_sp]; simp) (kind_ok sp_all), tl_sp]
theorem split_app (x y : Str) : Txt.split (x ++ (" " : Str) ++ y) " " = Txt.split x " " ++ Txt.split y " " := by
  refine map_tl_inj ?_
  rw [List.map_append, split_sp, split_sp, split_sp, tl_append, tl_append, tl_sp, List.append_assoc]
  exact spl1_app 32 (tl x) [] (tl y)
theorem split_one {x : Str} (h : 32 ∉ tl x) : Txt.split x " " = [x] := by
  refine map_tl_inj ?_
  rw [split_sp, spl_last1 h]
  rfl
theorem join_split (x : Str) : Str.join " " (Txt.split x " ") = x := by
  refine ext_tl ?_
  rw [tl_join, split_sp, tl_sp, spl1_join 32 (tl x) [], List.nil_append]
theorem split_ne (x : Str) : Txt.split x " " ≠ [] := fun e => by
  have z := split_sp x
  rw [e] at z
  exact spl1_ne 32 (tl x) [] z.symm
theorem split_nl_ne (x : Str) : Txt.split x "\n" ≠ [] := fun e => by
  have z := split_spl x "\n" (by rw [tl_nl]; simp) (kind_ok nl_all)
  rw [e, tl_nl] at z
  exact spl1_ne 10 (tl x) [] z.symm
/-! ### words without blanks -/
def Plain (w : Str) : Prop := 32 ∉ tl w ∧ 10 ∉ tl w
def NoNl (w : Str) : Prop := 10 ∉ tl w
instance (w : Str) : Decidable (Plain w) := inferInstanceAs (Decidable (_ ∧ _))
instance (w : Str) : Decidable (NoNl w) := inferInstanceAs (Decidable (_ ∉ _))
theorem NoNl.app {x y : Str} (h : NoNl x) (k : NoNl y) : NoNl (x ++ y) := by
  unfold NoNl at *
  rw [tl_append, List.mem_append]
  exact fun z => z.elim h k
theorem join_cons2 (s x y : Str) (r : List Str) : Str.join s (x :: y :: r) = x ++ s ++ Str.join s (y :: r) := rfl
theorem split_joinP {ws : List Str} (hne : ws ≠ []) (h : ∀ w ∈ ws, Plain w) : Txt.split (Str.join " " ws) " " = ws := by
  have := split_join (y := (" " : Str)) (s := 32) (S := []) tl_sp sp_all hne (fun p hp => (h p hp).1)
  rwa [join_eq] at this
theorem nonl_join {s : Str} (hs : NoNl s) : ∀ {ws : List Str}, (∀ w ∈ ws, NoNl w) → NoNl (Str.join s ws)
  | [], _ => fun z => by cases z
  | [x], h => h x (List.mem_singleton.mpr rfl)
  | x :: y :: r, h => ((h x (List.mem_cons_self ..)).app hs).app (nonl_join hs fun w hw => h w (List.mem_cons_of_mem _ hw))
theorem within_ne {lo hi c : Nat} {l : List Nat} (h : within lo hi l = true) (hc : c < lo ∨ hi < c) : c ∉ l := fun hm => by
  have := List.all_eq_true.mp h c hm
  simp only [Bool.and_eq_true, decide_eq_true_eq] at this
  omega
theorem plain_small {w : Str} (h : small w = true) : Plain w := by
  unfold small at h
  rw [Bool.and_eq_true] at h
  exact ⟨within_ne h.2 (by omega), within_ne h.2 (by omega)⟩
theorem plain_class {w : Str} (h : className w = true) : Plain w := by
  unfold className at h
  rw [Bool.and_eq_true, Bool.and_eq_true] at h
  have e : tl w = (tl w).take 1 ++ (tl w).drop 1 := (List.take_append_drop 1 _).symm
  constructor
  · rw [e, List.mem_append]
    exact fun z => z.elim (within_ne h.1.2 (by omega)) (within_ne h.2 (by omega))
  · rw [e, List.mem_append]
    exact fun z => z.elim (within_ne h.1.2 (by omega)) (within_ne h.2 (by omega))
theorem plain_field {w : Str} (h : fieldName w = true) : Plain w := by
  unfold fieldName at h
  rw [Bool.and_eq_true] at h
  exact plain_small h.1
theorem plain_of {l : List Str} (h : ∀ w ∈ l, Plain w) {w : Str} (k : l.contains w = true) : Plain w := h w (List.contains_iff_mem.mp k)
/-! ### the rows of a library -/
def opRow (o : Op) : Rw :=
  if arity o.sign = 0 then ([("make" : Str), o.sign, ("by" : Str)] : Rw) ++ Txt.split o.maker " "
  else if o.changed = [] then ([o.sign, ("by" : Str)] : Rw) ++ Txt.split o.maker " "
  else ([o.sign, ("changes" : Str)] : Rw) ++ o.changed ++ ([("by" : Str)] : Rw) ++ Txt.split o.maker " "
def rootRows (n : Str) (ps : List Str) (kept : List (Str × Str)) (hook : Option Str) : List Rw :=
  ([[("library" : Str), n]] : List Rw) ++ ps.map (fun p => [("needs" : Str), p]) ++ kept.map (fun p => [("keeps" : Str), p.1, ("of" : Str), p.2]) ++ (match hook with | some h => [[("hook" : Str), h]] | none => [])
def rowsOf (L : Lib) : List Rw := rootRows L.name L.ps L.kept L.hook ++ L.ops.map opRow
/-- names that make no trouble in a text -/
structure Clean (L : Lib) : Prop where
  name : Plain L.name
  ps : ∀ p ∈ L.ps, Plain p
  kept : ∀ p ∈ L.kept, Plain p.1 ∧ Plain p.2
  hook : ∀ h, L.hook = some h → Plain h
  ops : ∀ o ∈ L.ops, Plain o.sign ∧ (∀ p ∈ o.changed, Plain p) ∧ NoNl o.maker
theorem split_two {x y : Str} (hx : Plain x) (hy : Plain y) : Txt.split (x ++ (" " : Str) ++ y) " " = [x, y] := by
  rw [split_app, split_one hx.1, split_one hy.1]
  rfl
theorem app_assoc (x y z : Str) : x ++ y ++ z = x ++ (y ++ z) := ext_tl (by simp only [tl_append, List.append_assoc])
theorem opLine_row {o : Op} (h : Plain o.sign) (hc : ∀ p ∈ o.changed, Plain p) : Txt.split (opLine o) " " = opRow o := by
  unfold opLine opRow
  have e1 : ("make " : Str) = ("make" : Str) ++ (" " : Str) := by decide +kernel
  have e2 : (" by " : Str) = (" " : Str) ++ ("by" : Str) ++ (" " : Str) := by decide +kernel
  have e3 : (" changes " : Str) = (" " : Str) ++ ("changes" : Str) ++ (" " : Str) := by decide +kernel
  have b : Txt.split ("by" : Str) " " = [("by" : Str)] := split_one (x := ("by" : Str)) (by decide +kernel)
  have m : Txt.split ("make" : Str) " " = [("make" : Str)] := split_one (x := ("make" : Str)) (by decide +kernel)
  have c : Txt.split ("changes" : Str) " " = [("changes" : Str)] := split_one (x := ("changes" : Str)) (by decide +kernel)
  by_cases h0 : arity o.sign = 0
  · rw [if_pos h0, if_pos h0, e1, e2]
    have e : ("make" : Str) ++ (" " : Str) ++ o.sign ++ ((" " : Str) ++ ("by" : Str) ++ (" " : Str)) ++ o.maker = ("make" : Str) ++ (" " : Str) ++ (o.sign ++ (" " : Str) ++ (("by" : Str) ++ (" " : Str) ++ o.maker)) := by
      simp only [app_assoc]
    rw [e, split_app, split_app, split_app, m, b, split_one h.1]
    rfl
  · rw [if_neg h0, if_neg h0]
    by_cases h1 : o.changed = []
    · rw [if_pos h1, if_pos h1, e2]
      have e : o.sign ++ ((" " : Str) ++ ("by" : Str) ++ (" " : Str)) ++ o.maker = o.sign ++ (" " : Str) ++ (("by" : Str) ++ (" " : Str) ++ o.maker) := by simp only [app_assoc]
      rw [e, split_app, split_app, b, split_one h.1]
      rfl
    · rw [if_neg h1, if_neg h1, e2, e3]
      have e : o.sign ++ ((" " : Str) ++ ("changes" : Str) ++ (" " : Str)) ++ Str.join " " o.changed ++ ((" " : Str) ++ ("by" : Str) ++ (" " : Str)) ++ o.maker
          = o.sign ++ (" " : Str) ++ (("changes" : Str) ++ (" " : Str) ++ (Str.join " " o.changed ++ (" " : Str) ++ (("by" : Str) ++ (" " : Str) ++ o.maker))) := by simp only [app_assoc]
      rw [e, split_app, split_app, split_app, split_app, b, c, split_one h.1, split_joinP h1 hc]
      simp only [List.append_assoc, List.cons_append, List.nil_append]
theorem lines_rows {L : Lib} (C : Clean L) : (linesM L).map (fun l => Txt.split l " ") = rowsOf L := by
  unfold linesM rowsOf rootLines rootRows
  have k2 : ∀ {w : Str} (x : Str), Plain w → Plain x → Txt.split (w ++ (" " : Str) ++ x) " " = [w, x] := fun x hw hx => split_two hw hx
  have e1 : ("library " : Str) = ("library" : Str) ++ (" " : Str) := by decide +kernel
  have e2 : ("needs " : Str) = ("needs" : Str) ++ (" " : Str) := by decide +kernel
  have e3 : ("keeps " : Str) = ("keeps" : Str) ++ (" " : Str) := by decide +kernel
  have e4 : (" of " : Str) = (" " : Str) ++ ("of" : Str) ++ (" " : Str) := by decide +kernel
  have e5 : ("hook " : Str) = ("hook" : Str) ++ (" " : Str) := by decide +kernel
  simp only [List.map_append, List.map_map]
  congr 1
  · congr 1
    · congr 1
      · congr 1
        · show [Txt.split (("library " : Str) ++ L.name) " "] = _
          rw [e1, k2 _ (by decide +kernel) C.name]
        · refine List.map_congr_left fun p hp => ?_
          show Txt.split (("needs " : Str) ++ p) " " = _
          rw [e2, k2 _ (by decide +kernel) (C.ps p hp)]
      · refine List.map_congr_left fun p hp => ?_
        show Txt.split (("keeps " : Str) ++ p.1 ++ (" of " : Str) ++ p.2) " " = _
        have e : ("keeps" : Str) ++ (" " : Str) ++ p.1 ++ ((" " : Str) ++ ("of" : Str) ++ (" " : Str)) ++ p.2 = ("keeps" : Str) ++ (" " : Str) ++ (p.1 ++ (" " : Str) ++ (("of" : Str) ++ (" " : Str) ++ p.2)) := by simp only [app_assoc]
        rw [e3, e4, e, split_app, split_app, split_app, split_one (by decide +kernel), split_one (C.kept p hp).1.1, split_one (by decide +kernel), split_one (C.kept p hp).2.1]
        rfl
    · cases e : L.hook with
      | none => rfl
      | some h =>
        show [Txt.split (("hook " : Str) ++ h) " "] = _
        rw [e5, k2 _ (by decide +kernel) (C.hook h e)]
  · refine List.map_congr_left fun o ho => ?_
    exact opLine_row (C.ops o ho).1 (C.ops o ho).2.1
theorem lines_ne (L : Lib) : linesM L ≠ [] := by
  unfold linesM rootLines
  simp
theorem nonl_lit {z : Str} (h : (tl z).contains 10 = false) : NoNl z := fun k => by
  rw [List.contains_iff_mem.mpr k] at h
  cases h
theorem lines_nl {L : Lib} (C : Clean L) : ∀ l ∈ linesM L, NoNl l := by
  intro l hl
  unfold linesM rootLines at hl
  simp only [List.mem_append, List.mem_map] at hl
  have a1 : NoNl ("library " : Str) := nonl_lit (by decide +kernel)
  have a2 : NoNl ("needs " : Str) := nonl_lit (by decide +kernel)
  have a3 : NoNl ("keeps " : Str) := nonl_lit (by decide +kernel)
  have a4 : NoNl (" of " : Str) := nonl_lit (by decide +kernel)
  have a5 : NoNl ("hook " : Str) := nonl_lit (by decide +kernel)
  have a6 : NoNl ("make " : Str) := nonl_lit (by decide +kernel)
  have a7 : NoNl (" by " : Str) := nonl_lit (by decide +kernel)
  have a8 : NoNl (" changes " : Str) := nonl_lit (by decide +kernel)
  have a9 : NoNl (" " : Str) := nonl_lit (by decide +kernel)
  rcases hl with (((hl | ⟨p, hp, rfl⟩) | ⟨p, hp, rfl⟩) | hl) | ⟨o, ho, rfl⟩
  · rw [List.mem_singleton.mp hl]
    exact a1.app C.name.2
  · exact a2.app (C.ps p hp).2
  · exact ((a3.app (C.kept p hp).1.2).app a4).app (C.kept p hp).2.2
  · cases e : L.hook with
    | none => rw [e] at hl; cases hl
    | some h =>
      rw [e] at hl
      rw [List.mem_singleton.mp hl]
      exact a5.app (C.hook h e).2
  · obtain ⟨h1, h2, h3⟩ := C.ops o ho
    unfold opLine
    split
    · exact ((a6.app h1.2).app a7).app h3
    · split
      · exact (NoNl.app (x := o.sign) h1.2 a7).app h3
      · exact (((NoNl.app (x := o.sign) h1.2 a8).app (nonl_join a9 fun w hw => (h2 w hw).2)).app a7).app h3
theorem rows_text {L : Lib} (C : Clean L) : rowsM (textM L) = rowsOf L := by
  unfold rowsM textM
  have := split_join (y := ("\n" : Str)) (s := 10) (S := []) tl_nl nl_all (lines_ne L) (fun p hp => lines_nl C p hp)
  rw [join_eq] at this
  rw [this]
  exact lines_rows C
end LM

/-! the rows of a right library, read -/
namespace LM
open PySem TL L2
def KeptOk : List Str → List (Str × Str) → Prop
  | _, [] => True
  | known, p :: r => fieldName p.1 = true ∧ p.1 ∉ known ∧ p.2 ∈ known ∧ KeptOk (known ++ [p.1]) r
structure RootOk (n : Str) (ps : List Str) (kept : List (Str × Str)) (hook : Option Str) : Prop where
  name : className n = true
  ps0 : ps ≠ []
  ps3 : ps.length ≤ 3
  pf : ∀ p ∈ ps, fieldName p = true
  nd : ps.Nodup
  kept2 : kept.length ≤ 2
  ko : KeptOk ps kept
  hk : ∀ h, hook = some h → h ∈ rootHooks
def needsR (p : Str) : Rw := [("needs" : Str), p]
def keepsR (p : Str × Str) : Rw := [("keeps" : Str), p.1, ("of" : Str), p.2]
theorem needs_none {a : Str} {t : List Str} {found : List Str} (h : a ≠ "needs") : needsRow (a :: t) found = none := by
  unfold needsRow
  split
  · rename_i x f e
    have e1 : a = x := by injection e
    have : (x == ("needs" : Str)) = false := by rw [← e1]; simpa using h
    rw [this]
    rfl
  · rfl
theorem keeps_none {a : Str} {t : List Str} {known : List Str} (h : a ≠ "keeps") : keepsRow (a :: t) known = none := by
  unfold keepsRow
  split
  · rename_i x f o s e
    have e1 : a = x := by injection e
    have : (x == ("keeps" : Str)) = false := by rw [← e1]; simpa using h
    rw [this]
    rfl
  · rfl
theorem hook_none {a : Str} {t : List Str} (h : a ≠ "hook") : hookRow (a :: t) = false := by
  unfold hookRow
  split
  · rename_i x f e
    have e1 : a = x := by injection e
    have : (x == ("hook" : Str)) = false := by rw [← e1]; simpa using h
    rw [this]
    rfl
  · rfl
theorem params_stop {rest : List Rw} {found : List Str} (h : ∀ r ∈ rest.head?, needsRow r found = none) : paramsM rest found = found := by
  cases rest with
  | nil => rfl
  | cons r rs =>
    unfold paramsM
    rw [h r rfl]
theorem params_run : ∀ (ps found : List Str) (rest : List Rw), (∀ p ∈ ps, fieldName p = true) → (found ++ ps).Nodup → (∀ r ∈ rest.head?, needsRow r (found ++ ps) = none) → paramsM (ps.map needsR ++ rest) found = found ++ ps
  | [], found, rest, _, _, h => by
    rw [List.append_nil] at h ⊢
    exact params_stop h
  | p :: ps, found, rest, hf, nd, h => by
    have e : found ++ p :: ps = (found ++ [p]) ++ ps := by rw [List.append_assoc]; rfl
    have np : p ∉ found := by
      intro hm
      rw [List.nodup_append] at nd
      exact nd.2.2 p hm p (List.mem_cons_self ..) rfl
    have q : needsRow (needsR p) found = some p := by
      show (if (("needs" : Str) == "needs") && fieldName p && !found.contains p then some p else none) = some p
      rw [hf p (List.mem_cons_self ..), show found.contains p = false by simpa using np]
      rfl
    show paramsM (needsR p :: (ps.map needsR ++ rest)) found = _
    unfold paramsM
    rw [q]
    rw [e] at nd h ⊢
    exact params_run ps (found ++ [p]) rest (fun z hz => hf z (List.mem_cons_of_mem _ hz)) nd h
theorem kept_stop {rest : List Rw} {known : List Str} {found : List (Str × Str)} (h : ∀ r ∈ rest.head?, ∀ kn, keepsRow r kn = none) : keptM rest known found = found := by
  cases rest with
  | nil => rfl
  | cons r rs =>
    unfold keptM
    rw [h r rfl]
theorem kept_run : ∀ (kept : List (Str × Str)) (known : List Str) (found : List (Str × Str)) (rest : List Rw), KeptOk known kept → (∀ r ∈ rest.head?, ∀ kn, keepsRow r kn = none) → keptM (kept.map keepsR ++ rest) known found = found ++ kept
  | [], known, found, rest, _, h => by
    rw [List.append_nil]
    exact kept_stop h
  | p :: r, known, found, rest, ko, h => by
    obtain ⟨k1, k2, k3, k4⟩ := ko
    have q : keepsRow (keepsR p) known = some p := by
      show (if (("keeps" : Str) == "keeps") && (("of" : Str) == "of") && fieldName p.1 && !known.contains p.1 && known.contains p.2 then some (p.1, p.2) else none) = some p
      rw [k1, show known.contains p.1 = false by simpa using k2, show known.contains p.2 = true by simpa using k3]
      rfl
    show keptM (keepsR p :: (r.map keepsR ++ rest)) known found = _
    unfold keptM
    rw [q]
    have e : found ++ p :: r = (found ++ [p]) ++ r := by rw [List.append_assoc]; rfl
    rw [e]
    exact kept_run r _ _ rest k4 h
/-- rows that begin no root line -/
def Free (R : List Rw) : Prop := ∀ r ∈ R, ∃ a t, r = a :: t ∧ a ≠ ("needs" : Str) ∧ a ≠ ("keeps" : Str) ∧ a ≠ ("hook" : Str)
def hookRows (hook : Option Str) : List Rw := match hook with | some h => [[("hook" : Str), h]] | none => []
theorem read_root {n : Str} {ps : List Str} {kept : List (Str × Str)} {hook : Option Str} {R : List Rw} (C : RootOk n ps kept hook) (F : Free R) :
    readRows (rootRows n ps kept hook ++ R) = match opsOf (rootRows n ps kept hook ++ R) (rootRows n ps kept hook).length ps hook with
      | .error k => .error k
      | .ok ops => .ok ⟨n, ps, kept, hook, ops⟩ := by
  have er : rootRows n ps kept hook ++ R = [("library" : Str), n] :: (ps.map needsR ++ (kept.map keepsR ++ (hookRows hook ++ R))) := by
    unfold rootRows hookRows
    simp only [List.append_assoc, List.cons_append, List.nil_append]
    rfl
  have el : (rootRows n ps kept hook).length = 1 + ps.length + kept.length + (hookRows hook).length := by
    unfold rootRows hookRows
    first
      | (simp only [List.length_append, List.length_map, List.length_cons, List.length_nil, Nat.zero_add]; cases hook <;> rfl)
      | simp only [List.length_append, List.length_map, List.length_cons, List.length_nil, Nat.zero_add]
  rw [er, el]
  generalize hrows : [("library" : Str), n] :: (ps.map needsR ++ (kept.map keepsR ++ (hookRows hook ++ R))) = rows
  have h1 : rows.headD [] = [("library" : Str), n] := by rw [← hrows]; rfl
  have d1 : rows.drop 1 = ps.map needsR ++ (kept.map keepsR ++ (hookRows hook ++ R)) := by rw [← hrows]; rfl
  have hdF : ∀ r ∈ (hookRows hook ++ R).head?, (∀ kn, keepsRow r kn = none) ∧ ∀ f, needsRow r f = none := by
    intro r hr
    cases hook with
    | some h =>
      obtain rfl : [("hook" : Str), h] = r := by simpa [hookRows] using hr
      exact ⟨fun kn => keeps_none (by decide +kernel), fun f => needs_none (by decide +kernel)⟩
    | none =>
      cases R with
      | nil => cases hr
      | cons x xs =>
        obtain rfl : x = r := by simpa [hookRows] using hr
        obtain ⟨a, t, rfl, a1, a2, a3⟩ := F _ (List.mem_cons_self ..)
        exact ⟨fun kn => keeps_none a2, fun f => needs_none a1⟩
  have hP : paramsM ((rows.drop 1).take 3) [] = ps := by
    rw [d1, List.take_append, List.take_of_length_le (by rw [List.length_map]; exact C.ps3)]
    rw [params_run ps [] _ C.pf (by simpa using C.nd) ?_]
    · rfl
    · intro r hr
      have hr2 : r ∈ (kept.map keepsR ++ (hookRows hook ++ R)).head? := by
        rw [List.length_map] at hr
        cases e : 3 - ps.length with
        | zero => rw [e, List.take_zero] at hr; cases hr
        | succ j =>
          rw [e] at hr
          cases z : kept.map keepsR ++ (hookRows hook ++ R) with
          | nil => rw [z] at hr; cases hr
          | cons x xs => rw [z] at hr; exact hr
      cases kept with
      | nil => exact (hdF r hr2).2 _
      | cons p q =>
        obtain rfl : keepsR p = r := by simpa using hr2
        exact needs_none (by decide +kernel)
  have d2 : rows.drop (1 + ps.length) = kept.map keepsR ++ (hookRows hook ++ R) := by
    rw [← List.drop_drop, d1]
    exact List.drop_left' (by rw [List.length_map])
  have hK : keptM ((rows.drop (1 + ps.length)).take 2) ps [] = kept := by
    rw [d2, List.take_append, List.take_of_length_le (by rw [List.length_map]; exact C.kept2)]
    rw [kept_run kept ps [] _ C.ko ?_]
    · rfl
    · intro r hr
      have hr2 : r ∈ (hookRows hook ++ R).head? := by
        rw [List.length_map] at hr
        cases e : 2 - kept.length with
        | zero => rw [e, List.take_zero] at hr; cases hr
        | succ j =>
          rw [e] at hr
          cases z : hookRows hook ++ R with
          | nil => rw [z] at hr; cases hr
          | cons x xs => rw [z] at hr; exact hr
      exact (hdF r hr2).1
  have d3 : rows.drop (1 + ps.length + kept.length) = hookRows hook ++ R := by
    rw [← List.drop_drop, d2]
    exact List.drop_left' (by rw [List.length_map])
  have g3 : rows[1 + ps.length + kept.length]? = (hookRows hook ++ R).head? := by
    rw [← d3, List.head?_drop]
  have hH : hookAt rows (1 + ps.length + kept.length) = hook := by
    unfold hookAt
    rw [g3]
    cases hook with
    | some h =>
      have q : hookRow [("hook" : Str), h] = true := by
        show ((("hook" : Str) == "hook") && rootHooks.contains h) = true
        rw [show rootHooks.contains h = true by simpa using C.hk h rfl]
        rfl
      show (if hookRow [("hook" : Str), h] then some h else none) = some h
      rw [q]
      rfl
    | none =>
      cases R with
      | nil => rfl
      | cons x xs =>
        obtain ⟨a, t, rfl, a1, a2, a3⟩ := F _ (List.mem_cons_self ..)
        show (if hookRow (a :: t) then some ((a :: t).getD 1 "") else none) = none
        rw [hook_none a3]
        rfl
  have hE : ps.isEmpty = false := by
    cases ps with
    | nil => exact absurd rfl C.ps0
    | cons _ _ => rfl
  have hF : firstRow [("library" : Str), n] = true := by
    show ((("library" : Str) == "library") && className n) = true
    rw [C.name]
    rfl
  unfold readRows
  simp only [h1, hF, hP, hE, hK, hH, Bool.not_true, Bool.false_eq_true, if_false]
  have h3 : (if hook.isSome = true then 1 + ps.length + kept.length + 1 else 1 + ps.length + kept.length) = 1 + ps.length + kept.length + (hookRows hook).length := by
    cases hook <;> rfl
  rw [h3]
  rfl
theorem opsOf_root {n : Str} {ps : List Str} {kept : List (Str × Str)} {hook : Option Str} {R : List Rw} (h : R ≠ []) :
    opsOf (rootRows n ps kept hook ++ R) (rootRows n ps kept hook).length ps hook = opsM ps hook (rootRows n ps kept hook).length R [] := by
  unfold opsOf
  rw [if_neg ?_, List.drop_left]
  rw [List.length_append]
  have := List.length_pos_iff.mpr h
  omega
/-! ### operations -/
/-- sign and changed parameters are right; a request changes all -/
structure OpForm (ps : List Str) (o : Op) : Prop where
  sg : binary.contains o.sign = true ∨ unary.contains o.sign = true ∨ (request o.sign = true ∧ o.changed = ps)
  ch : o.changed = ps.filter fun f => o.changed.contains f
  nb : ∀ p ∈ o.changed, p ≠ ("by" : Str)
theorem free_op {ps : List Str} {o : Op} (h : OpForm ps o) (hr : arity o.sign = 0 ∨ binary.contains o.sign = true ∨ unary.contains o.sign = true) : ∃ a t, opRow o = a :: t ∧ a ≠ ("needs" : Str) ∧ a ≠ ("keeps" : Str) ∧ a ≠ ("hook" : Str) := by
  unfold opRow
  by_cases h0 : arity o.sign = 0
  · rw [if_pos h0]
    exact ⟨("make" : Str), _, rfl, by decide +kernel, by decide +kernel, by decide +kernel⟩
  · rw [if_neg h0]
    have hb : o.sign ∈ binary ∨ o.sign ∈ unary := by
      rcases hr with hr | hr | hr
      · exact absurd hr h0
      · exact .inl (List.contains_iff_mem.mp hr)
      · exact .inr (List.contains_iff_mem.mp hr)
    have key : ∀ s ∈ binary ++ unary, s ≠ ("needs" : Str) ∧ s ≠ ("keeps" : Str) ∧ s ≠ ("hook" : Str) := by decide +kernel
    have k := key o.sign (List.mem_append.mpr hb)
    split
    · exact ⟨o.sign, _, rfl, k.1, k.2.1, k.2.2⟩
    · exact ⟨o.sign, _, rfl, k.1, k.2.1, k.2.2⟩
theorem arity_bin {s : Str} (h : binary.contains s = true) : arity s = 2 := by
  unfold arity
  rw [if_pos h]
theorem arity_un {s : Str} (h : binary.contains s = false) (h2 : unary.contains s = true) : arity s = 1 := by
  unfold arity
  rw [h, h2]
  rfl
theorem bin_not_small : ∀ s ∈ binary, small s = false := by decide +kernel
theorem arity_req {s : Str} (h : request s = true) : arity s = 0 ∧ binary.contains s = false ∧ unary.contains s = false := by
  unfold request at h
  rw [Bool.and_eq_true, Bool.not_eq_true'] at h
  have hb : binary.contains s = false := by
    cases e : binary.contains s with
    | false => rfl
    | true =>
      have z := bin_not_small s (List.contains_iff_mem.mp e)
      rw [h.1] at z
      cases z
  refine ⟨?_, hb, h.2⟩
  unfold arity
  rw [hb, h.2]
  rfl
theorem findIdx_by {pre : List Str} {rest : List Str} (h : ∀ p ∈ pre, p ≠ ("by" : Str)) : (pre ++ ("by" : Str) :: rest).findIdx (· == ("by" : Str)) = pre.length := by
  rw [List.findIdx_append]
  have : pre.findIdx (· == ("by" : Str)) = pre.length := List.findIdx_eq_length.mpr fun x hx => by simpa using h x hx
  rw [this]
  simp [List.findIdx_cons]
theorem opM_row {ps : List Str} {o : Op} (h : OpForm ps o) (hps : ps ≠ []) : opM (opRow o) ps = if (makersOf (arity o.sign)).contains o.maker then some o else none := by
  by_cases hr : request o.sign = true ∧ binary.contains o.sign = false ∧ unary.contains o.sign = false
  · obtain ⟨hq, hb, hu⟩ := hr
    have ec : o.changed = ps := by
      rcases h.sg with z | z | z
      · rw [z] at hb; cases hb
      · rw [z] at hu; cases hu
      · exact z.2
    obtain ⟨a0, _, _⟩ := arity_req hq
    have e : opRow o = ("make" : Str) :: o.sign :: ("by" : Str) :: Txt.split o.maker " " := by
      unfold opRow
      rw [if_pos a0]
      rfl
    rw [e, a0]
    show requestM (("make" : Str) :: o.sign :: ("by" : Str) :: Txt.split o.maker " ") ps = _
    unfold requestM
    simp only [join_split]
    show (if (("by" : Str) == "by") && request o.sign && makers0.contains o.maker then some (⟨o.sign, ps, o.maker⟩ : Op) else none) = if makers0.contains o.maker then some o else none
    rw [hq, ← ec]
    rfl
  · have hs : binary.contains o.sign = true ∨ unary.contains o.sign = true := by
      rcases h.sg with z | z | z
      · exact .inl z
      · exact .inr z
      · exact absurd ⟨z.1, (arity_req z.1).2⟩ hr
    have a0 : arity o.sign ≠ 0 := by
      rcases hs with z | z
      · rw [arity_bin z]; decide
      · cases e : binary.contains o.sign with
        | true => rw [arity_bin e]; decide
        | false => rw [arity_un e z]; decide
    have nm : o.sign ≠ ("make" : Str) := by
      have key : ∀ s ∈ binary ++ unary, s ≠ ("make" : Str) := by decide +kernel
      exact key o.sign (List.mem_append.mpr (hs.imp (fun z => List.contains_iff_mem.mp z) fun z => List.contains_iff_mem.mp z))
    have hpre : ∃ pre : List Str, opRow o = o.sign :: (pre ++ ("by" : Str) :: Txt.split o.maker " ") ∧ (∀ p ∈ pre, p ≠ ("by" : Str)) ∧ selection pre ps = true ∧ pre.drop 1 = o.changed := by
      unfold opRow
      rw [if_neg a0]
      by_cases hc : o.changed = []
      · rw [if_pos hc]
        exact ⟨[], rfl, (fun p hp => by cases hp), rfl, by rw [hc]; rfl⟩
      · rw [if_neg hc]
        refine ⟨("changes" : Str) :: o.changed, by simp, ?_, ?_, rfl⟩
        · intro p hp
          rcases List.mem_cons.mp hp with rfl | hp
          · decide +kernel
          · exact h.nb p hp
        · have e1 : o.changed.isEmpty = false := by
            cases e : o.changed with
            | nil => exact absurd e hc
            | cons _ _ => rfl
          show ((("changes" : Str) == "changes") && !o.changed.isEmpty && decide (o.changed = ps.filter fun f => o.changed.contains f)) = true
          rw [e1, decide_eq_true h.ch]
          rfl
    obtain ⟨pre, e, hb, hsel, hd⟩ := hpre
    rw [e]
    unfold opM
    have n1 : (o.sign == ("make" : Str)) = false := by simpa using nm
    have n2 : (!binary.contains o.sign && !unary.contains o.sign) = false := by
      rcases hs with z | z <;> rw [z] <;> simp
    have n3 : (pre ++ ("by" : Str) :: Txt.split o.maker " ").contains "by" = true := by simp
    have ft : (pre ++ ("by" : Str) :: Txt.split o.maker " ").take pre.length = pre := List.take_left
    have fd : (pre ++ ("by" : Str) :: Txt.split o.maker " ").drop (pre.length + 1) = Txt.split o.maker " " := by
      rw [← List.drop_drop, List.drop_left]
      rfl
    simp only [n1, n2, n3, findIdx_by hb, ft, fd, join_split, hsel, hd, Bool.not_true, Bool.or_false, Bool.false_eq_true, if_false]
    cases (makersOf (arity o.sign)).contains o.maker <;> rfl
/-- the maker is allowed -/
def mkOk (hook : Option Str) (o : Op) : Bool := (makersOf (arity o.sign)).contains o.maker && !(o.maker == "hook" && hook.isNone)
theorem ops_run {ps : List Str} {hook : Option Str} (hps : ps ≠ []) : ∀ (ops : List Op) (k : Nat) (found : List Op), (∀ o ∈ ops, OpForm ps o) → found.length + ops.length ≤ 6 → ((found ++ ops).map (·.sign)).Nodup →
    (ops.all (mkOk hook) = true → opsM ps hook k (ops.map opRow) found = .ok (found ++ ops)) ∧ (ops.all (mkOk hook) = false → ∃ i, opsM ps hook k (ops.map opRow) found = .error i)
  | [], k, found, _, _, _ => ⟨fun _ => by rw [List.append_nil]; rfl, fun h => by cases h⟩
  | o :: ops, k, found, hf, hl, nd => by
    have e : found ++ o :: ops = (found ++ [o]) ++ ops := by rw [List.append_assoc]; rfl
    have hl' : found.length + 1 + ops.length ≤ 6 := by
      rw [List.length_cons] at hl
      omega
    have nn : (found.map (·.sign)).contains o.sign = false := by
      rw [List.map_append, List.nodup_append] at nd
      cases z : (found.map (·.sign)).contains o.sign with
      | false => rfl
      | true => exact absurd rfl (nd.2.2 o.sign (List.contains_iff_mem.mp z) o.sign (List.mem_cons_self ..))
    have ih := ops_run (hook := hook) hps ops (k + 1) (found ++ [o]) (fun z hz => hf z (List.mem_cons_of_mem _ hz)) (by rw [List.length_append]; exact hl') (by rw [← e]; exact nd)
    have step : opsM ps hook k (opRow o :: ops.map opRow) found = if mkOk hook o = true then opsM ps hook (k + 1) (ops.map opRow) (found ++ [o]) else .error k := by
      show (match opM (opRow o) ps with
        | none => Except.error k
        | some (o : Op) => if found.length = 6 || (found.map (fun z : Op => z.sign)).contains o.sign || (o.maker == "hook" && hook.isNone) then .error k else opsM ps hook (k + 1) (ops.map opRow) (found ++ [o])) = _
      rw [opM_row (hf o (List.mem_cons_self ..)) hps]
      unfold mkOk
      cases (makersOf (arity o.sign)).contains o.maker with
      | false => rfl
      | true =>
        show (if decide (found.length = 6) || (found.map (fun z : Op => z.sign)).contains o.sign || (o.maker == "hook" && hook.isNone) then Except.error k else opsM ps hook (k + 1) (ops.map opRow) (found ++ [o])) = _
        rw [nn, show decide (found.length = 6) = false from decide_eq_false (by omega)]
        cases (o.maker == ("hook" : Str) && hook.isNone) <;> rfl
    show (_ → opsM ps hook k (opRow o :: ops.map opRow) found = _) ∧ (_ → ∃ i, opsM ps hook k (opRow o :: ops.map opRow) found = _)
    rw [step, e]
    cases hm : mkOk hook o with
    | true =>
      refine ⟨fun h => ?_, fun h => ?_⟩
      · rw [if_pos rfl]
        rw [List.all_cons, hm, Bool.true_and] at h
        exact ih.1 h
      · rw [if_pos rfl]
        rw [List.all_cons, hm, Bool.true_and] at h
        exact ih.2 h
    | false =>
      refine ⟨fun h => ?_, fun _ => ⟨k, rfl⟩⟩
      rw [List.all_cons, hm] at h
      cases h
/-- a library whose makers may be any words -/
structure LibOk (L : Lib) : Prop where
  root : RootOk L.name L.ps L.kept L.hook
  ops0 : L.ops ≠ []
  ops6 : L.ops.length ≤ 6
  nd : (L.ops.map (·.sign)).Nodup
  form : ∀ o ∈ L.ops, OpForm L.ps o
  nl : ∀ o ∈ L.ops, NoNl o.maker
theorem kept_plain : ∀ {kept : List (Str × Str)} {known : List Str}, KeptOk known kept → (∀ p ∈ known, Plain p) → ∀ p ∈ kept, Plain p.1 ∧ Plain p.2
  | [], _, _, _, p, hp => by cases hp
  | q :: r, known, ko, hk, p, hp => by
    obtain ⟨k1, k2, k3, k4⟩ := ko
    rcases List.mem_cons.mp hp with rfl | hp
    · exact ⟨plain_field k1, hk _ k3⟩
    · refine kept_plain k4 (fun z hz => ?_) p hp
      rcases List.mem_append.mp hz with hz | hz
      · exact hk z hz
      · rw [List.mem_singleton.mp hz]
        exact plain_field k1
theorem LibOk.clean {L : Lib} (h : LibOk L) : Clean L := by
  have hp : ∀ p ∈ L.ps, Plain p := fun p hp => plain_field (h.root.pf p hp)
  refine ⟨plain_class h.root.name, hp, kept_plain h.root.ko hp, fun w hw => ?_, fun o ho => ⟨?_, fun p hq => ?_, h.nl o ho⟩⟩
  · have key : ∀ s ∈ rootHooks, Plain s := by decide +kernel
    exact key w (h.root.hk w hw)
  · have key : ∀ s ∈ binary ++ unary, Plain s := by decide +kernel
    rcases (h.form o ho).sg with z | z | z
    · exact key _ (List.mem_append.mpr (.inl (List.contains_iff_mem.mp z)))
    · exact key _ (List.mem_append.mpr (.inr (List.contains_iff_mem.mp z)))
    · unfold request at z
      rw [Bool.and_eq_true] at z
      exact plain_small z.1.1
  · rw [(h.form o ho).ch] at hq
    exact hp p (List.mem_filter.mp hq).1
theorem LibOk.free {L : Lib} (h : LibOk L) : Free (L.ops.map opRow) := by
  intro r hr
  obtain ⟨o, ho, rfl⟩ := List.mem_map.mp hr
  refine free_op (h.form o ho) ?_
  rcases (h.form o ho).sg with z | z | z
  · exact .inr (.inl z)
  · exact .inr (.inr z)
  · exact .inl (arity_req z.1).1
/-- THE TEXT IS READ BACK, if and only if its makers are allowed -/
theorem read_text {L : Lib} (h : LibOk L) : (L.ops.all (mkOk L.hook) = true → readM (textM L) = .ok L) ∧ (L.ops.all (mkOk L.hook) = false → ∃ i, readM (textM L) = .error i) := by
  have hne : L.ops.map opRow ≠ [] := fun e => h.ops0 (List.map_eq_nil_iff.mp e)
  have e : readM (textM L) = match opsM L.ps L.hook (rootRows L.name L.ps L.kept L.hook).length (L.ops.map opRow) [] with
      | .error k => .error k
      | .ok ops => .ok ⟨L.name, L.ps, L.kept, L.hook, ops⟩ := by
    unfold readM
    rw [rows_text h.clean]
    unfold rowsOf
    rw [read_root h.root h.free, opsOf_root hne]
  have r := ops_run (hook := L.hook) h.root.ps0 L.ops (rootRows L.name L.ps L.kept L.hook).length [] h.form (by simpa using h.ops6) (by simpa using h.nd)
  refine ⟨fun k => ?_, fun k => ?_⟩
  · rw [e, r.1 k]
    rfl
  · obtain ⟨i, hi⟩ := r.2 k
    exact ⟨i, by rw [e, hi]⟩
end LM

/-! what a library that was read is like: short names, few of them, signs unlike -/
namespace LM
open PySem TL L2
def Sh (w : Str) : Prop := w.length ≤ 1000
theorem sh_small {w : Str} (h : small w = true) : Sh w := by
  unfold small at h
  rw [Bool.and_eq_true, Bool.and_eq_true] at h
  have := of_decide_eq_true h.1.2
  show w.length ≤ 1000
  omega
theorem sh_field {w : Str} (h : fieldName w = true) : Sh w := by
  unfold fieldName at h
  rw [Bool.and_eq_true] at h
  exact sh_small h.1
theorem sh_class {w : Str} (h : className w = true) : Sh w := by
  unfold className at h
  rw [Bool.and_eq_true, Bool.and_eq_true, Bool.and_eq_true] at h
  have := of_decide_eq_true h.1.1.2
  show w.length ≤ 1000
  omega
instance (w : Str) : Decidable (Sh w) := inferInstanceAs (Decidable (_ ≤ _))
theorem sh_hooks : ∀ w ∈ rootHooks, Sh w := by decide +kernel
theorem sh_signs : ∀ w ∈ binary ++ unary, Sh w := by decide +kernel
theorem sh_makers : ∀ w ∈ makers0 ++ makers1 ++ makers2, Sh w := by decide +kernel
theorem sh_maker {n : Nat} {w : Str} (h : (makersOf n).contains w = true) : Sh w := by
  have hm := List.contains_iff_mem.mp h
  refine sh_makers w ?_
  match n, hm with
  | 0, hm => exact List.mem_append_left _ (List.mem_append_left _ hm)
  | 1, hm => exact List.mem_append_left _ (List.mem_append_right _ hm)
  | _ + 2, hm => exact List.mem_append_right _ hm
theorem strOk_small {w : Str} (h : small w = true) : PySem.PyData.strOk w = true := by
  unfold small at h
  rw [Bool.and_eq_true] at h
  unfold PySem.PyData.strOk
  rw [Array.all_eq_true_iff_forall_mem]
  intro c hc
  have := List.all_eq_true.mp h.2 c (Array.mem_toList_iff.mpr hc)
  simp only [Bool.and_eq_true, decide_eq_true_eq] at this
  exact decide_eq_true (by omega)
theorem strOk_field {w : Str} (h : fieldName w = true) : PySem.PyData.strOk w = true := by
  unfold fieldName at h
  rw [Bool.and_eq_true] at h
  exact strOk_small h.1
theorem needs_some {r : Rw} {found : List Str} {f : Str} (h : needsRow r found = some f) : fieldName f = true := by
  unfold needsRow at h
  split at h
  · split at h
    · rename_i c
      injection h with h
      subst h
      simp only [Bool.and_eq_true] at c
      exact c.1.2
    · cases h
  · cases h
theorem params_good : ∀ (rs : List Rw) (found : List Str), (∀ f ∈ found, fieldName f = true) → (∀ f ∈ paramsM rs found, fieldName f = true) ∧ (paramsM rs found).length ≤ found.length + rs.length
  | [], found, h => ⟨h, Nat.le_refl _⟩
  | r :: rs, found, h => by
    unfold paramsM
    cases e : needsRow r found with
    | none => exact ⟨h, by show found.length ≤ _; omega⟩
    | some f =>
      have ih := params_good rs (found ++ [f]) fun z hz => by
        rcases List.mem_append.mp hz with hz | hz
        · exact h z hz
        · rw [List.mem_singleton.mp hz]
          exact needs_some e
      refine ⟨ih.1, ?_⟩
      have := ih.2
      rw [List.length_append] at this
      show (paramsM rs (found ++ [f])).length ≤ found.length + (rs.length + 1)
      simp at this
      omega
theorem keeps_some {r : Rw} {known : List Str} {p : Str × Str} (h : keepsRow r known = some p) : fieldName p.1 = true ∧ p.2 ∈ known := by
  unfold keepsRow at h
  split at h
  · split at h
    · rename_i c
      injection h with h
      subst h
      simp only [Bool.and_eq_true] at c
      exact ⟨c.1.1.2, List.contains_iff_mem.mp c.2⟩
    · cases h
  · cases h
theorem kept_good : ∀ (rs : List Rw) (known : List Str) (found : List (Str × Str)), (∀ f ∈ known, Sh f) → (∀ p ∈ found, Sh p.1 ∧ Sh p.2) → (∀ p ∈ keptM rs known found, Sh p.1 ∧ Sh p.2) ∧ (keptM rs known found).length ≤ found.length + rs.length
  | [], known, found, _, h => ⟨h, Nat.le_refl _⟩
  | r :: rs, known, found, hk, h => by
    unfold keptM
    cases e : keepsRow r known with
    | none => exact ⟨h, by show found.length ≤ _; omega⟩
    | some p =>
      obtain ⟨e1, e2⟩ := keeps_some e
      have ih := kept_good rs (known ++ [p.1]) (found ++ [p]) (fun z hz => by
        rcases List.mem_append.mp hz with hz | hz
        · exact hk z hz
        · rw [List.mem_singleton.mp hz]
          exact sh_field e1) fun z hz => by
        rcases List.mem_append.mp hz with hz | hz
        · exact h z hz
        · rw [List.mem_singleton.mp hz]
          exact ⟨sh_field e1, hk _ e2⟩
      refine ⟨ih.1, ?_⟩
      have := ih.2
      rw [List.length_append] at this
      show (keptM rs (known ++ [p.1]) (found ++ [p])).length ≤ found.length + (rs.length + 1)
      simp at this
      omega
structure OpGood (ps : List Str) (o : Op) : Prop where
  sign : Sh o.sign
  maker : Sh o.maker
  sub : ∀ p ∈ o.changed, p ∈ ps
  len : o.changed.length ≤ ps.length
theorem op_good {r : Rw} {ps : List Str} {o : Op} (h : opM r ps = some o) : OpGood ps o := by
  unfold opM at h
  split at h
  · cases h
  · rename_i s rest
    split at h
    · unfold requestM at h
      split at h
      · split at h
        · rename_i c
          injection h with h
          subst h
          simp only [Bool.and_eq_true] at c
          refine ⟨?_, sh_maker (n := 0) c.2, fun p hp => hp, Nat.le_refl _⟩
          have q := c.1.2
          unfold request at q
          rw [Bool.and_eq_true] at q
          exact sh_small q.1
        · cases h
      · cases h
    · split at h
      · cases h
      · rename_i c1
        dsimp only at h
        split at h
        · cases h
        · rename_i c2
          injection h with h
          subst h
          rw [Bool.or_eq_true, not_or] at c1 c2
          have hs : s ∈ binary ++ unary := by
            cases hb : binary.contains s with
            | true => exact List.mem_append_left _ (List.contains_iff_mem.mp hb)
            | false =>
              cases hu : unary.contains s with
              | true => exact List.mem_append_right _ (List.contains_iff_mem.mp hu)
              | false => exact absurd (by rw [hb, hu]; rfl) c1.1
          have hm := c2.1
          have hsel := c2.2
          rw [Bool.not_eq_true', Bool.not_eq_false] at hm hsel
          refine ⟨sh_signs s hs, sh_maker hm, ?_, ?_⟩
          · show ∀ p ∈ (rest.take _).drop 1, _
            generalize rest.take _ = ws at hsel
            cases ws with
            | nil => intro p hp; cases hp
            | cons a ch =>
              intro p hp
              unfold selection at hsel
              simp only [Bool.and_eq_true] at hsel
              have e := of_decide_eq_true hsel.2
              have hp' : p ∈ ch := hp
              rw [e] at hp'
              exact (List.mem_filter.mp hp').1
          · show ((rest.take _).drop 1).length ≤ _
            generalize rest.take _ = ws at hsel
            cases ws with
            | nil => exact Nat.zero_le _
            | cons a ch =>
              unfold selection at hsel
              simp only [Bool.and_eq_true] at hsel
              have e := of_decide_eq_true hsel.2
              show ch.length ≤ _
              rw [e]
              exact List.length_filter_le _ _
theorem ops_good {ps : List Str} {hk : Option Str} : ∀ (rs : List Rw) (k : Nat) (found ops : List Op), opsM ps hk k rs found = .ok ops → (∀ o ∈ found, OpGood ps o) → (found.map (·.sign)).Nodup → found.length ≤ 6 →
    (∀ o ∈ ops, OpGood ps o) ∧ (ops.map (·.sign)).Nodup ∧ ops.length ≤ 6
  | [], k, found, ops, h, g, nd, l => by
    injection h with h
    subst h
    exact ⟨g, nd, l⟩
  | r :: rs, k, found, ops, h, g, nd, l => by
    unfold opsM at h
    cases e : opM r ps with
    | none => rw [e] at h; cases h
    | some o =>
      rw [e] at h
      dsimp only at h
      split at h
      · cases h
      · rename_i c
        rw [Bool.or_eq_true, not_or, Bool.or_eq_true, not_or] at c
        have n6 : found.length ≠ 6 := fun z => c.1.1 (decide_eq_true z)
        have ns : o.sign ∉ found.map (·.sign) := fun z => c.1.2 (List.contains_iff_mem.mpr z)
        refine ops_good rs (k + 1) (found ++ [o]) ops h (fun z hz => ?_) ?_ ?_
        · rcases List.mem_append.mp hz with hz | hz
          · exact g z hz
          · rw [List.mem_singleton.mp hz]
            exact op_good e
        · rw [List.map_append, List.nodup_append]
          refine ⟨nd, by simp, fun a ha b hb => ?_⟩
          rw [List.mem_singleton.mp hb]
          exact fun e => ns (by have e' : a = o.sign := e; rw [← e']; exact ha)
        · rw [List.length_append]
          show found.length + 1 ≤ 6
          omega
end LM

/-! sizes of the parts of a text -/
namespace LM
open PySem TL L2
theorem len_joinL (s : Nat) : ∀ ps : List (List Nat), ps ≠ [] → (joinL [s] ps).length + 1 = (ps.map List.length).sum + ps.length
  | [], h => absurd rfl h
  | [p], _ => by simp [joinL]
  | p :: q :: r, _ => by
    have ih := len_joinL s (q :: r) (by simp)
    show (p ++ ([s] ++ joinL [s] (q :: r))).length + 1 = _
    simp only [List.length_append, List.map_cons, List.sum_cons, List.length_cons, List.length_nil] at ih ⊢
    omega
theorem mem_joinL (s : Nat) : ∀ (ps : List (List Nat)) (p : List Nat) (c : Nat), p ∈ ps → c ∈ p → c ∈ joinL [s] ps
  | [], _, _, h, _ => by cases h
  | [q], p, c, h, hc => by
    rw [List.mem_singleton.mp h] at hc
    exact hc
  | q :: q' :: r, p, c, h, hc => by
    show c ∈ q ++ ([s] ++ joinL [s] (q' :: r))
    rcases List.mem_cons.mp h with rfl | h
    · exact List.mem_append_left _ hc
    · exact List.mem_append_right _ (List.mem_append_right _ (mem_joinL s (q' :: r) p c h hc))
theorem split_by {y : Str} {s : Nat} (ey : tl y = [s]) (hy : y.cps.all (· < 256) = true) (x : Str) : (Txt.split x y).map tl = spl [s] 0 [] (tl x) := by
  rw [split_spl x y (by rw [ey]; simp) (kind_ok hy), ey]
theorem split_len {y : Str} {s : Nat} (ey : tl y = [s]) (hy : y.cps.all (· < 256) = true) (x : Str) : ((Txt.split x y).map (·.length)).sum + (Txt.split x y).length = x.length + 1 := by
  have e := split_by ey hy x
  have q := len_joinL s (spl [s] 0 [] (tl x)) (spl1_ne s _ _)
  rw [spl1_join, List.nil_append, ← e, List.map_map, List.length_map, ← len_tl] at q
  have e2 : ((Txt.split x y).map (List.length ∘ tl)) = (Txt.split x y).map (·.length) := List.map_congr_left fun w _ => (len_tl w).symm
  rw [e2] at q
  exact q.symm
theorem split_mem {y : Str} {s : Nat} (ey : tl y = [s]) (hy : y.cps.all (· < 256) = true) {x w : Str} (h : w ∈ Txt.split x y) {c : Nat} (hc : c ∈ tl w) : c ∈ tl x := by
  have e := split_by ey hy x
  have q := mem_joinL s (spl [s] 0 [] (tl x)) (tl w) c (by rw [← e]; exact List.mem_map_of_mem h) hc
  rw [spl1_join, List.nil_append] at q
  exact q
theorem le_sum : ∀ (ws : List Str) (w : Str), w ∈ ws → w.length ≤ (ws.map (·.length)).sum
  | [], _, h => by cases h
  | x :: ws, w, h => by
    rw [List.map_cons, List.sum_cons]
    rcases List.mem_cons.mp h with rfl | h
    · omega
    · have := le_sum ws w h
      omega
theorem strOk_iff (x : Str) : PySem.PyData.strOk x = true ↔ ∀ c ∈ tl x, c < 0x110000 := by
  unfold PySem.PyData.strOk
  rw [Array.all_eq_true_iff_forall_mem]
  constructor
  · intro h c hc
    exact of_decide_eq_true (h c (Array.mem_toList_iff.mp hc))
  · intro h c hc
    exact decide_eq_true (h c (Array.mem_toList_iff.mpr hc))
/-- every row of a text: its words short and fine, few of them -/
theorem rows_ok {z : Str} (hz : z.length ≤ 1000000) (ho : PySem.PyData.strOk z = true) : (∀ r ∈ rowsM z, (∀ w ∈ r, w.length ≤ 1000000 ∧ PySem.PyData.strOk w = true) ∧ (r.map (·.length)).sum + r.length ≤ 2000000 ∧ r ≠ []) ∧ (rowsM z).length ≤ 1000001 ∧ rowsM z ≠ [] := by
  have q1 := split_len tl_nl nl_all z
  refine ⟨fun r hr => ?_, ?_, ?_⟩
  · obtain ⟨l, hl, rfl⟩ := List.mem_map.mp hr
    have q2 := split_len tl_sp sp_all l
    have q3 := le_sum _ l hl
    refine ⟨fun w hw => ⟨?_, ?_⟩, by omega, split_ne l⟩
    · have q4 := le_sum _ w hw
      have c1 := List.length_pos_iff.mpr (split_ne l)
      have c2 := List.length_pos_iff.mpr (split_nl_ne z)
      omega
    · rw [strOk_iff] at ho ⊢
      exact fun c hc => ho c (split_mem tl_nl nl_all hl (split_mem tl_sp sp_all hw hc))
  · unfold rowsM
    rw [List.length_map]
    omega
  · unfold rowsM
    exact fun e => split_nl_ne z (List.map_eq_nil_iff.mp e)
end LM

/-! sizes and signs of a right library's text; its makers exchanged -/
namespace LM
open PySem TL L2
/-- signs below 128 -/
def Asc (w : Str) : Prop := ∀ c ∈ tl w, c < 128
instance (w : Str) : Decidable (Asc w) := inferInstanceAs (Decidable (∀ c ∈ tl w, c < 128))
theorem Asc.ok {w : Str} (h : Asc w) : PySem.PyData.strOk w = true := (strOk_iff w).mpr fun c hc => Nat.lt_trans (h c hc) (by decide)
theorem Asc.app {x y : Str} (h : Asc x) (k : Asc y) : Asc (x ++ y) := fun c hc => by
  rw [tl_append, List.mem_append] at hc
  exact hc.elim (h c) (k c)
theorem asc_join {s : Str} (hs : Asc s) : ∀ {ws : List Str}, (∀ w ∈ ws, Asc w) → Asc (Str.join s ws)
  | [], _ => fun c hc => by cases hc
  | [x], h => h x (List.mem_singleton.mpr rfl)
  | x :: y :: r, h => by
    rw [join_cons2]
    exact ((h x (List.mem_cons_self ..)).app hs).app (asc_join hs fun w hw => h w (List.mem_cons_of_mem _ hw))
theorem asc_within {lo hi : Nat} {l : List Nat} (h : within lo hi l = true) (hh : hi < 128) : ∀ c ∈ l, c < 128 := fun c hc => by
  have := List.all_eq_true.mp h c hc
  simp only [Bool.and_eq_true, decide_eq_true_eq] at this
  omega
theorem asc_small {w : Str} (h : small w = true) : Asc w := by
  unfold small at h
  rw [Bool.and_eq_true] at h
  exact asc_within h.2 (by decide)
theorem asc_field {w : Str} (h : fieldName w = true) : Asc w := by
  unfold fieldName at h
  rw [Bool.and_eq_true] at h
  exact asc_small h.1
theorem asc_class {w : Str} (h : className w = true) : Asc w := by
  unfold className at h
  rw [Bool.and_eq_true, Bool.and_eq_true] at h
  have e : tl w = (tl w).take 1 ++ (tl w).drop 1 := (List.take_append_drop 1 _).symm
  intro c hc
  rw [e, List.mem_append] at hc
  exact hc.elim (asc_within h.1.2 (by decide) c) (asc_within h.2 (by decide) c)
theorem le8_small {w : Str} (h : small w = true) : w.length ≤ 8 := by
  unfold small at h
  rw [Bool.and_eq_true, Bool.and_eq_true] at h
  exact of_decide_eq_true h.1.2
theorem le8_field {w : Str} (h : fieldName w = true) : w.length ≤ 8 := by
  unfold fieldName at h
  rw [Bool.and_eq_true] at h
  exact le8_small h.1
theorem le8_class {w : Str} (h : className w = true) : w.length ≤ 8 := by
  unfold className at h
  rw [Bool.and_eq_true, Bool.and_eq_true, Bool.and_eq_true] at h
  exact of_decide_eq_true h.1.1.2
theorem len_cat (x y : Str) : (x ++ y).length = x.length + y.length := by rw [len_tl, len_tl, len_tl, tl_append, List.length_append]
theorem len_joined (s : Str) : ∀ (ws : List Str) (b : Nat), (∀ w ∈ ws, w.length ≤ b) → (Str.join s ws).length ≤ ws.length * (b + s.length)
  | [], _, _ => by show 0 ≤ _; omega
  | [x], b, h => by
    have := h x (List.mem_singleton.mpr rfl)
    show x.length ≤ 1 * _
    omega
  | x :: y :: r, b, h => by
    have q := len_joined s (y :: r) b fun w hw => h w (List.mem_cons_of_mem _ hw)
    have h1 := h x (List.mem_cons_self ..)
    rw [join_cons2, len_cat, len_cat]
    rw [List.length_cons, Nat.add_mul]
    omega
/-- what a maker in a text may be -/
structure MkFine (m : Str) : Prop where
  len : m.length ≤ 100
  asc : Asc m
  nl : NoNl m
theorem mk_fine : ∀ m ∈ makers0 ++ makers1 ++ makers2, m.length ≤ 100 ∧ Asc m ∧ 10 ∉ tl m := by decide +kernel
theorem maker_fine {n : Nat} {m : Str} (h : m ∈ makersOf n) : MkFine m := by
  have : m ∈ makers0 ++ makers1 ++ makers2 := by
    match n with
    | 0 => exact List.mem_append_left _ (List.mem_append_left _ h)
    | 1 => exact List.mem_append_left _ (List.mem_append_right _ h)
    | _ + 2 => exact List.mem_append_right _ h
  obtain ⟨h1, h2, h3⟩ := mk_fine m this
  exact ⟨h1, h2, h3⟩
theorem hook_fine : ∀ h ∈ rootHooks, h.length ≤ 8 ∧ Asc h := by decide +kernel
theorem sign_fine : ∀ s ∈ binary ++ unary, s.length ≤ 8 ∧ Asc s ∧ PySem.PyData.strOk s = true := by decide +kernel
theorem n_lib : ("library " : Str).length = 8 ∧ ("needs " : Str).length = 6 ∧ ("keeps " : Str).length = 6 ∧ (" of " : Str).length = 4 ∧ ("hook " : Str).length = 5 ∧ ("make " : Str).length = 5 ∧ (" by " : Str).length = 4 ∧ (" changes " : Str).length = 9 ∧ (" " : Str).length = 1 ∧ ("\n" : Str).length = 1 := by decide +kernel
theorem a_lib : Asc "library " ∧ Asc "needs " ∧ Asc "keeps " ∧ Asc " of " ∧ Asc "hook " ∧ Asc "make " ∧ Asc " by " ∧ Asc " changes " ∧ Asc " " ∧ Asc "\n" := by decide +kernel
theorem kept_fields : ∀ {kept : List (Str × Str)} {known : List Str}, KeptOk known kept → (∀ p ∈ known, fieldName p = true) → ∀ p ∈ kept, fieldName p.1 = true ∧ fieldName p.2 = true
  | [], _, _, _, p, hp => by cases hp
  | q :: r, known, ko, hk, p, hp => by
    obtain ⟨k1, k2, k3, k4⟩ := ko
    rcases List.mem_cons.mp hp with e | hp
    · subst e
      exact ⟨k1, hk _ k3⟩
    · refine kept_fields k4 (fun z hz => ?_) p hp
      rcases List.mem_append.mp hz with hz | hz
      · exact hk z hz
      · rw [List.mem_singleton.mp hz]
        exact k1
theorem LibOk.sign {L : Lib} (h : LibOk L) {o : Op} (ho : o ∈ L.ops) : o.sign.length ≤ 8 ∧ Asc o.sign := by
  rcases (h.form o ho).sg with z | z | z
  · have := sign_fine o.sign (List.mem_append_left _ (List.contains_iff_mem.mp z))
    exact ⟨this.1, this.2.1⟩
  · have := sign_fine o.sign (List.mem_append_right _ (List.contains_iff_mem.mp z))
    exact ⟨this.1, this.2.1⟩
  · have q := z.1
    unfold request at q
    rw [Bool.and_eq_true] at q
    exact ⟨le8_small q.1, asc_small q.1⟩
theorem LibOk.sub {L : Lib} (h : LibOk L) {o : Op} (ho : o ∈ L.ops) : (∀ p ∈ o.changed, p ∈ L.ps) ∧ o.changed.length ≤ 3 := by
  have e := (h.form o ho).ch
  constructor
  · intro p hp
    rw [e] at hp
    exact (List.mem_filter.mp hp).1
  · rw [e]
    exact Nat.le_trans (List.length_filter_le ..) h.root.ps3
theorem LibOk.line {L : Lib} (h : LibOk L) {o : Op} (ho : o ∈ L.ops) (hm : MkFine o.maker) : (opLine o).length ≤ 200 ∧ Asc (opLine o) := by
  obtain ⟨s1, s2⟩ := h.sign ho
  obtain ⟨c1, c2⟩ := h.sub ho
  obtain ⟨n1, n2, n3, n4, n5, n6, n7, n8, n9, n10⟩ := n_lib
  obtain ⟨a1, a2, a3, a4, a5, a6, a7, a8, a9, a10⟩ := a_lib
  have m1 := hm.len
  have q := len_joined " " o.changed 8 fun w hw => le8_field (h.root.pf w (c1 w hw))
  rw [n9] at q
  have q2 : o.changed.length * (8 + 1) ≤ 3 * (8 + 1) := Nat.mul_le_mul_right _ c2
  have aj : Asc (Str.join " " o.changed) := asc_join a9 fun w hw => asc_field (h.root.pf w (c1 w hw))
  unfold opLine
  split
  · exact ⟨by simp only [len_cat, n6, n7]; omega, ((a6.app s2).app a7).app hm.asc⟩
  · split
    · exact ⟨by simp only [len_cat, n7]; omega, (s2.app a7).app hm.asc⟩
    · exact ⟨by simp only [len_cat, n7, n8]; omega, (((s2.app a8).app aj).app a7).app hm.asc⟩
theorem LibOk.rootLine {L : Lib} (h : LibOk L) : (∀ l ∈ rootLines L.name L.ps L.kept L.hook, l.length ≤ 200 ∧ Asc l) ∧ (rootLines L.name L.ps L.kept L.hook).length ≤ 7 := by
  obtain ⟨n1, n2, n3, n4, n5, n6, n7, n8, n9, n10⟩ := n_lib
  obtain ⟨a1, a2, a3, a4, a5, a6, a7, a8, a9, a10⟩ := a_lib
  have kf := kept_fields h.root.ko h.root.pf
  constructor
  · intro l hl
    unfold rootLines at hl
    simp only [List.mem_append, List.mem_map] at hl
    rcases hl with ((hl | ⟨p, hp, rfl⟩) | ⟨p, hp, rfl⟩) | hl
    · rw [List.mem_singleton.mp hl, len_cat, n1]
      have := le8_class h.root.name
      exact ⟨by omega, a1.app (asc_class h.root.name)⟩
    · have := le8_field (h.root.pf p hp)
      rw [len_cat, n2]
      exact ⟨by omega, a2.app (asc_field (h.root.pf p hp))⟩
    · obtain ⟨f1, f2⟩ := kf p hp
      have := le8_field f1
      have := le8_field f2
      rw [len_cat, len_cat, len_cat, n3, n4]
      exact ⟨by omega, ((a3.app (asc_field f1)).app a4).app (asc_field f2)⟩
    · cases e : L.hook with
      | none => rw [e] at hl; cases hl
      | some z =>
        have := hook_fine z (h.root.hk z e)
        rw [e] at hl
        rw [List.mem_singleton.mp hl, len_cat, n5]
        exact ⟨by omega, a5.app this.2⟩
  · have := h.root.ps3
    have := h.root.kept2
    unfold rootLines
    simp only [List.length_append, List.length_map, List.length_cons, List.length_nil]
    cases L.hook <;> simp <;> omega
theorem LibOk.lines {L : Lib} (h : LibOk L) (hm : ∀ o ∈ L.ops, MkFine o.maker) : (∀ l ∈ linesM L, l.length ≤ 200 ∧ Asc l) ∧ (linesM L).length ≤ 13 := by
  obtain ⟨r1, r2⟩ := h.rootLine
  constructor
  · intro l hl
    unfold linesM at hl
    rcases List.mem_append.mp hl with hl | hl
    · exact r1 l hl
    · obtain ⟨o, ho, rfl⟩ := List.mem_map.mp hl
      exact h.line ho (hm o ho)
  · have := h.ops6
    unfold linesM
    rw [List.length_append, List.length_map]
    omega
theorem LibOk.text {L : Lib} (h : LibOk L) (hm : ∀ o ∈ L.ops, MkFine o.maker) : (textM L).length ≤ 1000000 ∧ PySem.PyData.strOk (textM L) = true := by
  obtain ⟨r1, r2⟩ := h.lines hm
  have q := len_joined "\n" (linesM L) 200 fun w hw => (r1 w hw).1
  rw [n_lib.2.2.2.2.2.2.2.2.2] at q
  have : (linesM L).length * (200 + 1) ≤ 13 * (200 + 1) := Nat.mul_le_mul_right _ r2
  refine ⟨?_, (asc_join a_lib.2.2.2.2.2.2.2.2.2 fun w hw => (r1 w hw).2).ok⟩
  show (Str.join "\n" (linesM L)).length ≤ _
  omega
/-- the makers of an operation, with or without the hook -/
def allow (n : Nat) (hk : Bool) : List Str := (makersOf n).filter fun m => hk || !(m == ("hook" : Str))
theorem allow_mk (hk : Option Str) (o : Op) : (allow (arity o.sign) hk.isSome).contains o.maker = mkOk hk o := by
  unfold allow mkOk
  have key : ∀ (l : List Str) (p : Str → Bool) (m : Str), (l.filter p).contains m = (l.contains m && p m) := fun l p m => by
    rw [Bool.eq_iff_iff, List.contains_iff_mem, List.mem_filter, Bool.and_eq_true, List.contains_iff_mem]
  rw [key]
  cases hk <;> simp
/-- operation j has another maker -/
def setMk (L : Lib) (j : Nat) (m : Str) : Lib := ⟨L.name, L.ps, L.kept, L.hook, L.ops.set j ⟨(L.ops.getD j ⟨"", [], ""⟩).sign, (L.ops.getD j ⟨"", [], ""⟩).changed, m⟩⟩
theorem set_ops {L : Lib} {j : Nat} {m : Str} {o : Op} (e : L.ops[j]? = some o) : (setMk L j m).ops = L.ops.set j ⟨o.sign, o.changed, m⟩ := by
  unfold setMk
  rw [List.getD_eq_getElem?_getD, e]
  rfl
theorem set_ok {L : Lib} (h : LibOk L) {j : Nat} {m : Str} {o : Op} (e : L.ops[j]? = some o) (hm : NoNl m) : LibOk (setMk L j m) := by
  have eo := set_ops (m := m) e
  have hj : j < L.ops.length := (List.getElem?_eq_some_iff.mp e).1
  have ho := List.mem_of_getElem? e
  have hs : (setMk L j m).ops.map (·.sign) = L.ops.map (·.sign) := by
    rw [eo, List.map_set]
    refine List.ext_getElem? fun i => ?_
    rw [List.getElem?_set]
    split
    · rename_i hi
      subst hi
      rw [List.length_map, if_pos hj, List.getElem?_map, e]
      rfl
    · rfl
  refine ⟨h.root, fun q => ?_, ?_, by rw [hs]; exact h.nd, fun z hz => ?_, fun z hz => ?_⟩
  · rw [eo] at q
    have := congrArg List.length q
    rw [List.length_set] at this
    exact h.ops0 (List.length_eq_zero_iff.mp this)
  · rw [eo, List.length_set]
    exact h.ops6
  · rw [eo] at hz
    rcases List.mem_or_eq_of_mem_set hz with hz | hz
    · exact h.form z hz
    · subst hz
      exact ⟨(h.form o ho).sg, (h.form o ho).ch, (h.form o ho).nb⟩
  · rw [eo] at hz
    rcases List.mem_or_eq_of_mem_set hz with hz | hz
    · exact h.nl z hz
    · subst hz
      exact hm
theorem set_all {L : Lib} {j : Nat} {m : Str} {o : Op} (e : L.ops[j]? = some o) (hall : L.ops.all (mkOk L.hook) = true) : (setMk L j m).ops.all (mkOk (setMk L j m).hook) = mkOk L.hook ⟨o.sign, o.changed, m⟩ := by
  have hj : j < L.ops.length := (List.getElem?_eq_some_iff.mp e).1
  show (setMk L j m).ops.all (mkOk L.hook) = _
  rw [set_ops e, Bool.eq_iff_iff, List.all_eq_true]
  constructor
  · intro k
    exact k _ (List.mem_set hj _)
  · intro k z hz
    rcases List.mem_or_eq_of_mem_set hz with hz | hz
    · exact List.all_eq_true.mp hall z hz
    · rw [hz]
      exact k
end LM

/-! the reader of expressions, as a plain machine over a text -/
namespace PM
open PySem PySem.Spec PyProof.Rows L2 EV TL LM
/-- the letter at i, or nothing -/
def letAt (t : Str) (i : Nat) : Str := ⟨(((tl t).drop i).take 1).toArray⟩
theorem cut_let {t : Str} {i : Nat} (h : i ≤ t.length) : cutS t (some ((i : Nat) : Int)) (some (((i : Nat) : Int) + 1)) = letAt t i := by
  unfold cutS letAt
  rw [show (((i : Nat) : Int) + 1) = ((i + 1 : Nat) : Int) by omega, HT.sIx_nat, HT.sIx_nat, Nat.min_eq_left h]
  congr 2
  show List.take _ (List.drop i t.cps.toList) = List.take 1 (List.drop i (tl t))
  by_cases e : i + 1 ≤ t.length
  · rw [Nat.min_eq_left e, show i + 1 - i = 1 by omega]
  · have hl : (List.drop i (tl t)).length = 0 := by
      rw [List.length_drop, ← len_tl]
      omega
    rw [List.length_eq_zero_iff.mp hl, List.take_nil, List.take_nil]
theorem lt_one (a b : Nat) : decide ([a] < [b]) = decide (a < b) := by
  by_cases h : a < b
  · rw [decide_eq_true h, decide_eq_true (List.cons_lt_cons_iff.mpr (.inl h))]
  · rw [decide_eq_false h, decide_eq_false]
    intro z
    rcases List.cons_lt_cons_iff.mp z with z | ⟨_, z⟩
    · exact h z
    · exact absurd z (by simp)
theorem le_one (a b : Nat) : (!decide ([b] < [a])) = decide (a ≤ b) := by
  rw [lt_one]
  by_cases h : a ≤ b
  · rw [decide_eq_true h, decide_eq_false (by omega)]
    rfl
  · rw [decide_eq_false h, decide_eq_true (by omega)]
    rfl
/-- between two letters -/
def betw (lo hi : Nat) (t : Str) (i : Nat) : Bool := match (tl t)[i]? with
  | none => false
  | some c => decide (lo ≤ c) && decide (c ≤ hi)
/-- how many small letters stand at i, at most n -/
def smallN (t : Str) (i n : Nat) : Nat := ((((tl t).drop i).take n).takeWhile fun c => decide (97 ≤ c) && decide (c ≤ 122)).length
theorem small_le (t : Str) (i n : Nat) : smallN t i n ≤ n ∧ i + smallN t i n ≤ max i t.length := by
  have h1 := List.takeWhile_sublist (l := ((tl t).drop i).take n) (p := fun c => decide (97 ≤ c) && decide (c ≤ 122)) |>.length_le
  rw [List.length_take, List.length_drop, ← len_tl] at h1
  unfold smallN
  omega
theorem small_step {t : Str} {i n : Nat} (h : betw 97 122 t i = true) (hn : 0 < n) : smallN t i n = 1 + smallN t (i + 1) (n - 1) := by
  unfold betw at h
  cases e : (tl t)[i]? with
  | none => rw [e] at h; cases h
  | some c =>
    rw [e] at h
    have h' : (decide (97 ≤ c) && decide (c ≤ 122)) = true := h
    obtain ⟨hj, hc⟩ := List.getElem?_eq_some_iff.mp e
    obtain ⟨m, rfl⟩ : ∃ m, n = m + 1 := ⟨n - 1, by omega⟩
    unfold smallN
    rw [List.drop_eq_getElem_cons hj, hc, List.take_succ_cons, List.takeWhile_cons, if_pos h', List.length_cons, Nat.add_sub_cancel]
    omega
theorem small_stop {t : Str} {i n : Nat} (h : betw 97 122 t i = false ∨ n = 0) : smallN t i n = 0 := by
  rcases h with h | rfl
  · unfold smallN
    unfold betw at h
    cases e : (tl t)[i]? with
    | none =>
      rw [List.drop_of_length_le (List.getElem?_eq_none_iff.mp e), List.take_nil]
      rfl
    | some c =>
      rw [e] at h
      have h' : (decide (97 ≤ c) && decide (c ≤ 122)) = false := h
      obtain ⟨hj, hc⟩ := List.getElem?_eq_some_iff.mp e
      rw [List.drop_eq_getElem_cons hj, hc]
      cases n with
      | zero => rfl
      | succ m =>
        rw [List.take_succ_cons, List.takeWhile_cons, if_neg (by rw [h']; exact Bool.false_ne_true)]
        rfl
  · unfold smallN
    rw [List.take_zero]
    rfl
/-- the n letters at i -/
def subT (t : Str) (i n : Nat) : Str := ⟨(((tl t).drop i).take n).toArray⟩
theorem cut_sub {t : Str} {i n : Nat} (h : i + n ≤ t.length) : cutS t (some ((i : Nat) : Int)) (some ((i + n : Nat) : Int)) = subT t i n := by
  unfold cutS subT
  rw [HT.sIx_nat, HT.sIx_nat, Nat.min_eq_left (show i ≤ t.length by omega), Nat.min_eq_left h, Nat.add_sub_cancel_left]
theorem let_at {t : Str} {i c : Nat} (h : (tl t)[i]? = some c) : letAt t i = ⟨#[c]⟩ := by
  unfold letAt
  obtain ⟨hj, hc⟩ := List.getElem?_eq_some_iff.mp h
  rw [List.drop_eq_getElem_cons hj, hc]
  rfl
theorem at_lt {t : Str} {i c : Nat} (h : (tl t)[i]? = some c) : i < t.length := by
  have := (List.getElem?_eq_some_iff.mp h).1
  rw [← len_tl] at this
  exact this
theorem betw_lt {lo hi : Nat} {t : Str} {i : Nat} (h : betw lo hi t i = true) : i < t.length := by
  unfold betw at h
  cases e : (tl t)[i]? with
  | none => rw [e] at h; cases h
  | some c => exact at_lt e
theorem inV_strs (w : Str) (l : List Str) : inV (.str w) (l.map V.str) = l.contains w := by
  unfold inV
  induction l with
  | nil => rfl
  | cons x l ih =>
    rw [List.map_cons, List.any_cons, ih, List.contains_cons]
    congr 1
    show (x == w) = (w == x)
    exact Bool.beq_comm
theorem flat_strs (l : List Str) : (l.map V.str).all flatV = true := by
  induction l with
  | nil => rfl
  | cons x l ih => rw [List.map_cons, List.all_cons, ih]; rfl
/-- sign or request, label, class -/
abbrev Part := Str × Str × Str
/-- these letters, from i on: behind them, or the first place where they do not stand -/
def litsM (t : Str) : List Nat → Nat → Except Nat Nat
  | [], i => .ok i
  | c :: cs, i => if (tl t)[i]? = some c then litsM t cs (i + 1) else .error i
def startM (t : Str) (i opened : Nat) : Except Nat (Nat × (Str ⊕ Part)) :=
  if (tl t)[i]? = some 40 then (if opened = 100 then .error i else .ok (i + 1, .inl "("))
  else if betw 65 90 t i = true then
    (if (tl t)[i + (smallN t (i + 1) 7 + 1)]? = some 46 then
      (if smallN t (i + (smallN t (i + 1) 7 + 1) + 1) 8 = 0 then .error (i + (smallN t (i + 1) 7 + 1) + 1)
       else if unary.contains (subT t (i + (smallN t (i + 1) 7 + 1) + 1) (smallN t (i + (smallN t (i + 1) 7 + 1) + 1) 8)) = true then .error (i + (smallN t (i + 1) 7 + 1) + 1 + smallN t (i + (smallN t (i + 1) 7 + 1) + 1) 8)
       else .ok (i + (smallN t (i + 1) 7 + 1) + 1 + smallN t (i + (smallN t (i + 1) 7 + 1) + 1) 8, .inr (subT t (i + (smallN t (i + 1) 7 + 1) + 1) (smallN t (i + (smallN t (i + 1) 7 + 1) + 1) 8), "", subT t i (smallN t (i + 1) 7 + 1))))
     else .error (i + (smallN t (i + 1) 7 + 1)))
  else if smallN t i 8 = 0 then .error i
  else if (tl t)[i + smallN t i 8]? = some 40 ∧ unary.contains (subT t i (smallN t i 8)) = true then
    (if opened = 100 then .error (i + smallN t i 8) else .ok (i + smallN t i 8 + 1, .inl (subT t i (smallN t i 8))))
  else if (tl t)[i + smallN t i 8]? = some 58 then
    (if betw 65 90 t (i + smallN t i 8 + 1) = true then .ok (i + smallN t i 8 + 1 + (smallN t (i + smallN t i 8 + 1 + 1) 7 + 1), .inr ("", subT t i (smallN t i 8), subT t (i + smallN t i 8 + 1) (smallN t (i + smallN t i 8 + 1 + 1) 7 + 1)))
     else .error (i + smallN t i 8 + 1))
  else .error (i + smallN t i 8)
def signM (t : Str) (i : Nat) : Except Nat (Nat × Str) :=
  if (tl t)[i]? = some 32 then
    match binary.find? (fun s => decide (letAt s 0 = letAt t (i + 1))) with
    | none => .error (i + 1)
    | some s => match litsM t (tl s) (i + 1) with
      | .error k => .error k
      | .ok j => if (tl t)[j]? = some 32 then .ok (j + 1, s) else .error j
  else .error i
def loopM (t : Str) : Nat → Nat → Bool → List Str → List Part → Except Nat (List Part)
  | 0, i, _, _, _ => .error i
  | f + 1, i, true, w, fd => match startM t i w.length with
    | .error k => .error k
    | .ok (j, .inl s) => loopM t f j true (w ++ [s]) fd
    | .ok (j, .inr p) => loopM t f j false w (fd ++ [p])
  | f + 1, i, false, w, fd => match w.getLast? with
    | none => if i < t.length then .error i else .ok fd
    | some s => if s = "(" then (match signM t i with
        | .error k => .error k
        | .ok (j, s) => loopM t f j true (w.dropLast ++ [s]) fd)
      else if (tl t)[i]? = some 41 then loopM t f (i + 1) false w.dropLast (fd ++ [((s, "", "") : Part)]) else .error i
def parseM (t : Str) : Except Nat (List Part) := loopM t (t.length + 1) 0 true [] []
theorem lits_le {t : Str} : ∀ {cs : List Nat} {i j : Nat}, i ≤ t.length → litsM t cs i = .ok j → j ≤ t.length ∧ j = i + cs.length
  | [], i, j, hi, h => by
    injection h with h
    subst h
    exact ⟨hi, rfl⟩
  | c :: cs, i, j, hi, h => by
    unfold litsM at h
    split at h
    · rename_i e
      obtain ⟨h1, h2⟩ := lits_le (at_lt e) h
      exact ⟨h1, by rw [h2, List.length_cons]; omega⟩
    · cases h
theorem start_le {t : Str} {i o j : Nat} {r : Str ⊕ Part} (hi : i ≤ t.length) (h : startM t i o = .ok (j, r)) : i < j ∧ j ≤ t.length := by
  unfold startM at h
  split at h
  · rename_i e
    split at h
    · cases h
    · injection h with h
      injection h with h1 h2
      have := at_lt e
      omega
  · split at h
    · rename_i hb
      have h0 := betw_lt hb
      have a1 := small_le t (i + 1) 7
      split at h
      · rename_i e
        have e0 := at_lt e
        have a2 := small_le t (i + (smallN t (i + 1) 7 + 1) + 1) 8
        split at h
        · cases h
        · split at h
          · cases h
          · injection h with h
            injection h with h1 h2
            omega
      · cases h
    · have a1 := small_le t i 8
      split at h
      · cases h
      · split at h
        · rename_i e
          have := at_lt e.1
          split at h
          · cases h
          · injection h with h
            injection h with h1 h2
            omega
        · split at h
          · rename_i e
            have := at_lt e
            split at h
            · rename_i hb
              have h0 := betw_lt hb
              have a2 := small_le t (i + smallN t i 8 + 1 + 1) 7
              injection h with h
              injection h with h1 h2
              omega
            · cases h
          · cases h
theorem sign_le {t s : Str} {i j : Nat} (h : signM t i = .ok (j, s)) : i < j ∧ j ≤ t.length ∧ s ∈ binary := by
  unfold signM at h
  split at h
  · rename_i e
    have h0 := at_lt e
    split at h
    · cases h
    · rename_i s' es
      split at h
      · cases h
      · rename_i k el
        have l := lits_le (Nat.succ_le_of_lt h0) el
        split at h
        · rename_i e2
          have := at_lt e2
          injection h with h
          injection h with h1 h2
          subst h2
          exact ⟨by omega, by omega, List.mem_of_find?_eq_some es⟩
        · cases h
  · cases h
end PM

/-! a field of the own error that an except suite holds -/
namespace EV
open PySem PySem.Spec PyProof.Rows L2
def tByX (C : Addr) (f : Str) (a : Addr) (cls : Value) (d : Option Addr) (te : TE) : TE := fun σ H Q => te σ H fun x H1 => x = .ref a ∧ cls = .ref C ∧ ∃ (dd : Addr) (fs : List (Str × V)) (v : V), d = some dd ∧ H1 dd = some (.xd fs) ∧ fs.lookup f = some v ∧ Q v H1
theorem pe_byX {X : Cx} {C a : Addr} {f : Str} {oe : Obj} {cls : Value} {d : Option Addr} {pn : List (Addr × Obj)} {e : Expr} {te : TE} {pos : Pos} (T : XCls X.K C) (no : NoAttr X.K C f) (hz : Zc cls d oe) (hf : ∃ vs, oe.data = .fields vs)
    (he : PE (X.suite a ((a, oe) :: pn)) e te) (hb : attributeBase e f X.env (eval e X.env) = eval e X.env := by rfl) : PE (X.suite a ((a, oe) :: pn)) (.Attribute e f pos) (tByX C f a cls d te) := by
  constructor
  intro pins s σ H Q I h
  refine attr_of hb (thn (he.run pins s σ H _ I h) fun u s1 told => ?_)
  obtain ⟨x, H1, I1, rx, ex, ec, dd, fs, v, ed, ea, l, q⟩ := told
  subst ex ec ed
  obtain rfl : u = Value.ref a := rx
  have ha := (I1.pin (a, oe) (List.mem_append_left _ List.mem_cons_self)).1
  obtain ⟨vs, hd⟩ := hf
  obtain ⟨mA, hns, hr⟩ := (I1.hok dd _ ea : ObjOk X.prog X.w H1 s1.heap dd (.xd fs))
  obtain ⟨od, ho, hl⟩ := lookIn_ns hns
  obtain ⟨u, hu, ru⟩ := RelO.some_of (v := v) (o := mA f) (by rw [← l]; exact hr f)
  have J : PySem.W.InstAt s1.heap a oe C (some od) := ⟨ha, hz.1, by unfold PySem.W.notCls; rw [hd] <;> rfl, by rw [hz.2]; exact ho⟩
  exact HandSPX.exc_get I1.kIn J T.ex.hg T.ex.hk T.ex.hs (PySem.W.findObj_own T.ex.hd no rfl (by rw [hl, hu])) (handed_of ru) ⟨v, H1, I1.tok _, ru, q⟩
end EV

/-! several except clauses, each with a name -/
namespace EV
open PySem PySem.Spec PyProof.Rows L2
/-- a clause: the class, the name's slot, the suite -/
structure Cl where
  c : Value
  i : Nat
  ts : Addr → Value → Option Addr → TS
/-- where the suite ends, the name goes -/
def goneE (i : Nat) (D : Ends) : Ends := { nx := fun σ' H' => D.nx (σ'.set i none) H', rt := D.rt, bk := fun σ' H' => D.bk (σ'.set i none) H', ct := fun σ' H' => D.ct (σ'.set i none) H' }
def wAsMany (K : PySem.W.Frag) (Wout : WX) (D : Ends) : List Cl → WX
  | [] => Wout
  | k :: r => fun cls d σ H => ∃ b, PySem.W.exmOne K cls k.c = some b ∧ (b = true → ∀ a, H a = none → k.ts a cls d (goneE k.i D) (σ.set k.i (some (.ref a))) H) ∧ (b = false → wAsMany K Wout D r cls d σ H)
inductive ClsOk (X : Cx) : List ExceptHandler → List Cl → Prop
  | nil : ClsOk X [] []
  | cons {x n : Str} {i : Nat} {c : Value} {ts : Addr → Value → Option Addr → TS} {b₀ : Stmt} {suite : List Stmt} {np pos' : Pos} {hds : List ExceptHandler} {l : List Cl}
      (hi : X.N[i]? = some n) (hln : X.env.kindOf n = some .local) (hc : Names X x c)
      (hsu : ∀ (a : Addr) (oe : Obj) (cls : Value) (d : Option Addr) (pn : List (Addr × Obj)), Zc cls d oe → (∃ vs, oe.data = .fields vs) → PSs (X.suite a ((a, oe) :: pn)) (b₀ :: suite) (ts a cls d)) (r : ClsOk X hds l) :
      ClsOk X (.ExceptHandler (some (.Name x np)) (some n) (b₀ :: suite) pos' :: hds) (⟨c, i, ts⟩ :: l)
/-- an exception that has come down to this frame: B the ground, sI the state without it, s the state with it -/
structure Down (X : Cx) (pins : List (Addr × Obj)) (B : Heap) (sI s : Shared) (σ : L2.St) (H : Hp) (a : Addr) (cls : Value) (d : Option Addr) : Prop where
  stk : X.stack = X.env :: X.outer
  frm : X.env.frame = some X.env.locals
  inv : Inv X pins σ H sI
  bare : ∀ b o, sI.heap.get? b = some o → b ∉ frs X.stack → B.get? b = some o
  up : sI.heap.UpToSlots s.heap
  fl : HandSPX.FlyingZ B (X.env :: X.outer) a (Zc cls d) s.heap
  na : H a = none
  os : s.os = sI.os
  ag : AllBare s.gens
section
variable {X : Cx} {pins : List (Addr × Obj)} {B : Heap} {sI s : Shared} {σ : L2.St} {H : Hp} {a : Addr} {cls : Value} {d : Option Addr}
/-- a suite begins on it -/
theorem Down.enter (w : Down X pins B sI s σ H a cls d) : ∃ oe vs, Zc cls d oe ∧ oe.data = .fields vs ∧ s.heap.get? a = some oe ∧ Inv X pins σ H s ∧ Inv (X.suite a ((a, oe) :: (X.pn ++ pins))) [] σ H s := by
  have J : Inv X pins σ H s := w.inv.landed w.bare w.fl.1 w.up w.os w.ag
  obtain ⟨oe, vs, he, hz, hd⟩ := w.fl.there
  have out : a ∉ frs (X.env :: X.outer) := fun hm => by
    have ff : s.heap.FunFrames B (X.env :: X.outer) := w.fl.2.2.1
    obtain ⟨_, o', e', no⟩ := ff.mem hm
    rw [he] at e'
    injection e' with e'
    exact no vs (e' ▸ hd)
  have mem : ∀ e ∈ X.env :: X.outer, ∀ b, e.frame = some b → b ≠ a := fun e he' b q z => out (List.mem_filterMap.mpr ⟨e, he', z ▸ q⟩)
  refine ⟨oe, vs, hz, hd, he, J, J.suite he hd w.na (fun z => mem X.env List.mem_cons_self _ w.frm z.symm) fun hm => ?_⟩
  obtain ⟨e, h1, h2⟩ := List.mem_filterMap.mp hm
  exact mem e (List.mem_cons_of_mem _ h1) a h2 rfl
/-- it is taken up anew -/
theorem Down.anew (w : Down X pins B sI s σ H a cls d) {h : Heap} (fl : HandSPX.FlyingZ B (X.env :: X.outer) a (Zc cls d) h) (up : s.heap.UpToSlots h) : Down X pins B sI { s with heap := h } σ H a cls d :=
  ⟨w.stk, w.frm, w.inv, w.bare, w.up.trans up, fl, w.na, w.os, w.ag⟩
/-- no clause is left: it flies on -/
theorem Down.on {W : WX} {Q : Flow → Shared → Prop} (w : Down X pins B sI s σ H a cls d) (tk : Takes X W) (hW : W cls d σ H) : wpAny (model X.prog X.w) X.A (handleBy (.ref a) X.env []) Q X.xe s := by
  refine wpAny_handleBy_nil ?_
  obtain ⟨_, _, _, oe, vs, T, oT, ts', he, hz, hd, hT, hr⟩ := id w.fl
  unfold PySem.passOn
  refine wpAny_bind (wpAny_field he hd hT ?_)
  rw [if_neg (fun e : (Value.ref T == Value.none) = true => by simp at e)]
  have q : wpAny (model X.prog X.w) X.A (setFlight (.ref a) X.env.frame) (fun _ s4 => wpAny (model X.prog X.w) X.A (throw (.ref a) : Sem Flow) Q X.xe s4) X.xe s := by
    rw [w.frm]
    exact HandSPX.setFlight_upZ w.fl fun h4 hh4 up4 => wpAny_throw (tk _ _ ⟨a, B, sI, pins, σ, H, cls, d, rfl, w.inv, w.bare, w.up.trans up4, .inr (.inr (by rw [w.stk]; exact hh4)), w.na, w.os, w.ag, hW⟩)
  first
    | exact wpAny_bind (wpAny_pure (wpAny_bind q))
    | exact wpAny_bind q
/-- one clause, with a name -/
theorem Down.clause {x n : Str} {i : Nat} {c : Value} {ts : Addr → Value → Option Addr → TS} {b₀ : Stmt} {suite : List Stmt} {np pos' : Pos} {hds : List ExceptHandler} {D : Ends} {b : Bool}
    (w : Down X pins B sI s σ H a cls d) (hN : X.N.Nodup) (hi : X.N[i]? = some n) (hln : X.env.kindOf n = some .local) (hc : Names X x c)
    (hsu : ∀ (a : Addr) (oe : Obj) (cls : Value) (d : Option Addr) (pn : List (Addr × Obj)), Zc cls d oe → (∃ vs, oe.data = .fields vs) → PSs (X.suite a ((a, oe) :: pn)) (b₀ :: suite) (ts a cls d))
    (hb : PySem.W.exmOne X.K cls c = some b) (yes : b = true → ts a cls d (goneE i D) (σ.set i (some (.ref a))) H)
    (no : b = false → wpAny (model X.prog X.w) X.A (handleBy (.ref a) X.env hds) (SP X pins D) X.xe s) :
    wpAny (model X.prog X.w) X.A (handleBy (.ref a) X.env (.ExceptHandler (some (.Name x np)) (some n) (b₀ :: suite) pos' :: hds)) (SP X pins D) X.xe s := by
  obtain ⟨oe, vs, hz, hd, he, J, S⟩ := w.enter
  refine wpAny_handleBy_cons (codeAny_handlers_test ?_) (fun q => by cases q)
  have looks := PySem.W.exm_one (M := model X.prog X.w) J.kIn (fun A Q E s k q => wpAny_typeOf_ref (k _ _ he) (by rw [hz.1]; exact q)) hb
  have named : ∀ {Q E : Value → Shared → Prop}, Q c s → wpAny (model X.prog X.w) (X.A.mark (some (.ref a))) (eval (.Name x np) X.env) Q E s := fun q => by
    obtain ⟨gl, dbg, hm | ⟨hm, hv, hnn⟩⟩ := hc
    · exact ld_glob S gl hm q dbg
    · exact ld_blt S gl hm hv q hnn dbg
  refine named (looks.here ?_)
  cases b with
  | false => exact no rfl
  | true =>
    refine codeAny_handlers_suite_as (HandSPX.lands_againZ w.fl fun h4 fl4 up4 => ?_)
    obtain ⟨oe4, vs4, hz4, hd4, _, _, S4⟩ := (w.anew fl4 up4).enter
    refine store_ok (X := X.suite a ((a, oe4) :: (X.pn ++ pins))) (v := .ref a) S4 hN hi (.inl hln) rfl (fun s5 S5 => ?_) (.inr hln)
    refine wpAny_mono ((hsu a oe4 cls d (X.pn ++ pins) hz4 ⟨_, hd4⟩).run [] s5 _ H _ S5 (yes rfl)) (fun f s6 hsp => ?_) fun _ _ z => False.elim z
    have out : ∀ {σ6 : L2.St} {H6 : Hp} {Q : Shared → Prop}, Inv (X.suite a ((a, oe4) :: (X.pn ++ pins))) [] σ6 H6 s6 → (∀ s7, Inv X pins (σ6.set i none) H6 s7 → Q s7) →
        wpAny (model X.prog X.w) X.A (do bindName X.env n .none; unbindBehindTheSuite X.env n pos') (fun _ s7 => Q s7) X.xe s6 := fun S6 hq => gone_ok (S6.unsuite w.inv.ok) hN hi hln hq
    match f, hsp with
    | .next, ⟨σ6, H6, S6, q6⟩ => exact out S6 fun s7 J7 => ⟨_, _, J7, q6⟩
    | .brk, ⟨σ6, H6, S6, q6⟩ => exact out S6 fun s7 J7 => ⟨_, _, J7, q6⟩
    | .cont, ⟨σ6, H6, S6, q6⟩ => exact out S6 fun s7 J7 => ⟨_, _, J7, q6⟩
    | .ret u, ⟨v6, σ6, H6, S6, r6, q6⟩ => exact out S6 fun s7 J7 => ⟨_, _, _, J7, r6, q6⟩
/-- clauses with names, one after the other -/
theorem Down.clauses {W : WX} {D : Ends} (tk : Takes X W) (hN : X.N.Nodup) (w : Down X pins B sI s σ H a cls d) : ∀ {hds : List ExceptHandler} {l : List Cl}, ClsOk X hds l → wAsMany X.K W D l cls d σ H →
    wpAny (model X.prog X.w) X.A (handleBy (.ref a) X.env hds) (SP X pins D) X.xe s
  | _, _, .nil, q => w.on tk q
  | _, _, .cons hi hln hc hsu r, ⟨_, hb, yes, no⟩ => w.clause hN hi hln hc hsu hb (fun e => yes e a w.na) fun e => Down.clauses tk hN w r (no e)
end
section
variable {X : Cx} {body : List Stmt} {h₀ : ExceptHandler} {hds : List ExceptHandler} {l : List Cl} {pos : Pos} {tb : WX → TS} {Wout : WX}
theorem ps_try_asMany (hs : X.stack = X.env :: X.outer) (hf : X.env.frame = some X.env.locals) (hN : X.N.Nodup) (tk : Takes X Wout)
    (hb : ∀ (W : WX) (pins : List (Addr × Obj)) (ex : Value → Shared → Prop), Takes (X.tr pins ex) W → PassesOwn (model X.prog X.w) X.A X.env ex → PSs (X.tr pins ex) body (tb W))
    (hh : ClsOk X (h₀ :: hds) l) : PS X (.Try body (h₀ :: hds) [] [] pos) (fun D σ H => tb (wAsMany X.K Wout D l) D σ H) := by
  refine ⟨fun pins s σ H D I h => ?_⟩
  have ok := I.ok
  refine wpAny_Try_except ?_
  have run := (hb (wAsMany X.K Wout D l) (X.pn ++ pins) (fun e s₁ => wpAny (model X.prog X.w) X.A (noteFrame e X.env) (fun _ s₂ => wpAny (model X.prog X.w) X.A (setFlight e none) (fun _ s₃ =>
    wpAny (model X.prog X.w) X.A (handleBy e X.env (h₀ :: hds)) (SP X pins D) X.xe s₃) X.xe s₂) X.xe s₁) (fun u s' xx => by
      obtain ⟨a, B, sI, pins', σ', H', cls, d, rfl, J', nb, up, sky, na, os, ag, q⟩ := xx
      exact Sky.land Zc.steady (ok.frames.trans (by rw [hs])) hf (by rw [← hs]; exact sky) fun h3 fl3 up3 =>
        Down.clauses tk hN (s := { s' with heap := h3 }) ⟨hs, hf, J'.ofTry ok, nb, up.trans up3, fl3, na, os, ag⟩ hh q) PassesOwn.looking).run [] s σ H D (I.toTry _) h
  refine wpAny_mono run (fun f s1 hsp => ?_) (fun e s1 he => he)
  match f, hsp with
  | .next, ⟨σ', H', J', q⟩ => exact wpAny_execs_nil ⟨σ', H', J'.ofTry ok, q⟩
  | .brk, ⟨σ', H', J', q⟩ => exact ⟨σ', H', J'.ofTry ok, q⟩
  | .cont, ⟨σ', H', J', q⟩ => exact ⟨σ', H', J'.ofTry ok, q⟩
  | .ret u, ⟨v, σ', H', J', r, q⟩ => exact ⟨v, σ', H', J'.ofTry ok, r, q⟩
end
end EV

/-! calls that may raise: o.m() -/
namespace EV
open PySem PySem.Spec PyProof.Rows L2
section
variable {X : Cx} {e o : Expr} {es : List Expr} {t : TA} {ta : TE} {x m : Str} {p pos apos : Pos} {k : Nat} {ps : List Str} {sp : Sp} {C : Addr} {W : WX}
/-- o.m() -/
theorem pe_methX0 {pl : Sem Bool} (tk : Takes X W) (he : PE X o ta) (c : Cls X.K C) (O : OkM (L2.CX X.prog X.w) X.prog X.w X.K X.mg X.base k C m ps sp) (hr : Room k X.A)
    (ht : eval (.Call (.Attribute o m apos) [] [] pos) X.env = (do
      let ov ← eval o X.env
      standAt apos.atName
      let (f, first) ← holding [ov] (getMethod ov m pl)
      callWith pos f first (backTo pos (starEach [] X.env)) (backToKw pos (keywordEach [] X.env))) := by rfl) :
    PE X (.Call (.Attribute o m apos) [] [] pos) (tMethS C m sp (WE W) ta tNil) := by
  obtain ⟨f, fd, F, hm, hb⟩ := O.ex
  refine ⟨fun pins s σ H Q I h => ?_⟩
  refine PySem.W.methodCall_KW (pl := pl) (thn (he.run pins s σ H _ I h) fun u s1 told => ?_) ht
  obtain ⟨x, H1, I1, rx, a, dx, fs, ex, ea, l, q⟩ := told
  subst ex
  obtain rfl : u = Value.ref a := rx
  refine getmeth_ok I1 ea c hm l ?_
  refine PySem.W.callWith_K0 (first := [.ref a]) I1.kIn hm.kp ?_
  exact run_fnS (us := [.ref a]) (vs := [.ref a]) (E := WE W) F hr hb (passAt tk σ) I1 (.cons rfl .nil) q
end
end EV

namespace K36
open PySem PySem.Spec PyProof.Rows L2 EV TL LM PM
/-- a tuple of the written part -/
def TupK (K : Fg) (a : Addr) (xs : List V) : Prop := ∃ (o : Obj) (its : Array Value) (n : Nat), K.lookup a = some o ∧ o.cls = .type "tuple" ∧ o.data = .seq its n ∧ its.size ≤ sizeLine ∧ Vals xs its.toList
theorem TupK.sq {K : Fg} {a : Addr} {xs : List V} {H : Hp} (h : TupK K a xs) : SqT K H a xs := .inr h
/-- the constants of the modules -/
structure Cst (K : Fg) (mg : Str → Option Value) : Prop extends Txt K mg where
  g_LONGEST_NAME : ∃ u, mg "LONGEST_NAME" = some u ∧ RelV (.int 8) u
  g_MOST_OPENED : ∃ u, mg "MOST_OPENED" = some u ∧ RelV (.int 100) u
  g_MOST_STEPS : ∃ u, mg "MOST_STEPS" = some u ∧ RelV (.int 100) u
  g_BINARY_SIGNS : ∃ a, mg "BINARY_SIGNS" = some (.ref a) ∧ TupK K a (binary.map V.str)
  g_UNARY_SIGNS : ∃ a, mg "UNARY_SIGNS" = some (.ref a) ∧ TupK K a (unary.map V.str)
/-! ### Phrase: a text that is read, with the place in it -/
def phF (t : Str) (i : Nat) (wl fl : Addr) : List (Str × V) := [("_text", .str t), ("_at", .int (i : Nat)), ("_waiting", .ref wl), ("_found", .ref fl)]
theorem ph_text {t : Str} {i : Nat} {wl fl : Addr} : (phF t i wl fl).lookup ("_text" : Str) = some (V.str t) := rfl
theorem ph_at {t : Str} {i : Nat} {wl fl : Addr} : (phF t i wl fl).lookup ("_at" : Str) = some (V.int (i : Nat)) := rfl
theorem ph_wait {t : Str} {i : Nat} {wl fl : Addr} : (phF t i wl fl).lookup ("_waiting" : Str) = some (V.ref wl) := rfl
theorem ph_found {t : Str} {i : Nat} {wl fl : Addr} : (phF t i wl fl).lookup ("_found" : Str) = some (V.ref fl) := rfl
theorem ph_put {t : Str} {i j : Nat} {wl fl : Addr} : putF ("_at" : Str) (V.int (j : Nat)) (phF t i wl fl) = phF t j wl fl := by
  unfold phF
  rw [putF, if_neg (by decide +kernel), putF, if_pos rfl]
theorem ph_no {t : Str} {i : Nat} {wl fl : Addr} {m : Str} (h : m ∉ (["_text", "_at", "_waiting", "_found"] : List Str)) : (phF t i wl fl).lookup m = none := by
  simp only [List.mem_cons, List.not_mem_nil, or_false, not_or] at h
  obtain ⟨h1, h2, h3, h4⟩ := h
  unfold phF
  simp only [List.lookup, beq_eq_false_iff_ne.mpr h1, beq_eq_false_iff_ne.mpr h2, beq_eq_false_iff_ne.mpr h3, beq_eq_false_iff_ne.mpr h4]
structure PhC (K : Fg) (C : Addr) : Prop where
  cls : Cls K C
  no : ∀ f ∈ (["_text", "_at", "_waiting", "_found"] : List Str), NoAttr K C f
section
variable {P : Program} {w : World} {K : Fg} {mg : Str → Option Value} {base : Heap}
def spLetter (C : Addr) : Sp := fun vs H Q _ => ∃ (a dx wl fl : Addr) (t : Str) (i : Nat), vs = [.ref a] ∧ H a = some (.ins C dx (phF t i wl fl)) ∧ i ≤ t.length ∧ t.length ≤ 1000000 ∧ Q (.str (letAt t i)) H
theorem ok_letter {f C : Addr} {fd : FuncData} (F : Fun K "_letter" "Phrase._letter" s_Phrase__letter f fd) (T : Cst K mg) (hC : PhC K C) : FnOk P w K mg base CX0 1 f fd ["self"] (spLetter C) := by
  refine F.ok sc_Phrase__letter (fun vs H Q E h => ?_) (fun cdv A outer s H vs Q E hr h => ?_)
  · obtain ⟨a, dx, wl, fl, t, i, rfl, _⟩ := h
    rfl
  · obtain ⟨a, dx, wl, fl, t, i, rfl, ha, hi, hl, k⟩ := h
    refine ⟨_, (pss_one (ps_ret (pe_slice sl_str (pe_fld (pv 0) rfl) (po_some (pe_fld (pv 0) rfl)) (po_some (pe_op op_add (pe_fld (pv 0) rfl) pe_int))))), ?_⟩
    refine ⟨_, rfl, a, C, dx, _, _, rfl, ha, hC.cls, hC.no _ (by simp), ph_text, _, rfl, a, C, dx, _, _, rfl, ha, hC.cls, hC.no _ (by simp), ph_at, _, rfl, _, rfl, a, C, dx, _, _, rfl, ha, hC.cls, hC.no _ (by simp), ph_at, _, _, rfl, rfl, _, rfl, t, rfl, by rw [sizeLine_eq]; omega, ?_⟩
    rw [cut_let hi]
    exact k
/-- low <= letter <= high, for two letters -/
def spBetw (C : Addr) : Sp := fun vs H Q _ => ∃ (a dx wl fl : Addr) (t : Str) (i lo hi : Nat), vs = [.ref a, .str ⟨#[lo]⟩, .str ⟨#[hi]⟩] ∧ H a = some (.ins C dx (phF t i wl fl)) ∧ i ≤ t.length ∧ t.length ≤ 1000000 ∧ Q (.bl (betw lo hi t i)) H
theorem ok_between {f C : Addr} {fd : FuncData} (F : Fun K "_is_between" "Phrase._is_between" s_Phrase__is_between f fd) (T : Cst K mg) (hC : PhC K C) (O_letter : OkM CX0 P w K mg base 1 C "_letter" ["self"] (spLetter C)) :
    FnOk P w K mg base CX0 2 f fd ["self", "low", "high"] (spBetw C) := by
  refine F.ok sc_Phrase__is_between (fun vs H Q E h => ?_) (fun cdv A outer s H vs Q E hr h => ?_)
  · obtain ⟨a, dx, wl, fl, t, i, lo, hi, rfl, _⟩ := h
    rfl
  · obtain ⟨a, dx, wl, fl, t, i, lo, hi, rfl, ha, hi1, hl, k⟩ := h
    refine ⟨_, (pss_one (ps_ret (pe_chain op_le_str op_le_str (pv 1) (pe_methO0 (pv 0) hC.cls O_letter (hr.mono (by decide))) (pv 2)))), ?_⟩
    refine ⟨_, rfl, _, rfl, a, dx, _, rfl, ha, ph_no (by decide +kernel), a, dx, wl, fl, t, i, rfl, ha, hi1, hl, _, _, rfl, rfl, ?_⟩
    unfold betw at k
    cases e : (tl t)[i]? with
    | none =>
      rw [e] at k
      have e2 : letAt t i = ⟨#[]⟩ := by
        unfold letAt
        rw [List.drop_of_length_le (List.getElem?_eq_none_iff.mp e)]
        rfl
      rw [e2]
      have e3 : (!decide ((⟨#[]⟩ : Str).cps.toList < (⟨#[lo]⟩ : Str).cps.toList)) = false := by
        rw [decide_eq_true (show ([] : List Nat) < [lo] from List.nil_lt_cons lo [])]
        rfl
      rw [e3]
      exact ⟨_, rfl, iteF k⟩
    | some c =>
      rw [e] at k
      change Q (.bl (decide (lo ≤ c) && decide (c ≤ hi))) H at k
      have e2 : letAt t i = ⟨#[c]⟩ := by
        unfold letAt
        obtain ⟨hj, hc⟩ := List.getElem?_eq_some_iff.mp e
        rw [List.drop_eq_getElem_cons hj, hc]
        rfl
      rw [e2]
      rw [show (!decide ((⟨#[c]⟩ : Str).cps.toList < (⟨#[lo]⟩ : Str).cps.toList)) = decide (lo ≤ c) from le_one lo c]
      cases e3 : decide (lo ≤ c) with
      | false =>
        rw [e3] at k
        exact ⟨_, rfl, iteF k⟩
      | true =>
        rw [e3] at k
        refine ⟨_, rfl, iteT ⟨_, rfl, _, _, rfl, rfl, ?_⟩⟩
        rw [show (!decide ((⟨#[hi]⟩ : Str).cps.toList < (⟨#[c]⟩ : Str).cps.toList)) = decide (c ≤ hi) from le_one c hi]
        exact k
theorem s_a : ("a" : Str) = ⟨#[97]⟩ := by decide +kernel
theorem s_z : ("z" : Str) = ⟨#[122]⟩ := by decide +kernel
theorem upd_upd {H : Hp} {p : Addr} {o u : HO} : upd (upd H p o) p u = upd H p u := by
  funext b
  by_cases e : b = p
  · rw [e, upd_same, upd_same]
  · rw [upd_ne e, upd_ne e, upd_ne e]
theorem ph_inc {H : Hp} {a C dx wl fl : Addr} {t : Str} {j : Nat} : upd (upd H a (.ins C dx (phF t j wl fl))) a (.ins C dx (putF ("_at" : Str) (V.int (((j : Nat) : Int) + 1)) (phF t j wl fl))) = upd H a (.ins C dx (phF t (j + 1) wl fl)) := by
  rw [show (((j : Nat) : Int) + 1) = ((j + 1 : Nat) : Int) by omega, ph_put, upd_upd]
theorem ph_inc0 {H : Hp} {a C dx wl fl : Addr} {t : Str} {j : Nat} : upd H a (.ins C dx (putF ("_at" : Str) (V.int (((j : Nat) : Int) + 1)) (phF t j wl fl))) = upd H a (.ins C dx (phF t (j + 1) wl fl)) := by
  rw [show (((j : Nat) : Int) + 1) = ((j + 1 : Nat) : Int) by omega, ph_put]
/-- the small letters are passed -/
def spSkip (C : Addr) : Sp := fun vs H Q _ => ∃ (a dx wl fl : Addr) (t : Str) (i n : Nat), vs = [.ref a, .int ((i + n : Nat) : Int)] ∧ H a = some (.ins C dx (phF t i wl fl)) ∧ i ≤ t.length ∧ t.length ≤ 1000000 ∧ n ≤ 1000000 ∧
  ∀ H', H' = upd H a (.ins C dx (phF t (i + smallN t i n) wl fl)) → Q .non H'
theorem ok_skip {f C : Addr} {fd : FuncData} (F : Fun K "_skip_small" "Phrase._skip_small" s_Phrase__skip_small f fd) (T : Cst K mg) (hC : PhC K C)
    (O_between : OkM CX0 P w K mg base 2 C "_is_between" ["self", "low", "high"] (spBetw C)) : FnOk P w K mg base CX0 3 f fd ["self", "end"] (spSkip C) := by
  refine F.ok sc_Phrase__skip_small (fun vs H Q E h => ?_) (fun cdv A outer s H vs Q E hr h => ?_)
  · obtain ⟨a, dx, wl, fl, t, i, n, rfl, _⟩ := h
    rfl
  · obtain ⟨a, dx, wl, fl, t, i, n, rfl, ha, hi, hl, hn, k⟩ := h
    refine ⟨_, (pss_one (ps_while PassesOwn.never (PW.pt (pw_and (pt_cmpR op_lt (pe_fld (pv 0) rfl) (pv 1) (nomark _)) (pw_and1 (pt_val (pe_methO (pv 0) hC.cls O_between (hr.mono (by decide)) (pa_cons pe_str (pa_cons pe_str pa_nil))))))) (pss_one (ps_fldaug (pv 0) pe_int ip_add)))), ?_⟩
    refine ⟨fun m σ G => ∃ j, j ≤ t.length ∧ j ≤ i + n ∧ m = i + n - j ∧ i ≤ j ∧ j + smallN t j (i + n - j) = i + smallN t i n ∧ G = upd H a (.ins C dx (phF t j wl fl)) ∧ σ = [some (.ref a), some (.int ((i + n : Nat) : Int))], ⟨n, i, hi, by omega, by omega, by omega, by rw [Nat.add_sub_cancel_left], ?_, rfl⟩, ?_⟩
    · funext b
      by_cases e : b = a
      · rw [e, upd_same]
        exact ha
      · rw [upd_ne e]
    · rintro m σ G ⟨j, j1, j2, rfl, j3, j4, rfl, rfl⟩
      have hg : ∀ {o : HO}, upd H a o a = some o := upd_same
      refine ⟨_, rfl, a, C, dx, _, _, rfl, hg, hC.cls, hC.no _ (by simp), ph_at, _, rfl, _, _, rfl, rfl, _, rfl, ?_⟩
      by_cases hlt : j < i + n
      · rw [decide_eq_true (show ((j : Nat) : Int) < ((i + n : Nat) : Int) by omega)]
        refine iteT ⟨_, rfl, a, dx, _, rfl, hg, ph_no (by decide +kernel), a, dx, wl, fl, t, j, 97, 122, by rw [s_a, s_z]; rfl, hg, j1, hl, _, rfl, ?_⟩
        cases e : betw 97 122 t j with
        | true =>
          have hjt : j < t.length := by
            unfold betw at e
            cases e2 : (tl t)[j]? with
            | none => rw [e2] at e; cases e
            | some c => have := (List.getElem?_eq_some_iff.mp e2).1; rw [← len_tl] at this; exact this
          have hs := small_step (n := i + n - j) e (by omega)
          refine iteT ⟨fun σ' G' => G' = upd H a (.ins C dx (phF t (j + 1) wl fl)) ∧ σ' = [some (.ref a), some (.int ((i + n : Nat) : Int))], ?_, ?_⟩
          · rintro σ' G' ⟨rfl, rfl⟩
            refine ⟨i + n - (j + 1), by omega, j + 1, hjt, by omega, rfl, by omega, ?_, rfl, rfl⟩
            rw [show i + n - (j + 1) = i + n - j - 1 by omega]
            omega
          · refine ⟨_, rfl, a, C, dx, _, _, rfl, hg, hC.cls, hC.no _ (by simp), ph_at, _, _, rfl, rfl, dx, _, hg, by show 4 < 1000; decide, ?_, rfl⟩
            exact ph_inc
        | false =>
          have hs := small_stop (t := t) (i := j) (n := i + n - j) (.inl e)
          refine iteF (k _ ?_)
          rw [show i + smallN t i n = j by omega]
      · rw [decide_eq_false (show ¬ ((j : Nat) : Int) < ((i + n : Nat) : Int) by omega)]
        have hs := small_stop (t := t) (i := j) (n := i + n - j) (.inr (by omega))
        refine iteF (iteF (k _ ?_))
        rw [show i + smallN t i n = j by omega]
/-! ### the error, and what may raise it -/
def spErr1 (C : Addr) (f : Str) : Sp := fun vs H Q _ => ∃ (H0 : Hp) (a : Addr) (y : V), vs = [.ref a, y] ∧ H = upd H0 a (exo a C none) ∧ H0 a = none ∧
  ∀ H' d, Same H0 H' → H0 d = none → H' a = some (exo a C (some d)) → H' d = some (exd d [(f, y)]) → Q .non H'
theorem same_raise {H0 H2 : Hp} {a d : Addr} {o : HO} (s : Same H0 H2) (na : H0 a = none) (nd : H0 d = none) : Same H0 (upd (del H2 a) d o) := fun b u z => by
  rw [upd_ne (ne_of_none z nd), del_ne (ne_of_none z na)]
  exact s b u z
theorem ok_BadExpression {f C : Addr} {fd : FuncData} (F : Fun K "__init__" "BadExpression.__init__" s_BadExpression___init__ f fd) (x : XCls K C) (n : NoAttr K C "at") : FnOk P w K mg base CX0 1 f fd ["self", "at"] (spErr1 C "at") := by
  refine F.ok sc_BadExpression___init__ (fun vs H Q E h => ?_) (fun cdv A outer s H vs Q E hr h => ?_)
  · obtain ⟨H0, a, y, rfl, _⟩ := h
    rfl
  · obtain ⟨H0, a, y, rfl, rfl, na, k⟩ := h
    refine ⟨_, pss_one (ps_put1 (pv 0) (pv 1)), ⟨_, rfl, _, rfl, a, C, rfl, x, n, upd_same, fun dx nd ne => ?_⟩⟩
    rw [upd_ne ne] at nd
    refine k _ dx (fun b o z => ?_) nd upd_same ?_
    · rw [upd_ne (ne_of_none z na), upd_ne (ne_of_none z nd), upd_ne (ne_of_none z na)]
      exact z
    · rw [upd_ne ne]
      exact upd_same
/-- all but the phrase and its two lists is as it was -/
def KeepP (a wl fl : Addr) (H H' : Hp) : Prop := ∀ b u, b ≠ a → b ≠ wl → b ≠ fl → H b = some u → H' b = some u
theorem KeepP.refl {a wl fl : Addr} (H : Hp) : KeepP a wl fl H H := fun _ _ _ _ _ h => h
theorem KeepP.trans {a wl fl : Addr} {H H1 H2 : Hp} (h : KeepP a wl fl H H1) (g : KeepP a wl fl H1 H2) : KeepP a wl fl H H2 := fun b u n1 n2 n3 z => g b u n1 n2 n3 (h b u n1 n2 n3 z)
theorem KeepP.of {a wl fl : Addr} {H H' : Hp} (s : Same H H') : KeepP a wl fl H H' := fun b u _ _ _ z => s b u z
theorem KeepP.at {a wl fl : Addr} {H : Hp} {o : HO} : KeepP a wl fl H (upd H a o) := fun b u n1 _ _ z => by rw [upd_ne n1]; exact z
/-- BadExpression in the air, told this place -/
def Bad (C a wl fl : Addr) (k : Nat) (H : Hp) (E : XK) : Prop := ∀ d H', KeepP a wl fl H H' → H' d = some (.xd [("at", V.int (k : Nat))]) → E (.ref C) (some d) H'
theorem Bad.keep {C a wl fl : Addr} {k : Nat} {H H1 : Hp} {E : XK} (b : Bad C a wl fl k H E) (h : KeepP a wl fl H H1) : Bad C a wl fl k H1 E := fun d H' h2 hd => b d H' (h.trans h2) hd
/-- what pmk_x asks of such an error -/
theorem raise_at {C a wl fl : Addr} {k : Nat} {H : Hp} {E : XK} (ke : Bad C a wl fl k H E) : ([V.int (k : Nat)] : List V).length ≤ 1000 ∧ ∀ e, H e = none → spErr1 C "at" (.ref e :: ([V.int (k : Nat)] ++ [])) (upd H e (exo e C none))
    (fun v H2 => v = .non ∧ ∃ (d : Addr) (fs : List (Str × V)), H2 e = some (exo e C (some d)) ∧ H2 d = some (exd d fs) ∧ H d = none ∧ E (.ref C) (some d) (upd (del H2 e) d (.xd fs))) (fun _ _ _ => False) := by
  refine ⟨by show 1 ≤ 1000; decide, fun e ne => ⟨H, e, _, rfl, rfl, ne, fun H' d s9 nd ha hd => ⟨rfl, d, _, ha, hd, nd, ke d _ (KeepP.of (same_raise s9 ne nd)) upd_same⟩⟩⟩
/-- the letter that must stand there -/
def spTakeL (C CB : Addr) : Sp := fun vs H Q E => ∃ (a dx wl fl : Addr) (t : Str) (i c : Nat), vs = [.ref a, .str ⟨#[c]⟩] ∧ H a = some (.ins C dx (phF t i wl fl)) ∧ i ≤ t.length ∧ t.length ≤ 1000000 ∧
  ((tl t)[i]? = some c → Q .non (upd H a (.ins C dx (phF t (i + 1) wl fl)))) ∧ ((tl t)[i]? ≠ some c → Bad CB a wl fl i H E)
theorem let_ne {t : Str} {i c : Nat} : letAt t i = ⟨#[c]⟩ ↔ (tl t)[i]? = some c := by
  constructor
  · intro h
    cases e : (tl t)[i]? with
    | none =>
      rw [show letAt t i = ⟨#[]⟩ by
        unfold letAt
        rw [List.drop_of_length_le (List.getElem?_eq_none_iff.mp e)]
        rfl] at h
      injection h with h
      injection h with h
      cases h
    | some d =>
      rw [let_at e] at h
      injection h with h
      injection h with h
      injection h with h
      rw [h]
  · exact let_at
theorem ok_take {f C CB : Addr} {fd : FuncData} (F : Fun K "_take" "Phrase._take" s_Phrase__take f fd) (T : Cst K mg) (hC : PhC K C) (O_BadExpression : OkC P w K mg base 1 "BadExpression" CB ["self", "at"] (spErr1 CB "at")) (ty_BadExpression : PySem.W.typeIn K (.ref CB) = some (.type "type"))
    (O_letter : OkM CX0 P w K mg base 1 C "_letter" ["self"] (spLetter C)) : FnOk P w K mg base (L2.CX P w) 3 f fd ["self", "letter"] (spTakeL C CB) := by
  refine F.okX sc_Phrase__take (fun vs H Q E h => ?_) (fun cdv A outer s H vs Q E hr h => ?_)
  · obtain ⟨a, dx, wl, fl, t, i, c, rfl, _⟩ := h
    rfl
  · obtain ⟨a, dx, wl, fl, t, i, c, rfl, ha, hi, hl, k1, k2⟩ := h
    refine ⟨_, (pss_cons (ps_if (pt_cmpR op_ne (pe_methO0 (pv 0) hC.cls O_letter (hr.mono (by decide))) (pv 1) (nomark _)) (pss_one (ps_raise rfl (takes_of rfl rfl rfl rfl) (pmk_x O_BadExpression ty_BadExpression (hr.mono (by decide)) (pa_cons (pe_fld (pv 0) rfl) pa_nil)))) pss_nil)
    (pss_one (ps_fldaug (pv 0) pe_int ip_add))), ?_⟩
    refine ⟨_, rfl, a, dx, _, rfl, ha, ph_no (by decide +kernel), a, dx, wl, fl, t, i, rfl, ha, hi, hl, _, rfl, rfl, _, rfl, ?_⟩
    by_cases e : (tl t)[i]? = some c
    · rw [let_at e, decide_eq_true rfl]
      refine iteF ⟨_, rfl, a, C, dx, _, _, rfl, ha, hC.cls, hC.no _ (by simp), ph_at, _, _, rfl, rfl, dx, _, ha, by show 4 < 1000; decide, ?_⟩
      show Q .non (upd H a (.ins C dx (putF ("_at" : Str) (V.int (((i : Nat) : Int) + 1)) (phF t i wl fl))))
      rw [ph_inc0]
      exact k1 e
    · rw [decide_eq_false (show ¬ V.str (letAt t i) = V.str ⟨#[c]⟩ from fun q => e (let_ne.mp (by injection q)))]
      exact iteT ⟨_, rfl, a, C, dx, _, _, rfl, ha, hC.cls, hC.no _ (by simp), ph_at, raise_at (k2 e)⟩
end
end K36

namespace K36
open PySem PySem.Spec PyProof.Rows L2 EV TL LM PM
section
variable {P : Program} {w : World} {K : Fg} {mg : Str → Option Value} {base : Heap}
/-- a word of small letters, eight at most -/
def spWord (C CB : Addr) : Sp := fun vs H Q E => ∃ (a dx wl fl : Addr) (t : Str) (i : Nat), vs = [.ref a] ∧ H a = some (.ins C dx (phF t i wl fl)) ∧ i ≤ t.length ∧ t.length ≤ 1000000 ∧
  (0 < smallN t i 8 → Q (.str (subT t i (smallN t i 8))) (upd H a (.ins C dx (phF t (i + smallN t i 8) wl fl)))) ∧ (smallN t i 8 = 0 → Bad CB a wl fl i H E)
theorem ok_word {f C CB : Addr} {fd : FuncData} (F : Fun K "_take_word" "Phrase._take_word" s_Phrase__take_word f fd) (T : Cst K mg) (hC : PhC K C) (O_BadExpression : OkC P w K mg base 1 "BadExpression" CB ["self", "at"] (spErr1 CB "at")) (ty_BadExpression : PySem.W.typeIn K (.ref CB) = some (.type "type")) (O_skip_small : OkM CX0 P w K mg base 3 C "_skip_small" ["self", "end"] (spSkip C)) :
    FnOk P w K mg base (L2.CX P w) 4 f fd ["self"] (spWord C CB) := by
  refine F.okX sc_Phrase__take_word (fun vs H Q E h => ?_) (fun cdv A outer s H vs Q E hr h => ?_)
  · obtain ⟨a, dx, wl, fl, t, i, rfl, _⟩ := h
    rfl
  · obtain ⟨a, dx, wl, fl, t, i, rfl, ha, hi, hl, k1, k2⟩ := h
    obtain ⟨sm1, sm2⟩ := small_le t i 8
    refine ⟨_, (pss_cons (ps_set (i := 1) sc_Phrase__take_word.nd rfl (Or.inl rfl) (pe_fld (pv 0) rfl))
    (pss_cons (ps_expr (pe_methO (pv 0) hC.cls O_skip_small (hr.mono (by decide)) (pa_cons (pe_op op_add (pv 1) (pe_gv T.g_LONGEST_NAME)) pa_nil)))
    (pss_cons (ps_if (pt_cmpR op_eq (pe_fld (pv 0) rfl) (pv 1) (nomark _)) (pss_one (ps_raise rfl (takes_of rfl rfl rfl rfl) (pmk_x O_BadExpression ty_BadExpression (hr.mono (by decide)) (pa_cons (pe_fld (pv 0) rfl) pa_nil)))) pss_nil)
    (pss_one (ps_ret (pe_slice sl_str (pe_fld (pv 0) rfl) (po_some (pv 1)) (po_some (pe_fld (pv 0) rfl)))))))), ?_⟩
    refine ⟨_, rfl, a, C, dx, _, _, rfl, ha, hC.cls, hC.no _ (by simp), ph_at, ?_⟩
    refine ⟨_, rfl, a, dx, _, rfl, ha, ph_no (by decide +kernel), _, rfl, _, _, rfl, rfl, a, dx, wl, fl, t, i, 8, rfl, ha, hi, hl, by decide, fun H' e => ?_⟩
    subst e
    have hg : ∀ {o : HO}, upd H a o a = some o := upd_same
    refine ⟨_, rfl, a, C, dx, _, _, rfl, hg, hC.cls, hC.no _ (by simp), ph_at, _, rfl, rfl, _, rfl, ?_⟩
    by_cases n0 : smallN t i 8 = 0
    · rw [decide_eq_true (show V.int ((i + smallN t i 8 : Nat) : Int) = V.int ((i : Nat) : Int) by rw [n0]; rfl)]
      refine iteT ⟨_, rfl, a, C, dx, _, _, rfl, hg, hC.cls, hC.no _ (by simp), ph_at, ?_⟩
      rw [show (i + smallN t i 8) = i by omega]
      exact raise_at ((k2 n0).keep KeepP.at)
    · rw [decide_eq_false (show ¬ V.int ((i + smallN t i 8 : Nat) : Int) = V.int ((i : Nat) : Int) from fun e => by injection e with e; omega)]
      refine iteF ⟨_, rfl, a, C, dx, _, _, rfl, hg, hC.cls, hC.no _ (by simp), ph_text, _, rfl, _, rfl, _, rfl, a, C, dx, _, _, rfl, hg, hC.cls, hC.no _ (by simp), ph_at, _, rfl, t, rfl, by rw [sizeLine_eq]; omega, ?_⟩
      rw [cut_sub (by omega)]
      exact k1 (by omega)
/-- a class name -/
def spClass (C CB : Addr) : Sp := fun vs H Q E => ∃ (a dx wl fl : Addr) (t : Str) (i : Nat), vs = [.ref a] ∧ H a = some (.ins C dx (phF t i wl fl)) ∧ i ≤ t.length ∧ t.length ≤ 1000000 ∧
  (betw 65 90 t i = true → Q (.str (subT t i (smallN t (i + 1) 7 + 1))) (upd H a (.ins C dx (phF t (i + (smallN t (i + 1) 7 + 1)) wl fl)))) ∧ (betw 65 90 t i = false → Bad CB a wl fl i H E)
theorem s_A : ("A" : Str) = ⟨#[65]⟩ := by decide +kernel
theorem s_Z : ("Z" : Str) = ⟨#[90]⟩ := by decide +kernel
theorem ok_class {f C CB : Addr} {fd : FuncData} (F : Fun K "_take_class" "Phrase._take_class" s_Phrase__take_class f fd) (T : Cst K mg) (hC : PhC K C) (O_BadExpression : OkC P w K mg base 1 "BadExpression" CB ["self", "at"] (spErr1 CB "at")) (ty_BadExpression : PySem.W.typeIn K (.ref CB) = some (.type "type")) (O_is_between : OkM CX0 P w K mg base 2 C "_is_between" ["self", "low", "high"] (spBetw C))
    (O_skip_small : OkM CX0 P w K mg base 3 C "_skip_small" ["self", "end"] (spSkip C)) : FnOk P w K mg base (L2.CX P w) 4 f fd ["self"] (spClass C CB) := by
  refine F.okX sc_Phrase__take_class (fun vs H Q E h => ?_) (fun cdv A outer s H vs Q E hr h => ?_)
  · obtain ⟨a, dx, wl, fl, t, i, rfl, _⟩ := h
    rfl
  · obtain ⟨a, dx, wl, fl, t, i, rfl, ha, hi0, hl, k1, k2⟩ := h
    refine ⟨_, (pss_cons (ps_if (pt_not (pt_val (pe_methO (pv 0) hC.cls O_is_between (hr.mono (by decide)) (pa_cons pe_str (pa_cons pe_str pa_nil))))) (pss_one (ps_raise rfl (takes_of rfl rfl rfl rfl) (pmk_x O_BadExpression ty_BadExpression (hr.mono (by decide)) (pa_cons (pe_fld (pv 0) rfl) pa_nil)))) pss_nil)
    (pss_cons (ps_set (i := 1) sc_Phrase__take_class.nd rfl (Or.inl rfl) (pe_fld (pv 0) rfl))
    (pss_cons (ps_fldaug (pv 0) pe_int ip_add)
    (pss_cons (ps_expr (pe_methO (pv 0) hC.cls O_skip_small (hr.mono (by decide)) (pa_cons (pe_op op_add (pv 1) (pe_gv T.g_LONGEST_NAME)) pa_nil)))
    (pss_one (ps_ret (pe_slice sl_str (pe_fld (pv 0) rfl) (po_some (pv 1)) (po_some (pe_fld (pv 0) rfl))))))))), ?_⟩
    refine ⟨_, rfl, a, dx, _, rfl, ha, ph_no (by decide +kernel), a, dx, wl, fl, t, i, 65, 90, by rw [s_A, s_Z]; rfl, ha, hi0, hl, _, rfl, ?_⟩
    cases hb : betw 65 90 t i with
    | false => exact iteT ⟨_, rfl, a, C, dx, _, _, rfl, ha, hC.cls, hC.no _ (by simp), ph_at, raise_at (k2 hb)⟩
    | true =>
      have hi := betw_lt hb
      obtain ⟨sm1, sm2⟩ := small_le t (i + 1) 7
      refine iteF ⟨_, rfl, a, C, dx, _, _, rfl, ha, hC.cls, hC.no _ (by simp), ph_at, ?_⟩
      refine ⟨_, rfl, a, C, dx, _, _, rfl, ha, hC.cls, hC.no _ (by simp), ph_at, _, _, rfl, rfl, dx, _, ha, by show 4 < 1000; decide, ?_⟩
      have hg : ∀ {o : HO}, upd H a o a = some o := upd_same
      have e0 : upd H a (.ins C dx (putF ("_at" : Str) (V.int (((i : Nat) : Int) + 1)) (phF t i wl fl))) = upd H a (.ins C dx (phF t (i + 1) wl fl)) := ph_inc0
      have ha1 := (congrFun e0 a).trans hg
      have e8 : [V.ref a, V.int (((i : Nat) : Int) + 8)] = [V.ref a, V.int ((i + 1 + 7 : Nat) : Int)] := by rw [show (((i : Nat) : Int) + 8) = ((i + 1 + 7 : Nat) : Int) by omega]
      refine ⟨_, rfl, a, dx, _, rfl, ha1, ph_no (by decide +kernel), _, rfl, _, _, rfl, rfl, a, dx, wl, fl, t, i + 1, 7, e8, ha1, by omega, hl, by decide, fun H' e => ?_⟩
      rw [upd_upd] at e
      subst e
      refine ⟨_, rfl, a, C, dx, _, _, rfl, hg, hC.cls, hC.no _ (by simp), ph_text, _, rfl, _, rfl, _, rfl, a, C, dx, _, _, rfl, hg, hC.cls, hC.no _ (by simp), ph_at, _, rfl, t, rfl, by rw [sizeLine_eq]; omega, ?_⟩
      rw [show i + 1 + smallN t (i + 1) 7 = i + (smallN t (i + 1) 7 + 1) by omega, cut_sub (by omega)]
      exact k1 hb
/-- a request -/
def spReq (C CB : Addr) : Sp := fun vs H Q E => ∃ (a dx wl fl : Addr) (t : Str) (i : Nat), vs = [.ref a] ∧ H a = some (.ins C dx (phF t i wl fl)) ∧ i ≤ t.length ∧ t.length ≤ 1000000 ∧
  (smallN t i 8 = 0 → Bad CB a wl fl i H E) ∧ (0 < smallN t i 8 → unary.contains (subT t i (smallN t i 8)) = true → Bad CB a wl fl (i + smallN t i 8) H E) ∧
  (0 < smallN t i 8 → unary.contains (subT t i (smallN t i 8)) = false → Q (.str (subT t i (smallN t i 8))) (upd H a (.ins C dx (phF t (i + smallN t i 8) wl fl))))
theorem ok_request {f C CB : Addr} {fd : FuncData} (F : Fun K "_take_request" "Phrase._take_request" s_Phrase__take_request f fd) (T : Cst K mg) (hC : PhC K C) (O_BadExpression : OkC P w K mg base 1 "BadExpression" CB ["self", "at"] (spErr1 CB "at")) (ty_BadExpression : PySem.W.typeIn K (.ref CB) = some (.type "type")) (O_take_word : OkM (L2.CX P w) P w K mg base 4 C "_take_word" ["self"] (spWord C CB)) :
    FnOk P w K mg base (L2.CX P w) 5 f fd ["self"] (spReq C CB) := by
  obtain ⟨aU, m_U, tU⟩ := T.g_UNARY_SIGNS
  refine F.okX sc_Phrase__take_request (fun vs H Q E h => ?_) (fun cdv A outer s H vs Q E hr h => ?_)
  · obtain ⟨a, dx, wl, fl, t, i, rfl, _⟩ := h
    rfl
  · obtain ⟨a, dx, wl, fl, t, i, rfl, ha, hi, hl, k0, k1, k2⟩ := h
    refine ⟨_, (pss_cons (ps_set (i := 1) sc_Phrase__take_request.nd rfl (Or.inl rfl) (pe_methX0 (takes_of rfl rfl rfl rfl) (pv 0) hC.cls O_take_word (hr.mono (by decide))))
    (pss_cons (ps_if (pt_cmpR op_in_seq (pv 1) (pe_glob (v := .ref _) rfl m_U rfl) (by rfl)) (pss_one (ps_raise rfl (takes_of rfl rfl rfl rfl) (pmk_x O_BadExpression ty_BadExpression (hr.mono (by decide)) (pa_cons (pe_fld (pv 0) rfl) pa_nil)))) pss_nil)
    (pss_one (ps_ret (pv 1))))), ?_⟩
    refine ⟨_, rfl, a, dx, _, rfl, ha, ph_no (by decide +kernel), a, dx, wl, fl, t, i, rfl, ha, hi, hl, fun n0 => ?_, k0⟩
    refine ⟨_, rfl, aU, _, rfl, .inr tU.sq, rfl, flat_strs _, _, rfl, ?_⟩
    rw [inV_strs]
    cases hu : unary.contains (subT t i (smallN t i 8)) with
    | false => exact iteF ⟨_, rfl, k2 n0 hu⟩
    | true => exact iteT ⟨_, rfl, a, C, dx, _, _, rfl, upd_same, hC.cls, hC.no _ (by simp), ph_at, raise_at ((k1 n0 hu).keep KeepP.at)⟩
/-- an opening parenthesis stands there -/
def spOpen (C CB : Addr) : Sp := fun vs H Q E => ∃ (a dx wl fl : Addr) (t kind : Str) (i : Nat) (ws : List Str), vs = [.ref a, .str kind] ∧ H a = some (.ins C dx (phF t i wl fl)) ∧ H wl = some (.lst (ws.map V.str)) ∧ ws.length ≤ 100 ∧ (tl t)[i]? = some 40 ∧ t.length ≤ 1000000 ∧
  (ws.length = 100 → Bad CB a wl fl i H E) ∧ (ws.length ≠ 100 → ∀ G, G = upd (upd H a (.ins C dx (phF t (i + 1) wl fl))) wl (.lst ((ws ++ [kind]).map V.str)) → Q .non G)
theorem s_open : ("(" : Str) = ⟨#[40]⟩ := by decide +kernel
theorem s_close : (")" : Str) = ⟨#[41]⟩ := by decide +kernel
theorem s_space : (" " : Str) = ⟨#[32]⟩ := by decide +kernel
theorem s_dot : ("." : Str) = ⟨#[46]⟩ := by decide +kernel
theorem s_colon : (":" : Str) = ⟨#[58]⟩ := by decide +kernel
theorem ok_opening {f C CB : Addr} {fd : FuncData} (F : Fun K "_take_opening" "Phrase._take_opening" s_Phrase__take_opening f fd) (T : Cst K mg) (hC : PhC K C) (O_BadExpression : OkC P w K mg base 1 "BadExpression" CB ["self", "at"] (spErr1 CB "at")) (ty_BadExpression : PySem.W.typeIn K (.ref CB) = some (.type "type")) (O_take : OkM (L2.CX P w) P w K mg base 3 C "_take" ["self", "letter"] (spTakeL C CB)) :
    FnOk P w K mg base (L2.CX P w) 4 f fd ["self", "kind"] (spOpen C CB) := by
  refine F.okX sc_Phrase__take_opening (fun vs H Q E h => ?_) (fun cdv A outer s H vs Q E hr h => ?_)
  · obtain ⟨a, dx, wl, fl, t, kind, i, ws, rfl, _⟩ := h
    rfl
  · obtain ⟨a, dx, wl, fl, t, kind, i, ws, rfl, ha, hw, lw, hc, hl, k1, k2⟩ := h
    have nwa : wl ≠ a := fun e => by rw [e, ha] at hw; cases hw
    refine ⟨_, (pss_cons (ps_if (pt_cmpR op_eq (pe_callB call_len_seq (by rfl) T.n_len (by decide +kernel) (pa_cons (pe_fld (pv 0) rfl) pa_nil)) (pe_gv T.g_MOST_OPENED) (nomark _)) (pss_one (ps_raise rfl (takes_of rfl rfl rfl rfl) (pmk_x O_BadExpression ty_BadExpression (hr.mono (by decide)) (pa_cons (pe_fld (pv 0) rfl) pa_nil)))) pss_nil)
    (pss_cons (ps_expr (pe_methX (takes_of rfl rfl rfl rfl) (pv 0) hC.cls O_take (hr.mono (by decide)) (pa_cons pe_str pa_nil)))
    (pss_one (ps_expr (pe_bm PySem.F.plainAttrs_list PySem.F.slot_list_append PySem.F.type_list_append mt_append (pe_fld (pv 0) rfl) (pa_cons (pv 1) pa_nil)))))), ?_⟩
    refine ⟨_, rfl, a, C, dx, _, _, rfl, ha, hC.cls, hC.no _ (by simp), ph_wait, wl, _, rfl, .inl (SqL.of hw), rfl, _, rfl, ?_⟩
    rw [List.length_map]
    by_cases e : ws.length = 100
    · rw [decide_eq_true (show V.int ((ws.length : Nat) : Int) = V.int 100 by rw [e]; rfl)]
      exact iteT ⟨_, rfl, a, C, dx, _, _, rfl, ha, hC.cls, hC.no _ (by simp), ph_at, raise_at (k1 e)⟩
    · rw [decide_eq_false (show ¬ V.int ((ws.length : Nat) : Int) = V.int 100 from fun q => by injection q with q; omega)]
      refine iteF ⟨_, rfl, a, dx, _, rfl, ha, ph_no (by decide +kernel), a, dx, wl, fl, t, i, 40, by rw [s_open], ha, Nat.le_of_lt (at_lt hc), hl, fun _ => ?_, fun q => absurd hc q⟩
      have hw2 : ∀ {o : HO}, upd H a o wl = some (.lst (ws.map V.str)) := fun {o} => by rw [upd_ne nwa]; exact hw
      refine ⟨_, rfl, a, C, dx, _, _, rfl, upd_same, hC.cls, hC.no _ (by simp), ph_wait, .inl ⟨rfl, _, SqL.of hw2⟩, _, rfl, wl, _, _, rfl, rfl, hw2, by rw [List.length_map, sizeLine_eq]; omega, ?_⟩
      refine k2 e _ ?_
      rw [List.map_append]
      rfl
end
end K36

namespace K36
open PySem PySem.Spec PyProof.Rows L2 EV TL LM PM
section
variable {P : Program} {w : World} {K : Fg} {mg : Str → Option Value} {base : Heap}
/-- a binary sign between blanks -/
def spSign (C CB : Addr) : Sp := fun vs H Q E => ∃ (a dx wl fl : Addr) (t : Str) (i : Nat), vs = [.ref a] ∧ H a = some (.ins C dx (phF t i wl fl)) ∧ i ≤ t.length ∧ t.length ≤ 1000000 ∧
  (∀ k, signM t i = .error k → Bad CB a wl fl k H E) ∧ (∀ j s, signM t i = .ok (j, s) → ∀ G, G = upd H a (.ins C dx (phF t j wl fl)) → Q (.str s) G)
theorem find_at {p : Str → Bool} : ∀ {l : List Str} {m : Nat} {s : Str}, (∀ m' s', m' < m → l[m']? = some s' → p s' = false) → l[m]? = some s → p s = true → l.find? p = some s
  | [], _, _, _, h, _ => by simp at h
  | x :: l, 0, s, _, h, b => by
    obtain rfl : x = s := by simpa using h
    rw [List.find?_cons, b]
  | x :: l, m + 1, s, g, h, b => by
    rw [List.find?_cons, g 0 x (by omega) rfl]
    exact find_at (m := m) (fun m' s' hm h' => g (m' + 1) s' (by omega) (by simpa using h')) (by simpa using h) b
theorem find_no {p : Str → Bool} {l : List Str} (g : ∀ m' s', m' < l.length → l[m']? = some s' → p s' = false) : l.find? p = none := by
  rw [List.find?_eq_none]
  intro x hx
  obtain ⟨j, hj, rfl⟩ := List.mem_iff_getElem.mp hx
  rw [g j _ hj (List.getElem?_eq_getElem hj)]
  exact Bool.false_ne_true
theorem bin_head : ∀ s ∈ binary, (tl s)[0]?.isSome = true ∧ s.length ≤ 2 := by decide +kernel
theorem lits_step {t : Str} {cs : List Nat} {j k c : Nat} (h : cs[j]? = some c) (e : (tl t)[k]? = some c) : litsM t (cs.drop j) k = litsM t (cs.drop (j + 1)) (k + 1) := by
  obtain ⟨hj, hc⟩ := List.getElem?_eq_some_iff.mp h
  rw [List.drop_eq_getElem_cons hj, hc, litsM, if_pos e]
theorem lits_bad {t : Str} {cs : List Nat} {j k c : Nat} (h : cs[j]? = some c) (e : (tl t)[k]? ≠ some c) : litsM t (cs.drop j) k = .error k := by
  obtain ⟨hj, hc⟩ := List.getElem?_eq_some_iff.mp h
  rw [List.drop_eq_getElem_cons hj, hc, litsM, if_neg e]
theorem ok_sign {f C CB : Addr} {fd : FuncData} (F : Fun K "_take_sign" "Phrase._take_sign" s_Phrase__take_sign f fd) (T : Cst K mg) (hC : PhC K C) (O_BadExpression : OkC P w K mg base 1 "BadExpression" CB ["self", "at"] (spErr1 CB "at")) (ty_BadExpression : PySem.W.typeIn K (.ref CB) = some (.type "type"))
    (O_letter : OkM CX0 P w K mg base 1 C "_letter" ["self"] (spLetter C)) (O_take : OkM (L2.CX P w) P w K mg base 3 C "_take" ["self", "letter"] (spTakeL C CB)) : FnOk P w K mg base (L2.CX P w) 4 f fd ["self"] (spSign C CB) := by
  obtain ⟨aB, m_B, tB⟩ := T.g_BINARY_SIGNS
  refine F.okX sc_Phrase__take_sign (fun vs H Q E h => ?_) (fun cdv A outer s H vs Q E hr h => ?_)
  · obtain ⟨a, dx, wl, fl, t, i, rfl, _⟩ := h
    rfl
  · obtain ⟨a, dx, wl, fl, t, i, rfl, ha, hi, hl, k1, k2⟩ := h
    refine ⟨_, (pss_cons (ps_expr (pe_methX (takes_of rfl rfl rfl rfl) (pv 0) hC.cls O_take (hr.mono (by decide)) (pa_cons pe_str pa_nil)))
    (pss_cons (ps_for (passes_of rfl) rfl (pi_tup (pe_glob (v := .ref aB) rfl m_B rfl)) (pg_name (i := 1) sc_Phrase__take_sign.nd rfl (Or.inl rfl)) (pss_one (ps_if (pt_cmpR op_eq (pe_ix ix_str (pv 1) pe_int (fun _ _ => rfl)) (pe_methO0 (pv 0) hC.cls O_letter (hr.mono (by decide))) (nomark _)) (pss_cons (ps_for (passes_of rfl) rfl (pi_str (pv 1)) (pg_name (i := 2) sc_Phrase__take_sign.nd rfl (Or.inl rfl)) (pss_one (ps_expr (pe_methX (takes_of rfl rfl rfl rfl) (pv 0) hC.cls O_take (hr.mono (by decide)) (pa_cons (pv 2) pa_nil)))))
    (pss_cons (ps_expr (pe_methX (takes_of rfl rfl rfl rfl) (pv 0) hC.cls O_take (hr.mono (by decide)) (pa_cons pe_str pa_nil)))
    (pss_one (ps_ret (pv 1))))) pss_nil)))
    (pss_one (ps_raise rfl (takes_of rfl rfl rfl rfl) (pmk_x O_BadExpression ty_BadExpression (hr.mono (by decide)) (pa_cons (pe_fld (pv 0) rfl) pa_nil)))))), ?_⟩
    refine ⟨_, rfl, a, dx, _, rfl, ha, ph_no (by decide +kernel), a, dx, wl, fl, t, i, 32, by rw [s_space], ha, hi, hl, fun e => ?_, fun e => k1 i (by unfold signM; rw [if_neg e])⟩
    have hi1 : i + 1 ≤ t.length := at_lt e
    have fix : ∀ k, KeepP a wl fl H (upd H a (.ins C dx (phF t k wl fl))) := fun k => KeepP.at
    refine ⟨aB, rfl, ⟨_, tB.sq⟩, for_it (walk_tup (xs := binary.map V.str)) (fun m σ G => G = upd H a (.ins C dx (phF t (i + 1) wl fl)) ∧ (∀ m' s', m' < m → binary[m']? = some s' → decide (letAt s' 0 = letAt t (i + 1)) = false) ∧ ∃ u v : Option V, σ = [some (.ref a), u, v])
      ⟨rfl, (fun m' s' h => by omega), _, _, rfl⟩ (fun _ _ _ _ _ => tB.sq) ?_ ?_⟩
    · rintro m x σ G G' hm ⟨rfl, no, u, v, rfl⟩ ⟨rfl, hx⟩
      rw [List.getElem?_map] at hx
      obtain ⟨s, hs, rfl⟩ := Option.map_eq_some_iff.mp hx
      obtain ⟨b1, b2⟩ := bin_head s (List.mem_of_getElem? hs)
      obtain ⟨c, hc⟩ := Option.isSome_iff_exists.mp b1
      have ls : s.length ≤ sizeLine := by rw [sizeLine_eq]; omega
      refine ⟨_, rfl, s, 0, c, rfl, rfl, ls, (atI_nat (j := 0) hc), _, rfl, a, dx, _, rfl, upd_same, ph_no (by decide +kernel), a, dx, wl, fl, t, i + 1, rfl, upd_same, hi1, hl, rfl, _, rfl, ?_⟩
      have es : letAt s 0 = ⟨#[c]⟩ := let_at hc
      by_cases q : letAt s 0 = letAt t (i + 1)
      · rw [decide_eq_true (show V.str ⟨#[c]⟩ = V.str (letAt t (i + 1)) by rw [← es, q])]
        have hf : binary.find? (fun s => decide (letAt s 0 = letAt t (i + 1))) = some s := find_at no hs (decide_eq_true q)
        have hM : signM t i = match litsM t (tl s) (i + 1) with
          | .error k => .error k
          | .ok j => if (tl t)[j]? = some 32 then .ok (j + 1, s) else .error j := by
          unfold signM
          rw [if_pos e, hf]
          all_goals rfl
        refine iteT ⟨_, rfl, s, rfl, for_it walk_str (fun j σ G => G = upd H a (.ins C dx (phF t (i + 1 + j) wl fl)) ∧ litsM t ((tl s).drop j) (i + 1 + j) = litsM t (tl s) (i + 1) ∧ i + 1 + j ≤ t.length ∧ ∃ v : Option V, σ = [some (.ref a), some (.str s), v])
          ⟨rfl, rfl, hi1, _, rfl⟩ (fun _ _ _ _ _ => trivial) ?_ ?_⟩
        · rintro j x σ G G' hj ⟨rfl, hlit, hij, v, rfl⟩ ⟨rfl, c', hc', rfl⟩
          have hc2 : (tl s)[j]? = some c' := by rw [← hc']; exact (Array.getElem?_toList ..)
          refine ⟨_, rfl, a, dx, _, rfl, upd_same, ph_no (by decide +kernel), _, rfl, a, dx, wl, fl, t, i + 1 + j, c', rfl, upd_same, hij, hl, fun e2 => ?_, fun e2 => ?_⟩
          · rw [upd_upd]
            exact ⟨rfl, (lits_step hc2 e2).symm.trans hlit, at_lt e2, _, rfl⟩
          · refine (k1 (i + 1 + j) ?_).keep (fix _)
            rw [hM, ← hlit, lits_bad hc2 e2]
        · rintro σ G ⟨rfl, hlit, hij, v, rfl⟩
          rw [show (tl s).drop s.cps.size = [] from List.drop_of_length_le (by rw [← len_tl]; exact Nat.le_refl _)] at hlit
          have hlit : litsM t (tl s) (i + 1) = .ok (i + 1 + s.cps.size) := hlit.symm
          rw [hlit] at hM
          refine ⟨_, rfl, a, dx, _, rfl, upd_same, ph_no (by decide +kernel), a, dx, wl, fl, t, i + 1 + s.cps.size, 32, by rw [s_space], upd_same, hij, hl, fun e2 => ⟨_, rfl, k2 (i + 1 + s.cps.size + 1) s ?_ _ (by rw [upd_upd])⟩, fun e2 => (k1 (i + 1 + s.cps.size) ?_).keep (fix _)⟩
          · rw [hM]
            exact if_pos e2
          · rw [hM]
            exact if_neg e2
      · rw [decide_eq_false (show ¬ V.str ⟨#[c]⟩ = V.str (letAt t (i + 1)) from fun z => q (by rw [es]; injection z))]
        refine iteF ⟨rfl, fun m' s' hm' h' => ?_, _, _, rfl⟩
        rcases Nat.lt_succ_iff_lt_or_eq.mp hm' with z | rfl
        · exact no m' s' z h'
        · rw [hs] at h'
          injection h' with h'
          rw [← h']
          exact decide_eq_false q
    · rintro σ G ⟨rfl, no, u, v, rfl⟩
      refine ⟨_, rfl, a, C, dx, _, _, rfl, upd_same, hC.cls, hC.no _ (by simp), ph_at, raise_at ((k1 (i + 1) ?_).keep (fix _))⟩
      unfold signM
      rw [if_pos e, find_no no]
end
end K36

namespace K36
open PySem PySem.Spec PyProof.Rows L2 EV TL LM PM
/-- parts, as tuples -/
structure PartsAt (H : Hp) (rs : List V) (ps : List Part) : Prop where
  len : rs.length = ps.length
  at_ : ∀ (i : Nat) (p : Part), ps[i]? = some p → ∃ x, rs[i]? = some (V.ref x) ∧ H x = some (.tup [.str p.1, .str p.2.1, .str p.2.2])
theorem PartsAt.mov {H G : Hp} {rs : List V} {ps : List Part} (h : PartsAt H rs ps) (k : ∀ b z, H b = some (.tup z) → G b = some (.tup z)) : PartsAt G rs ps :=
  ⟨h.len, fun i p e => let ⟨x, h1, h2⟩ := h.at_ i p e; ⟨x, h1, k _ _ h2⟩⟩
theorem PartsAt.add {H : Hp} {rs : List V} {ps : List Part} {x : Addr} {p : Part} (h : PartsAt H rs ps) (hx : H x = some (.tup [.str p.1, .str p.2.1, .str p.2.2])) : PartsAt H (rs ++ [.ref x]) (ps ++ [p]) := by
  refine ⟨by rw [List.length_append, List.length_append, h.len]; rfl, fun i q e => ?_⟩
  rcases Nat.lt_or_ge i ps.length with z | z
  · rw [List.getElem?_append_left z] at e
    obtain ⟨y, h1, h2⟩ := h.at_ i q e
    exact ⟨y, by rw [List.getElem?_append_left (by rw [h.len]; exact z)]; exact h1, h2⟩
  · rw [List.getElem?_append_right z] at e
    have z0 : i - ps.length = 0 := by
      rcases Nat.eq_zero_or_pos (i - ps.length) with y | y
      · exact y
      · rw [List.getElem?_eq_none (by show 1 ≤ _; exact y)] at e
        cases e
    rw [z0] at e
    injection e with e
    subst e
    exact ⟨x, by rw [List.getElem?_append_right (by rw [h.len]; exact z), h.len, z0]; rfl, hx⟩
/-- a phrase under way -/
structure PhS (C a dx wl fl : Addr) (t : Str) (i : Nat) (ws : List Str) (ps : List Part) (H : Hp) : Prop where
  me : H a = some (.ins C dx (phF t i wl fl))
  wa : H wl = some (.lst (ws.map V.str))
  fo : ∃ rs, H fl = some (.lst rs) ∧ PartsAt H rs ps
  ne : wl ≠ fl
theorem PhS.wn {C a dx wl fl : Addr} {t : Str} {i : Nat} {ws : List Str} {ps : List Part} {H : Hp} (h : PhS C a dx wl fl t i ws ps H) : wl ≠ a := fun e => by
  have := h.wa
  rw [e, h.me] at this
  cases this
theorem PhS.fn {C a dx wl fl : Addr} {t : Str} {i : Nat} {ws : List Str} {ps : List Part} {H : Hp} (h : PhS C a dx wl fl t i ws ps H) : fl ≠ a := fun e => by
  obtain ⟨rs, h1, _⟩ := h.fo
  rw [e, h.me] at h1
  cases h1
theorem PhS.open {C a dx wl fl : Addr} {t s : Str} {i j : Nat} {ws : List Str} {ps : List Part} {H G : Hp} (h : PhS C a dx wl fl t i ws ps H) (e : G = upd (upd H a (.ins C dx (phF t j wl fl))) wl (.lst ((ws ++ [s]).map V.str))) :
    KeepP a wl fl H G ∧ PhS C a dx wl fl t j (ws ++ [s]) ps G := by
  subst e
  have wn := h.wn
  have fn := h.fn
  obtain ⟨rs, h1, h2⟩ := h.fo
  refine ⟨fun b u n1 n2 n3 z => by rw [upd_ne n2, upd_ne n1]; exact z, by rw [upd_ne (Ne.symm wn)]; exact upd_same, upd_same, ⟨rs, by rw [upd_ne (Ne.symm h.ne), upd_ne fn]; exact h1, h2.mov fun b z hz => ?_⟩, h.ne⟩
  rw [upd_ne (fun q => by rw [q, h.wa] at hz; cases hz), upd_ne (fun q => by rw [q, h.me] at hz; cases hz)]
  exact hz
theorem PhS.found {C a dx wl fl x : Addr} {t : Str} {i j : Nat} {ws : List Str} {ps : List Part} {p : Part} {rs : List V} {H G : Hp} (h : PhS C a dx wl fl t i ws ps H) (hf : H fl = some (.lst rs)) (nx : upd H a (.ins C dx (phF t j wl fl)) x = none)
    (e : G = upd (upd (upd H a (.ins C dx (phF t j wl fl))) x (.tup [.str p.1, .str p.2.1, .str p.2.2])) fl (.lst (rs ++ [.ref x]))) : KeepP a wl fl H G ∧ PhS C a dx wl fl t j ws (ps ++ [p]) G := by
  subst e
  have wn := h.wn
  have fn := h.fn
  obtain ⟨rs', h1, h2⟩ := h.fo
  rw [hf] at h1
  injection h1 with h1
  injection h1 with h1
  subst h1
  have xa : x ≠ a := fun q => by rw [q, upd_same] at nx; cases nx
  have nx2 : H x = none := by rw [← nx, upd_ne xa]
  have xw : x ≠ wl := fun q => by rw [q, h.wa] at nx2; cases nx2
  have xf : x ≠ fl := fun q => by rw [q, hf] at nx2; cases nx2
  have mv : ∀ b u, b ≠ a → b ≠ fl → H b = some u → upd (upd (upd H a (.ins C dx (phF t j wl fl))) x (.tup [.str p.1, .str p.2.1, .str p.2.2])) fl (.lst (rs ++ [.ref x])) b = some u := fun b u n1 n3 z => by
    rw [upd_ne n3, upd_ne (ne_of_none z nx2), upd_ne n1]
    exact z
  refine ⟨fun b u n1 _ n3 z => mv b u n1 n3 z, by rw [upd_ne (Ne.symm fn), upd_ne (Ne.symm xa)]; exact upd_same, mv _ _ wn h.ne h.wa, ⟨_, upd_same, ?_⟩, h.ne⟩
  refine PartsAt.add (h2.mov fun b z hz => mv b _ (fun q => by rw [q, h.me] at hz; cases hz) (fun q => by rw [q, hf] at hz; cases hz) hz) ?_
  rw [upd_ne xf]
  exact upd_same
section
variable {P : Program} {w : World} {K : Fg} {mg : Str → Option Value} {base : Heap}
/-- an operand begins -/
def spStart (C CB : Addr) : Sp := fun vs H Q E => ∃ (a dx wl fl : Addr) (t : Str) (i : Nat) (ws : List Str) (ps : List Part), vs = [.ref a] ∧ PhS C a dx wl fl t i ws ps H ∧ i ≤ t.length ∧ t.length ≤ 1000000 ∧ ws.length ≤ 100 ∧ ps.length ≤ 1000000 ∧
  (∀ k, startM t i ws.length = .error k → Bad CB a wl fl k H E) ∧ (∀ j s, startM t i ws.length = .ok (j, .inl s) → ∀ G, KeepP a wl fl H G → PhS C a dx wl fl t j (ws ++ [s]) ps G → Q (.bl true) G) ∧
  (∀ j p, startM t i ws.length = .ok (j, .inr p) → ∀ G, KeepP a wl fl H G → PhS C a dx wl fl t j ws (ps ++ [p]) G → Q (.bl false) G)
theorem b_if {B : Bool} {X Y : Prop} (h : B = true → X) (k : B = false → Y) : if B = true then X else Y := by
  cases B with
  | true => exact iteT (h rfl)
  | false => exact iteF (k rfl)
theorem no_in {w : Str} {X Y : Prop} (h : unary.contains w = false) (y : Y) : if inV (.str w) (unary.map V.str) = true then X else Y := by
  rw [inV_strs, h]
  exact iteF y
theorem ok_start {f C CB : Addr} {fd : FuncData} (F : Fun K "_take_start" "Phrase._take_start" s_Phrase__take_start f fd) (T : Cst K mg) (hC : PhC K C) (O_letter : OkM CX0 P w K mg base 1 C "_letter" ["self"] (spLetter C)) (O_is_between : OkM CX0 P w K mg base 2 C "_is_between" ["self", "low", "high"] (spBetw C))
    (O_take : OkM (L2.CX P w) P w K mg base 3 C "_take" ["self", "letter"] (spTakeL C CB)) (O_take_opening : OkM (L2.CX P w) P w K mg base 4 C "_take_opening" ["self", "kind"] (spOpen C CB)) (O_take_class : OkM (L2.CX P w) P w K mg base 4 C "_take_class" ["self"] (spClass C CB))
    (O_take_word : OkM (L2.CX P w) P w K mg base 4 C "_take_word" ["self"] (spWord C CB)) (O_take_request : OkM (L2.CX P w) P w K mg base 5 C "_take_request" ["self"] (spReq C CB)) : FnOk P w K mg base (L2.CX P w) 6 f fd ["self"] (spStart C CB) := by
  obtain ⟨aU, m_U, tU⟩ := T.g_UNARY_SIGNS
  refine F.okX sc_Phrase__take_start (fun vs H Q E h => ?_) (fun cdv A outer s H vs Q E hr h => ?_)
  · obtain ⟨a, dx, wl, fl, t, i, ws, ps, rfl, _⟩ := h
    rfl
  · obtain ⟨a, dx, wl, fl, t, i, ws, ps, rfl, ph, hi, hl, lw, lp, k1, k2, k3⟩ := h
    refine ⟨_, (pss_cons (ps_if (pt_cmpR op_eq (pe_methO0 (pv 0) hC.cls O_letter (hr.mono (by decide))) pe_str (nomark _)) (pss_cons (ps_expr (pe_methX (takes_of rfl rfl rfl rfl) (pv 0) hC.cls O_take_opening (hr.mono (by decide)) (pa_cons pe_str pa_nil)))
    (pss_one (ps_ret pe_bl))) pss_nil)
    (pss_cons (ps_if (pt_val (pe_methO (pv 0) hC.cls O_is_between (hr.mono (by decide)) (pa_cons pe_str (pa_cons pe_str pa_nil)))) (pss_cons (ps_set (i := 1) sc_Phrase__take_start.nd rfl (Or.inl rfl) (pe_methX0 (takes_of rfl rfl rfl rfl) (pv 0) hC.cls O_take_class (hr.mono (by decide))))
    (pss_cons (ps_expr (pe_methX (takes_of rfl rfl rfl rfl) (pv 0) hC.cls O_take (hr.mono (by decide)) (pa_cons pe_str pa_nil)))
    (pss_cons (ps_expr (pe_bm PySem.F.plainAttrs_list PySem.F.slot_list_append PySem.F.type_list_append mt_append (pe_fld (pv 0) rfl) (pa_cons (pe_tup (pa_cons (pe_methX0 (takes_of rfl rfl rfl rfl) (pv 0) hC.cls O_take_request (hr.mono (by decide))) (pa_cons pe_str (pa_cons (pv 1) pa_nil)))) pa_nil)))
    (pss_one (ps_ret pe_bl))))) pss_nil)
    (pss_cons (ps_set (i := 2) sc_Phrase__take_start.nd rfl (Or.inl rfl) (pe_methX0 (takes_of rfl rfl rfl rfl) (pv 0) hC.cls O_take_word (hr.mono (by decide))))
    (pss_cons (ps_if (PW.pt (pw_and (pt_cmpR op_eq (pe_methO0 (pv 0) hC.cls O_letter (hr.mono (by decide))) pe_str (nomark _)) (pw_and1 (pt_cmpR op_in_seq (pv 2) (pe_glob (v := .ref aU) rfl m_U rfl) (by rfl))))) (pss_cons (ps_expr (pe_methX (takes_of rfl rfl rfl rfl) (pv 0) hC.cls O_take_opening (hr.mono (by decide)) (pa_cons (pv 2) pa_nil)))
    (pss_one (ps_ret pe_bl))) pss_nil)
    (pss_cons (ps_expr (pe_methX (takes_of rfl rfl rfl rfl) (pv 0) hC.cls O_take (hr.mono (by decide)) (pa_cons pe_str pa_nil)))
    (pss_cons (ps_expr (pe_bm PySem.F.plainAttrs_list PySem.F.slot_list_append PySem.F.type_list_append mt_append (pe_fld (pv 0) rfl) (pa_cons (pe_tup (pa_cons pe_str (pa_cons (pv 2) (pa_cons (pe_methX0 (takes_of rfl rfl rfl rfl) (pv 0) hC.cls O_take_class (hr.mono (by decide))) pa_nil)))) pa_nil)))
    (pss_one (ps_ret pe_bl)))))))), ?_⟩
    have ha := ph.me
    have hw := ph.wa
    obtain ⟨rs, hf, hps⟩ := ph.fo
    have lrs : rs.length ≤ 1000000 := by rw [hps.len]; exact lp
    have wn := ph.wn
    have fn := ph.fn
    have fix : ∀ k, KeepP a wl fl H (upd H a (.ins C dx (phF t k wl fl))) := fun k => KeepP.at
    have hwk : ∀ k, upd H a (.ins C dx (phF t k wl fl)) wl = some (.lst (ws.map V.str)) := fun k => by rw [upd_ne wn]; exact hw
    have hfk : ∀ k, upd H a (.ins C dx (phF t k wl fl)) fl = some (.lst rs) := fun k => by rw [upd_ne fn]; exact hf
    refine ⟨_, rfl, a, dx, _, rfl, ha, ph_no (by decide +kernel), a, dx, wl, fl, t, i, rfl, ha, hi, hl, rfl, _, rfl, ?_⟩
    by_cases e : (tl t)[i]? = some 40
    · rw [decide_eq_true (show V.str (letAt t i) = V.str "(" by rw [let_at e, s_open])]
      have hM : startM t i ws.length = if ws.length = 100 then .error i else .ok (i + 1, .inl "(") := by
        unfold startM
        rw [if_pos e]
      refine iteT ⟨_, rfl, a, dx, _, rfl, ha, ph_no (by decide +kernel), a, dx, wl, fl, t, "(", i, ws, rfl, ha, hw, lw, e, hl, fun z => k1 i (by rw [hM, if_pos z]), fun z G eG => ?_⟩
      obtain ⟨q1, q2⟩ := ph.open eG
      exact k2 _ _ (by rw [hM, if_neg z]) G q1 q2
    rw [decide_eq_false (show ¬ V.str (letAt t i) = V.str "(" from fun z => e (let_ne.mp (by rw [← s_open]; injection z)))]
    refine iteF ⟨_, rfl, a, dx, _, rfl, ha, ph_no (by decide +kernel), a, dx, wl, fl, t, i, 65, 90, by rw [s_A, s_Z]; rfl, ha, hi, hl, _, rfl, ?_⟩
    cases hb : betw 65 90 t i with
    | true =>
      have h0 := betw_lt hb
      have a1 := small_le t (i + 1) 7
      refine iteT ⟨_, rfl, a, dx, _, rfl, ha, ph_no (by decide +kernel), a, dx, wl, fl, t, i, rfl, ha, hi, hl, fun _ => ?_, fun z => by rw [hb] at z; cases z⟩
      refine ⟨_, rfl, a, dx, _, rfl, upd_same, ph_no (by decide +kernel), a, dx, wl, fl, t, i + (smallN t (i + 1) 7 + 1), 46, by rw [s_dot], upd_same, by omega, hl, fun e2 => ?_, fun e2 => (k1 _ (by unfold startM; rw [if_neg e, if_pos hb, if_neg e2])).keep (fix _)⟩
      have e3 := at_lt e2
      have a2 := small_le t (i + (smallN t (i + 1) 7 + 1) + 1) 8
      rw [upd_upd]
      have hM : startM t i ws.length = if smallN t (i + (smallN t (i + 1) 7 + 1) + 1) 8 = 0 then .error (i + (smallN t (i + 1) 7 + 1) + 1)
          else if unary.contains (subT t (i + (smallN t (i + 1) 7 + 1) + 1) (smallN t (i + (smallN t (i + 1) 7 + 1) + 1) 8)) = true then .error (i + (smallN t (i + 1) 7 + 1) + 1 + smallN t (i + (smallN t (i + 1) 7 + 1) + 1) 8)
          else .ok (i + (smallN t (i + 1) 7 + 1) + 1 + smallN t (i + (smallN t (i + 1) 7 + 1) + 1) 8, .inr (subT t (i + (smallN t (i + 1) 7 + 1) + 1) (smallN t (i + (smallN t (i + 1) 7 + 1) + 1) 8), "", subT t i (smallN t (i + 1) 7 + 1))) := by
        unfold startM
        rw [if_neg e, if_pos hb, if_pos e2]
      refine ⟨_, rfl, a, C, dx, _, _, rfl, upd_same, hC.cls, hC.no _ (by simp), ph_found, .inl ⟨rfl, _, SqL.of (hfk _)⟩, _, rfl, a, dx, _, rfl, upd_same, ph_no (by decide +kernel), a, dx, wl, fl, t, i + (smallN t (i + 1) 7 + 1) + 1, rfl, upd_same, by omega, hl, ?_, ?_, ?_⟩
      · exact fun z => (k1 _ (by rw [hM, if_pos z])).keep (fix _)
      · exact fun z1 z2 => (k1 _ (by rw [hM, if_neg (by omega), if_pos z2])).keep (fix _)
      · intro z1 z2
        rw [upd_upd]
        refine ⟨_, rfl, by show 3 ≤ sizeLine; decide, fun x nx => ⟨fl, _, _, rfl, rfl, (same_upd nx) _ _ (hfk _), by rw [sizeLine_eq]; omega, ?_⟩⟩
        obtain ⟨q1, q2⟩ := ph.found (p := (subT t (i + (smallN t (i + 1) 7 + 1) + 1) (smallN t (i + (smallN t (i + 1) 7 + 1) + 1) 8), "", subT t i (smallN t (i + 1) 7 + 1))) hf nx rfl
        exact k3 _ _ (by rw [hM, if_neg (by omega), if_neg (by rw [z2]; exact Bool.false_ne_true)]) _ q1 q2
    | false =>
      have a1 := small_le t i 8
      have hM0 : startM t i ws.length = if smallN t i 8 = 0 then .error i
          else if (tl t)[i + smallN t i 8]? = some 40 ∧ unary.contains (subT t i (smallN t i 8)) = true then
            (if ws.length = 100 then .error (i + smallN t i 8) else .ok (i + smallN t i 8 + 1, .inl (subT t i (smallN t i 8))))
          else if (tl t)[i + smallN t i 8]? = some 58 then
            (if betw 65 90 t (i + smallN t i 8 + 1) = true then .ok (i + smallN t i 8 + 1 + (smallN t (i + smallN t i 8 + 1 + 1) 7 + 1), .inr ("", subT t i (smallN t i 8), subT t (i + smallN t i 8 + 1) (smallN t (i + smallN t i 8 + 1 + 1) 7 + 1)))
             else .error (i + smallN t i 8 + 1))
          else .error (i + smallN t i 8) := by
        unfold startM
        rw [if_neg e, if_neg (by rw [hb]; exact Bool.false_ne_true)]
      refine iteF ⟨_, rfl, a, dx, _, rfl, ha, ph_no (by decide +kernel), a, dx, wl, fl, t, i, rfl, ha, hi, hl, fun z => ?_, fun z => k1 _ (by rw [hM0, if_pos z])⟩
      rw [if_neg (show ¬ smallN t i 8 = 0 by omega)] at hM0
      refine ⟨_, rfl, a, dx, _, rfl, upd_same, ph_no (by decide +kernel), a, dx, wl, fl, t, i + smallN t i 8, rfl, upd_same, by omega, hl, rfl, _, rfl, ?_⟩
      by_cases e4 : (tl t)[i + smallN t i 8]? = some 40 ∧ unary.contains (subT t i (smallN t i 8)) = true
      · rw [if_pos e4] at hM0
        obtain ⟨e4, hu⟩ := e4
        rw [decide_eq_true (show V.str (letAt t (i + smallN t i 8)) = V.str "(" by rw [let_at e4, s_open])]
        refine iteT ⟨_, rfl, aU, _, rfl, .inr tU.sq, rfl, flat_strs _, _, rfl, ?_⟩
        rw [inV_strs, hu]
        refine iteT ⟨_, rfl, a, dx, _, rfl, upd_same, ph_no (by decide +kernel), _, rfl, a, dx, wl, fl, t, subT t i (smallN t i 8), i + smallN t i 8, ws, rfl, upd_same, hwk _, lw, e4, hl, fun z => (k1 _ (by rw [hM0, if_pos z])).keep (fix _), fun z G eG => ?_⟩
        rw [upd_upd] at eG
        obtain ⟨q1, q2⟩ := ph.open eG
        exact k2 _ _ (by rw [hM0, if_neg z]) G q1 q2
      · rw [if_neg e4] at hM0
        have nu : (tl t)[i + smallN t i 8]? = some 40 → unary.contains (subT t i (smallN t i 8)) = false := fun e6 => by
          cases hu : unary.contains (subT t i (smallN t i 8)) with
          | true => exact absurd ⟨e6, hu⟩ e4
          | false => rfl
        refine b_if (fun e5 => ⟨_, rfl, aU, _, rfl, .inr tU.sq, rfl, flat_strs _, _, rfl, no_in (nu (let_ne.mp (by have := of_decide_eq_true e5; rw [s_open] at this; injection this))) ?_⟩) (fun e5 => ?_)
        all_goals (
          refine ⟨_, rfl, a, dx, _, rfl, upd_same, ph_no (by decide +kernel), a, dx, wl, fl, t, i + smallN t i 8, 58, by rw [s_colon], upd_same, by omega, hl, fun e7 => ?_, fun e7 => (k1 _ (by rw [hM0, if_neg e7])).keep (fix _)⟩
          rw [if_pos e7] at hM0
          have e8 := at_lt e7
          have a2 := small_le t (i + smallN t i 8 + 1 + 1) 7
          rw [upd_upd]
          refine ⟨_, rfl, a, C, dx, _, _, rfl, upd_same, hC.cls, hC.no _ (by simp), ph_found, .inl ⟨rfl, _, SqL.of (hfk _)⟩, _, rfl, _, rfl, a, dx, _, rfl, upd_same, ph_no (by decide +kernel), a, dx, wl, fl, t, i + smallN t i 8 + 1, rfl, upd_same, by omega, hl, fun hb2 => ?_, fun hb2 => (k1 _ (by rw [hM0, if_neg (by rw [hb2]; exact Bool.false_ne_true)])).keep (fix _)⟩
          rw [upd_upd]
          refine ⟨by show 3 ≤ sizeLine; decide, fun x nx => ⟨fl, _, _, rfl, rfl, (same_upd nx) _ _ (hfk _), by rw [sizeLine_eq]; omega, ?_⟩⟩
          obtain ⟨q1, q2⟩ := ph.found (p := ("", subT t i (smallN t i 8), subT t (i + smallN t i 8 + 1) (smallN t (i + smallN t i 8 + 1 + 1) 7 + 1))) hf nx rfl
          exact k3 _ _ (by rw [hM0, if_pos hb2]) _ q1 q2)
end
end K36

/-! written expressions are read back -/
namespace TR
open PySem PySem.Spec PyProof.Rows L2 EV TL LM PM
theorem loop_s1 {t : Str} {m i : Nat} {ws : List Str} {ps : List Part} {k : Nat} (h : startM t i ws.length = .error k) : loopM t (m + 1) i true ws ps = .error k := by
  rw [loopM, h]
theorem loop_s2 {t s : Str} {m i j : Nat} {ws : List Str} {ps : List Part} (h : startM t i ws.length = .ok (j, .inl s)) : loopM t (m + 1) i true ws ps = loopM t m j true (ws ++ [s]) ps := by
  rw [loopM, h]
theorem loop_s3 {t : Str} {m i j : Nat} {ws : List Str} {ps : List Part} {p : Part} (h : startM t i ws.length = .ok (j, .inr p)) : loopM t (m + 1) i true ws ps = loopM t m j false ws (ps ++ [p]) := by
  rw [loopM, h]
theorem loop_end {t : Str} {m i : Nat} {ps : List Part} : loopM t (m + 1) i false [] ps = if i < t.length then .error i else .ok ps := by
  rw [loopM]
  rfl
theorem loop_f {t s : Str} {m i : Nat} {us : List Str} {ps : List Part} : loopM t (m + 1) i false (us ++ [s]) ps = if s = "(" then (match signM t i with
        | .error k => .error k
        | .ok (j, s) => loopM t m j true (us ++ [s]) ps)
      else if (tl t)[i]? = some 41 then loopM t m (i + 1) false us (ps ++ [((s, "", "") : Part)]) else .error i := by
  rw [loopM, List.getLast?_concat, List.dropLast_concat]
  all_goals rfl
theorem len_app (x y : Str) : (x ++ y).length = x.length + y.length := by rw [len_tl, len_tl, len_tl, tl_append, List.length_append]
/-- one part, written on a stack of texts (its top is at the end) -/
def writ1 (p : Part) (st : List Str) : Option (List Str) :=
  if p.2.1 ≠ "" then some (st ++ [p.2.1 ++ (":" : Str) ++ p.2.2])
  else if p.2.2 ≠ "" then some (st ++ [p.2.2 ++ ("." : Str) ++ p.1])
  else match st.getLast? with
    | none => none
    | some r => if arity p.1 = 1 then some (st.dropLast ++ [p.1 ++ ("(" : Str) ++ r ++ (")" : Str)])
      else match st.dropLast.getLast? with
        | none => none
        | some l => some (st.dropLast.dropLast ++ [("(" : Str) ++ l ++ (" " : Str) ++ p.1 ++ (" " : Str) ++ r ++ (")" : Str)])
def writM : List Part → List Str → Option (List Str)
  | [], st => some st
  | p :: ps, st => (writ1 p st).bind (writM ps)

/-- expressions as trees -/
inductive Tre where
  | leaf (lab nm : Str)
  | ask (req nm : Str)
  | un (sg : Str) (t : Tre)
  | bin (sg : Str) (l r : Tre)
def Tre.parts : Tre → List Part
  | .leaf lab nm => [("", lab, nm)]
  | .ask req nm => [(req, "", nm)]
  | .un sg t => t.parts ++ [((sg, "", "") : Part)]
  | .bin sg l r => l.parts ++ (r.parts ++ [((sg, "", "") : Part)])
def Tre.text : Tre → Str
  | .leaf lab nm => lab ++ (":" : Str) ++ nm
  | .ask req nm => nm ++ ("." : Str) ++ req
  | .un sg t => sg ++ ("(" : Str) ++ t.text ++ (")" : Str)
  | .bin sg l r => ("(" : Str) ++ l.text ++ (" " : Str) ++ sg ++ (" " : Str) ++ r.text ++ (")" : Str)
def Small (c : Nat) : Prop := 97 ≤ c ∧ c ≤ 122
def SmallW (w : Str) : Prop := 1 ≤ (tl w).length ∧ (tl w).length ≤ 8 ∧ ∀ c ∈ tl w, Small c
def ClassW (w : Str) : Prop := ∃ c cs, tl w = c :: cs ∧ 65 ≤ c ∧ c ≤ 90 ∧ cs.length ≤ 7 ∧ ∀ c ∈ cs, Small c
def Tre.ok : Tre → Prop
  | .leaf lab nm => SmallW lab ∧ ClassW nm
  | .ask req nm => SmallW req ∧ unary.contains req = false ∧ ClassW nm
  | .un sg t => sg ∈ unary ∧ t.ok
  | .bin sg l r => sg ∈ binary ∧ l.ok ∧ r.ok
def Tre.depth : Tre → Nat
  | .leaf _ _ => 0
  | .ask _ _ => 0
  | .un _ t => t.depth + 1
  | .bin _ l r => max l.depth r.depth + 1
def Tre.cost : Tre → Nat
  | .leaf _ _ => 1
  | .ask _ _ => 1
  | .un _ t => t.cost + 2
  | .bin _ l r => l.cost + r.cost + 3
theorem tl_ext {a b : Str} (h : tl a = tl b) : a = b := ext_tl h
theorem small_ne {w : Str} (h : SmallW w) : w ≠ "" := fun e => by
  have := h.1
  rw [e, show tl ("" : Str) = [] by decide +kernel] at this
  exact absurd this (by decide)
theorem class_ne {w : Str} (h : ClassW w) : w ≠ "" := fun e => by
  obtain ⟨c, cs, h, _⟩ := h
  rw [e, show tl ("" : Str) = [] by decide +kernel] at h
  cases h
theorem un_word : ∀ s ∈ unary, arity s = 1 ∧ (1 ≤ (tl s).length ∧ (tl s).length ≤ 8) ∧ ((tl s).all fun c => decide (97 ≤ c) && decide (c ≤ 122)) = true := by decide +kernel
theorem bin_word : ∀ s ∈ binary, arity s = 2 ∧ (1 ≤ (tl s).length ∧ (tl s).length ≤ 2) := by decide +kernel
theorem un_small {s : Str} (h : s ∈ unary) : SmallW s := by
  obtain ⟨_, h2, h3⟩ := un_word s h
  refine ⟨h2.1, h2.2, fun c hc => ?_⟩
  have := List.all_eq_true.mp h3 c hc
  simp only [Bool.and_eq_true, decide_eq_true_eq] at this
  exact this
/-! ### written -/
theorem writ_app : ∀ (a b : List Part) (st : List Str), writM (a ++ b) st = (writM a st).bind (writM b)
  | [], b, st => rfl
  | p :: a, b, st => by
    rw [List.cons_append, writM, writM]
    cases writ1 p st with
    | none => rfl
    | some s => exact writ_app a b s
theorem writ_tre : ∀ {T : Tre}, T.ok → ∀ (ps : List Part) (st : List Str), writM (T.parts ++ ps) st = writM ps (st ++ [T.text])
  | .leaf lab nm, h, ps, st => by
    show writM (("", lab, nm) :: ps) st = _
    rw [writM, writ1, if_pos (small_ne h.1)]
    rfl
  | .ask req nm, h, ps, st => by
    show writM ((req, "", nm) :: ps) st = _
    rw [writM, writ1, if_neg (fun q => q rfl), if_pos (class_ne h.2.2)]
    rfl
  | .un sg t, h, ps, st => by
    show writM ((t.parts ++ [((sg, "", "") : Part)]) ++ ps) st = _
    rw [List.append_assoc, writ_tre h.2]
    show writM ((sg, "", "") :: ps) (st ++ [t.text]) = _
    rw [writM, writ1, if_neg (fun q => q rfl), if_neg (fun q => q rfl), List.getLast?_concat, List.dropLast_concat]
    dsimp only
    rw [if_pos (un_word sg h.1).1]
    rfl
  | .bin sg l r, h, ps, st => by
    show writM ((l.parts ++ (r.parts ++ [((sg, "", "") : Part)])) ++ ps) st = _
    rw [List.append_assoc, writ_tre h.2.1, List.append_assoc, writ_tre h.2.2]
    show writM ((sg, "", "") :: ps) (st ++ [l.text] ++ [r.text]) = _
    rw [writM, writ1, if_neg (fun q => q rfl), if_neg (fun q => q rfl), List.getLast?_concat, List.dropLast_concat]
    dsimp only
    rw [if_neg (by rw [(bin_word sg h.1).1]; decide), List.getLast?_concat, List.dropLast_concat]
    rfl
/-- what stands at i -/
def At (t : Str) (i : Nat) (cs r : List Nat) : Prop := (tl t).drop i = cs ++ r
/-- no small letter follows -/
def Stop (r : List Nat) : Prop := ∀ c, r.head? = some c → ¬ Small c
theorem At.get {t : Str} {i j : Nat} {cs r : List Nat} (h : At t i cs r) : (tl t)[i + j]? = (cs ++ r)[j]? := by
  rw [← List.getElem?_drop, h]
theorem At.get0 {t : Str} {i c : Nat} {cs r : List Nat} (h : At t i (c :: cs) r) : (tl t)[i]? = some c := by
  have := h.get (j := 0)
  exact this
theorem At.after {t : Str} {i : Nat} {cs ds r : List Nat} (h : At t i (cs ++ ds) r) : At t (i + cs.length) ds r := by
  unfold At
  rw [← List.drop_drop, h, List.append_assoc, List.drop_left]
theorem At.left {t : Str} {i : Nat} {cs ds r : List Nat} (h : At t i (cs ++ ds) r) : At t i cs (ds ++ r) := by
  unfold At
  rw [h, List.append_assoc]
theorem small_eq {t : Str} {i n : Nat} {cs r : List Nat} (h : At t i cs r) (hs : ∀ c ∈ cs, Small c) (hn : cs.length ≤ n) (hr : Stop r) : smallN t i n = cs.length := by
  unfold smallN
  rw [h, List.take_append, List.take_of_length_le hn, List.takeWhile_append_of_pos (fun c hc => by have := hs c hc; simp only [Bool.and_eq_true, decide_eq_true_eq]; exact this), List.length_append]
  have : (List.take (n - cs.length) r).takeWhile (fun c => decide (97 ≤ c) && decide (c ≤ 122)) = [] := by
    cases r with
    | nil => rw [List.take_nil]; rfl
    | cons c r =>
      cases n - cs.length with
      | zero => rfl
      | succ k =>
        rw [List.take_succ_cons, List.takeWhile_cons, if_neg]
        intro q
        simp only [Bool.and_eq_true, decide_eq_true_eq] at q
        exact hr c rfl q
  rw [this]
  first | rfl | simp
theorem sub_eq {t w : Str} {i : Nat} {r : List Nat} (h : At t i (tl w) r) : subT t i (tl w).length = w := by
  apply tl_ext
  unfold subT
  rw [h, List.take_left]
theorem betw_eq {t : Str} {i c lo hi : Nat} (h : (tl t)[i]? = some c) : betw lo hi t i = (decide (lo ≤ c) && decide (c ≤ hi)) := by
  unfold betw
  rw [h]
theorem c_colon : tl (":" : Str) = [58] := by decide +kernel
theorem c_dot : tl ("." : Str) = [46] := by decide +kernel
theorem c_open : tl ("(" : Str) = [40] := by decide +kernel
theorem c_close : tl (")" : Str) = [41] := by decide +kernel
theorem c_sp : tl (" " : Str) = [32] := by decide +kernel
theorem stop_of {c : Nat} {r : List Nat} (h : ¬ Small c) : Stop (c :: r) := fun d hd => by
  injection hd with hd
  rw [← hd]
  exact h
theorem start_leaf {t lab nm : Str} {i o : Nat} {r : List Nat} (h1 : SmallW lab) (h2 : ClassW nm) (h : At t i (tl lab ++ (58 :: tl nm)) r) (hr : Stop r) : startM t i o = .ok (i + (tl lab).length + 1 + (tl nm).length, .inr ("", lab, nm)) := by
  obtain ⟨l1, l2, l3⟩ := h1
  obtain ⟨c, cs, en, c1, c2, c3, c4⟩ := h2
  obtain ⟨a, as, ea⟩ : ∃ a as, tl lab = a :: as := by
    cases e : tl lab with
    | nil => rw [e] at l1; exact absurd l1 (by decide)
    | cons a as => exact ⟨a, as, rfl⟩
  have sa : Small a := l3 a (by rw [ea]; exact List.mem_cons_self)
  have g0 : (tl t)[i]? = some a := by
    have := h.get (j := 0)
    rw [ea] at this
    exact this
  have hl : At t i (tl lab) (58 :: tl nm ++ r) := h.left
  have hn : smallN t i 8 = (tl lab).length := small_eq hl l3 l2 (stop_of fun q => absurd q.1 (by decide))
  have ha : At t (i + (tl lab).length) (58 :: tl nm) r := h.after
  have g1 : (tl t)[i + (tl lab).length]? = some 58 := ha.get0
  have hb : At t (i + (tl lab).length + 1) (tl nm) r := At.after (cs := [58]) ha
  have g2 : (tl t)[i + (tl lab).length + 1]? = some c := by
    have := hb
    rw [en] at this
    exact this.get0
  have hc : At t (i + (tl lab).length + 1 + 1) cs r := by
    have := hb
    rw [en] at this
    exact At.after (cs := [c]) this
  have hm : smallN t (i + (tl lab).length + 1 + 1) 7 = cs.length := small_eq hc c4 c3 hr
  have ln : (tl nm).length = cs.length + 1 := by rw [en]; rfl
  unfold startM
  rw [g0, if_neg (by intro q; injection q with q; rw [q] at sa; exact absurd sa.1 (by decide)), betw_eq g0, if_neg (by
    intro q
    simp only [Bool.and_eq_true, decide_eq_true_eq] at q
    have := sa.1
    omega), hn, if_neg (by omega), g1, if_neg (by rintro ⟨q, _⟩; injection q with q; exact absurd q (by decide)), if_pos rfl, betw_eq g2, if_pos (by
    simp only [Bool.and_eq_true, decide_eq_true_eq]
    exact ⟨c1, c2⟩), hm, sub_eq hl, ← ln, sub_eq hb]
theorem start_ask {t req nm : Str} {i o : Nat} {r : List Nat} (h1 : SmallW req) (hu : unary.contains req = false) (h2 : ClassW nm) (h : At t i (tl nm ++ (46 :: tl req)) r) (hr : Stop r) : startM t i o = .ok (i + (tl nm).length + 1 + (tl req).length, .inr (req, "", nm)) := by
  obtain ⟨l1, l2, l3⟩ := h1
  obtain ⟨c, cs, en, c1, c2, c3, c4⟩ := h2
  have ln : (tl nm).length = cs.length + 1 := by rw [en]; rfl
  have g0 : (tl t)[i]? = some c := by
    have := h.get (j := 0)
    rw [en] at this
    exact this
  have hl : At t i (tl nm) (46 :: tl req ++ r) := h.left
  have hc : At t (i + 1) cs (46 :: tl req ++ r) := by
    have := hl
    rw [en] at this
    exact At.after (cs := [c]) this
  have hm : smallN t (i + 1) 7 = cs.length := small_eq hc c4 c3 (stop_of fun q => absurd q.1 (by decide))
  have ha : At t (i + (tl nm).length) (46 :: tl req) r := h.after
  have g1 : (tl t)[i + (tl nm).length]? = some 46 := ha.get0
  have hb : At t (i + (tl nm).length + 1) (tl req) r := At.after (cs := [46]) ha
  have hn : smallN t (i + (tl nm).length + 1) 8 = (tl req).length := small_eq hb l3 l2 hr
  unfold startM
  rw [g0, if_neg (by intro q; injection q with q; omega), betw_eq g0, if_pos (by
    simp only [Bool.and_eq_true, decide_eq_true_eq]
    exact ⟨c1, c2⟩), hm, ← ln, g1, if_pos rfl, hn, if_neg (by omega), sub_eq hb, if_neg (by rw [hu]; exact Bool.false_ne_true), sub_eq hl]
theorem start_un {t sg : Str} {i o : Nat} {r : List Nat} (h1 : sg ∈ unary) (ho : o ≠ 100) (h : At t i (tl sg) (40 :: r)) : startM t i o = .ok (i + (tl sg).length + 1, .inl sg) := by
  obtain ⟨l1, l2, l3⟩ := un_small h1
  obtain ⟨a, as, ea⟩ : ∃ a as, tl sg = a :: as := by
    cases e : tl sg with
    | nil => rw [e] at l1; exact absurd l1 (by decide)
    | cons a as => exact ⟨a, as, rfl⟩
  have sa : Small a := l3 a (by rw [ea]; exact List.mem_cons_self)
  have g0 : (tl t)[i]? = some a := by
    have := h.get (j := 0)
    rw [ea] at this
    exact this
  have hn : smallN t i 8 = (tl sg).length := small_eq h l3 l2 (stop_of fun q => absurd q.1 (by decide))
  have g1 : (tl t)[i + (tl sg).length]? = some 40 := by
    have := h.get (j := (tl sg).length)
    rw [this, List.getElem?_append_right (Nat.le_refl _), Nat.sub_self]
    rfl
  unfold startM
  rw [g0, if_neg (by intro q; injection q with q; rw [q] at sa; exact absurd sa.1 (by decide)), betw_eq g0, if_neg (by
    intro q
    simp only [Bool.and_eq_true, decide_eq_true_eq] at q
    have := sa.1
    omega), hn, if_neg (by omega), g1, sub_eq h, if_pos ⟨rfl, List.contains_iff_mem.mpr h1⟩, if_neg ho]
theorem start_bin {t : Str} {i o : Nat} {r : List Nat} (ho : o ≠ 100) (h : At t i [40] r) : startM t i o = .ok (i + 1, .inl "(") := by
  unfold startM
  rw [h.get0, if_pos rfl, if_neg ho]
theorem lits_at {t : Str} : ∀ {cs : List Nat} {i : Nat} {r : List Nat}, At t i cs r → litsM t cs i = .ok (i + cs.length)
  | [], i, r, _ => rfl
  | c :: cs, i, r, h => by
    have h2 : At t (i + 1) cs r := At.after (cs := [c]) h
    rw [litsM, if_pos h.get0, lits_at h2]
    show Except.ok (i + 1 + cs.length) = Except.ok (i + (cs.length + 1))
    rw [show i + 1 + cs.length = i + (cs.length + 1) by omega]
theorem bin_find : ∀ s ∈ binary, binary.find? (fun x => decide (letAt x 0 = letAt s 0)) = some s := by decide +kernel
theorem sign_at {t sg : Str} {i : Nat} {r : List Nat} (h1 : sg ∈ binary) (h : At t i (32 :: (tl sg ++ [32])) r) : signM t i = .ok (i + 1 + (tl sg).length + 1, sg) := by
  obtain ⟨_, l1, l2⟩ := bin_word sg h1
  have hb : At t (i + 1) (tl sg ++ [32]) r := At.after (cs := [32]) h
  have hs : At t (i + 1) (tl sg) ([32] ++ r) := hb.left
  have hd : At t (i + 1 + (tl sg).length) [32] r := hb.after
  obtain ⟨a, as, ea⟩ : ∃ a as, tl sg = a :: as := by
    cases e : tl sg with
    | nil => rw [e] at l1; exact absurd l1 (by decide)
    | cons a as => exact ⟨a, as, rfl⟩
  have g1 : (tl t)[i + 1]? = some a := by
    have := hs.get (j := 0)
    rw [ea] at this
    exact this
  have g2 : letAt t (i + 1) = letAt sg 0 := by
    rw [let_at g1, let_at (t := sg) (i := 0) (c := a) (by rw [ea]; rfl)]
  unfold signM
  rw [h.get0, if_pos rfl, g2, bin_find sg h1]
  dsimp only
  rw [lits_at hs]
  dsimp only
  rw [hd.get0, if_pos rfl]
theorem text_un {sg : Str} {t : Tre} : tl (Tre.un sg t).text = tl sg ++ ([40] ++ (tl t.text ++ [41])) := by
  show tl (sg ++ ("(" : Str) ++ t.text ++ (")" : Str)) = _
  rw [tl_append, tl_append, tl_append, c_open, c_close]
  simp
theorem text_bin {sg : Str} {l r : Tre} : tl (Tre.bin sg l r).text = [40] ++ (tl l.text ++ ((32 :: (tl sg ++ [32])) ++ (tl r.text ++ [41]))) := by
  show tl (("(" : Str) ++ l.text ++ (" " : Str) ++ sg ++ (" " : Str) ++ r.text ++ (")" : Str)) = _
  rw [tl_append, tl_append, tl_append, tl_append, tl_append, tl_append, c_open, c_close, c_sp]
  simp
theorem text_leaf {lab nm : Str} : tl (Tre.leaf lab nm).text = tl lab ++ (58 :: tl nm) := by
  show tl (lab ++ (":" : Str) ++ nm) = _
  rw [tl_append, tl_append, c_colon]
  simp
theorem text_ask {req nm : Str} : tl (Tre.ask req nm).text = tl nm ++ (46 :: tl req) := by
  show tl (nm ++ ("." : Str) ++ req) = _
  rw [tl_append, tl_append, c_dot]
  simp
theorem un_open : ∀ s ∈ unary, s ≠ "(" := by decide +kernel
theorem bin_open : ∀ s ∈ binary, s ≠ "(" := by decide +kernel
/-- a closing bracket is read -/
theorem loop_close {t s : Str} {m i : Nat} {us : List Str} {ps : List Part} {r : List Nat} (hs : s ≠ "(") (h : At t i [41] r) : loopM t (m + 1) i false (us ++ [s]) ps = loopM t m (i + 1) false us (ps ++ [((s, "", "") : Part)]) := by
  rw [loop_f, if_neg hs, h.get0, if_pos rfl]
/-- a tree's text is read -/
theorem parse_tre : ∀ {T : Tre}, T.ok → ∀ {t : Str} {i : Nat} {r : List Nat} (m : Nat) (w : List Str) (fd : List Part), At t i (tl T.text) r → Stop r → w.length + T.depth ≤ 100 →
    loopM t (m + T.cost) i true w fd = loopM t m (i + (tl T.text).length) false w (fd ++ T.parts)
  | .leaf lab nm, ok, t, i, r, m, w, fd, h, hr, hd => by
    rw [text_leaf] at h ⊢
    rw [show m + (Tre.leaf lab nm).cost = m + 1 from rfl, loop_s3 (start_leaf ok.1 ok.2 h hr), List.length_append]
    show loopM t m (i + (tl lab).length + 1 + (tl nm).length) false w _ = loopM t m (i + ((tl lab).length + ((tl nm).length + 1))) false w _
    rw [show i + (tl lab).length + 1 + (tl nm).length = i + ((tl lab).length + ((tl nm).length + 1)) by omega]
    rfl
  | .ask req nm, ok, t, i, r, m, w, fd, h, hr, hd => by
    rw [text_ask] at h ⊢
    rw [show m + (Tre.ask req nm).cost = m + 1 from rfl, loop_s3 (start_ask ok.1 ok.2.1 ok.2.2 h hr), List.length_append]
    show loopM t m (i + (tl nm).length + 1 + (tl req).length) false w _ = loopM t m (i + ((tl nm).length + ((tl req).length + 1))) false w _
    rw [show i + (tl nm).length + 1 + (tl req).length = i + ((tl nm).length + ((tl req).length + 1)) by omega]
    rfl
  | .un sg T, ok, t, i, r, m, w, fd, h, hr, hd => by
    rw [text_un] at h ⊢
    have hd : w.length + (T.depth + 1) ≤ 100 := hd
    have h1 : At t i (tl sg) (40 :: ((tl T.text ++ [41]) ++ r)) := by
      have := h.left
      rw [List.append_assoc] at this
      exact this
    have h2 : At t (i + (tl sg).length + 1) (tl T.text ++ [41]) r := At.after (cs := [40]) h.after
    have h3 := h2.left
    have h4 := h2.after
    rw [show m + (Tre.un sg T).cost = m + 1 + T.cost + 1 by show m + (T.cost + 2) = _; omega, loop_s2 (start_un ok.1 (by omega) h1),
      parse_tre ok.2 (m + 1) (w ++ [sg]) fd h3 (stop_of fun q => absurd q.1 (by decide)) (by rw [List.length_append]; show w.length + 1 + T.depth ≤ 100; omega), loop_close (un_open sg ok.1) h4]
    have el : (tl sg ++ ([40] ++ (tl T.text ++ [41])) : List Nat).length = (tl sg).length + 1 + (tl T.text).length + 1 := by
      simp only [List.length_append, List.length_cons, List.length_nil]
      omega
    rw [el, show i + ((tl sg).length + 1 + (tl T.text).length + 1) = i + (tl sg).length + 1 + (tl T.text).length + 1 by omega, List.append_assoc]
    rfl
  | .bin sg l r', ok, t, i, r, m, w, fd, h, hr, hd => by
    rw [text_bin] at h ⊢
    have hd : w.length + (max l.depth r'.depth + 1) ≤ 100 := hd
    have h1 := h.left
    have h2 := h.after
    have h3 := h2.left
    have h4 := h2.after
    have h5 := h4.left
    have h6 := h4.after
    have h7 := h6.left
    have h8 := h6.after
    have hs := sign_at ok.1 h5
    have ls : (32 :: (tl sg ++ [32])).length = (tl sg).length + 2 := by simp
    have l1 : ([40] : List Nat).length = 1 := rfl
    rw [ls, l1] at h7 h8
    rw [l1] at h3 hs h5
    rw [show m + (Tre.bin sg l r').cost = m + 1 + r'.cost + 1 + l.cost + 1 by show m + (l.cost + r'.cost + 3) = _; omega, loop_s2 (start_bin (by omega) h1),
      parse_tre ok.2.1 (m + 1 + r'.cost + 1) (w ++ [("(" : Str)]) fd h3 (stop_of fun q => absurd q.1 (by decide)) (by rw [List.length_append]; show w.length + 1 + l.depth ≤ 100; omega), loop_f, if_pos rfl, hs]
    dsimp only
    rw [show i + 1 + (tl l.text).length + 1 + (tl sg).length + 1 = i + 1 + (tl l.text).length + ((tl sg).length + 2) by omega,
      parse_tre ok.2.2 (m + 1) (w ++ [sg]) (fd ++ l.parts) h7 (stop_of fun q => absurd q.1 (by decide)) (by rw [List.length_append]; show w.length + 1 + r'.depth ≤ 100; omega), loop_close (bin_open sg ok.1) h8]
    have el : ([40] ++ (tl l.text ++ ((32 :: (tl sg ++ [32])) ++ (tl r'.text ++ [41]))) : List Nat).length = 1 + (tl l.text).length + ((tl sg).length + 2) + (tl r'.text).length + 1 := by
      simp only [List.length_append, List.length_cons, List.length_nil]
      omega
    rw [el, show i + (1 + (tl l.text).length + ((tl sg).length + 2) + (tl r'.text).length + 1) = i + 1 + (tl l.text).length + ((tl sg).length + 2) + (tl r'.text).length + 1 by omega, List.append_assoc, List.append_assoc]
    rfl
theorem cost_le : ∀ {T : Tre}, T.ok → T.cost ≤ (tl T.text).length
  | .leaf lab nm, ok => by
    rw [text_leaf, List.length_append]
    show 1 ≤ _ + (_ + 1)
    omega
  | .ask req nm, ok => by
    rw [text_ask, List.length_append]
    show 1 ≤ _ + (_ + 1)
    omega
  | .un sg T, ok => by
    have := cost_le ok.2
    rw [text_un]
    show T.cost + 2 ≤ _
    simp only [List.length_append, List.length_cons, List.length_nil]
    omega
  | .bin sg l r, ok => by
    have h1 := cost_le ok.2.1
    have h2 := cost_le ok.2.2
    rw [text_bin]
    show l.cost + r.cost + 3 ≤ _
    simp only [List.length_append, List.length_cons, List.length_nil]
    omega
/-- what is written is read -/
theorem parse_text {T : Tre} (ok : T.ok) (hd : T.depth ≤ 100) : parseM T.text = .ok T.parts := by
  have hc := cost_le ok
  rw [← len_tl] at hc
  have h : At T.text 0 (tl T.text) [] := by
    unfold At
    rw [List.drop_zero, List.append_nil]
  have p := parse_tre ok (T.text.length - T.cost + 1) [] [] h (fun c q => by cases q) (by rw [List.length_nil]; omega)
  unfold parseM
  rw [show T.text.length + 1 = T.text.length - T.cost + 1 + T.cost by omega, p, loop_end, ← len_tl, if_neg (by omega), List.nil_append]
theorem written_text {T : Tre} (ok : T.ok) : writM T.parts [] = some [T.text] := by
  have := writ_tre ok [] []
  rw [List.append_nil] at this
  exact this
end TR

namespace K36
open PySem PySem.Spec PyProof.Rows L2 EV TL LM PM TR
theorem start_open {t : Str} {i o j : Nat} {s : Str} (h : startM t i o = .ok (j, .inl s)) : o ≠ 100 := by
  intro e
  subst e
  unfold startM at h
  split at h
  · rw [if_pos rfl] at h
    cases h
  · split at h
    · split at h
      · split at h
        · cases h
        · split at h
          · cases h
          · injection h with h
            injection h with h1 h2
            cases h2
      · cases h
    · split at h
      · cases h
      · split at h
        · rw [if_pos rfl] at h
          cases h
        · split at h
          · split at h
            · injection h with h
              injection h with h1 h2
              cases h2
            · cases h
          · cases h
theorem ix_last (n : Nat) : ixN (n + 1) (-1) = some n := by
  unfold ixN
  rw [if_neg (by omega), if_pos (by omega), show ((-1 : Int) + ((n + 1 : Nat) : Int)) = ((n : Nat) : Int) by omega, Int.toNat_natCast]
theorem set_last (us : List Str) (s s' : Str) : (us.map V.str ++ [V.str s]).set us.length (.str s') = (us ++ [s']).map V.str := by
  rw [List.set_append_right _ _ (by rw [List.length_map]; exact Nat.le_refl _), List.length_map, Nat.sub_self, List.map_append]
  rfl
theorem PhS.to {C a dx wl fl : Addr} {t : Str} {i j : Nat} {ws : List Str} {ps : List Part} {H G : Hp} (h : PhS C a dx wl fl t i ws ps H) (e : G = upd H a (.ins C dx (phF t j wl fl))) : KeepP a wl fl H G ∧ PhS C a dx wl fl t j ws ps G := by
  subst e
  have wn := h.wn
  have fn := h.fn
  obtain ⟨rs, h1, h2⟩ := h.fo
  refine ⟨KeepP.at, upd_same, by rw [upd_ne wn]; exact h.wa, ⟨rs, by rw [upd_ne fn]; exact h1, h2.mov fun b z hz => ?_⟩, h.ne⟩
  rw [upd_ne (fun q => by rw [q, h.me] at hz; cases hz)]
  exact hz
theorem PhS.wait {C a dx wl fl : Addr} {t : Str} {i : Nat} {ws us : List Str} {ps : List Part} {H G : Hp} (h : PhS C a dx wl fl t i ws ps H) (e : G = upd H wl (.lst (us.map V.str))) : KeepP a wl fl H G ∧ PhS C a dx wl fl t i us ps G := by
  subst e
  have wn := h.wn
  obtain ⟨rs, h1, h2⟩ := h.fo
  refine ⟨fun b u _ n2 _ z => by rw [upd_ne n2]; exact z, by rw [upd_ne (Ne.symm wn)]; exact h.me, upd_same, ⟨rs, by rw [upd_ne (Ne.symm h.ne)]; exact h1, h2.mov fun b z hz => ?_⟩, h.ne⟩
  rw [upd_ne (fun q => by rw [q, h.wa] at hz; cases hz)]
  exact hz
theorem PhS.add {C a dx wl fl x : Addr} {t : Str} {i : Nat} {ws : List Str} {ps : List Part} {p : Part} {rs : List V} {H G : Hp} (h : PhS C a dx wl fl t i ws ps H) (hf : H fl = some (.lst rs)) (nx : H x = none)
    (e : G = upd (upd H x (.tup [.str p.1, .str p.2.1, .str p.2.2])) fl (.lst (rs ++ [.ref x]))) : KeepP a wl fl H G ∧ PhS C a dx wl fl t i ws (ps ++ [p]) G := by
  have e0 : upd H a (.ins C dx (phF t i wl fl)) = H := by
    funext b
    by_cases q : b = a
    · rw [q, upd_same]
      exact h.me.symm
    · rw [upd_ne q]
  exact h.found (j := i) hf (by rw [e0]; exact nx) (by rw [e0]; exact e)
section
variable {P : Program} {w : World} {K : Fg} {mg : Str → Option Value} {base : Heap}
/-- the whole text -/
def spAll (C CB : Addr) : Sp := fun vs H Q E => ∃ (a dx wl fl : Addr) (t : Str), vs = [.ref a] ∧ PhS C a dx wl fl t 0 [] [] H ∧ t.length ≤ 1000000 ∧
  (∀ k, parseM t = .error k → Bad CB a wl fl k H E) ∧ (∀ ps, parseM t = .ok ps → ps.length ≤ t.length → ∀ l G rs, KeepP a wl fl H G → H l = none → G l = some (.lst rs) → PartsAt G rs ps → Q (.ref l) G)
theorem ok_all {f C CB : Addr} {fd : FuncData} (F : Fun K "take_all" "Phrase.take_all" s_Phrase_take_all f fd) (T : Cst K mg) (hC : PhC K C) (O_BadExpression : OkC P w K mg base 1 "BadExpression" CB ["self", "at"] (spErr1 CB "at")) (ty_BadExpression : PySem.W.typeIn K (.ref CB) = some (.type "type"))
    (O_take : OkM (L2.CX P w) P w K mg base 3 C "_take" ["self", "letter"] (spTakeL C CB)) (O_take_start : OkM (L2.CX P w) P w K mg base 6 C "_take_start" ["self"] (spStart C CB)) (O_take_sign : OkM (L2.CX P w) P w K mg base 4 C "_take_sign" ["self"] (spSign C CB)) :
    FnOk P w K mg base (L2.CX P w) 7 f fd ["self"] (spAll C CB) := by
  refine F.okX sc_Phrase_take_all (fun vs H Q E h => ?_) (fun cdv A outer s H vs Q E hr h => ?_)
  · obtain ⟨a, dx, wl, fl, t, rfl, _⟩ := h
    rfl
  · obtain ⟨a, dx, wl, fl, t, rfl, ph0, hl, k1, k2⟩ := h
    refine ⟨_, (pss_cons (ps_set (i := 1) sc_Phrase_take_all.nd rfl (Or.inl rfl) pe_bl)
    (pss_cons (ps_while (passes_of rfl) (PW.pt (pw_or (pt_truth (pv 1) (by intro _; rfl)) (pw_or1 (pt_truth (pe_fld (pv 0) rfl) (by intro _; rfl))))) (pss_one (ps_if (pt_truth (pv 1) (by intro _; rfl)) (pss_one (ps_set (i := 1) sc_Phrase_take_all.nd rfl (Or.inl rfl) (pe_methX0 (takes_of rfl rfl rfl rfl) (pv 0) hC.cls O_take_start (hr.mono (by decide))))) (pss_one (ps_if (pt_cmpR op_eq (pe_ix ix_list (pe_fld (pv 0) rfl) (pe_un un_neg pe_int) (fun _ _ => rfl)) pe_str (nomark _)) (pss_cons (ps_asg (pe_methX0 (takes_of rfl rfl rfl rfl) (pv 0) hC.cls O_take_sign (hr.mono (by decide))) (pg_sub (pe_fld (pv 0) rfl) (pe_un un_neg pe_int) set_list))
    (pss_one (ps_set (i := 1) sc_Phrase_take_all.nd rfl (Or.inl rfl) pe_bl))) (pss_cons (ps_expr (pe_methX (takes_of rfl rfl rfl rfl) (pv 0) hC.cls O_take (hr.mono (by decide)) (pa_cons pe_str pa_nil)))
    (pss_one (ps_expr (pe_bm PySem.F.plainAttrs_list PySem.F.slot_list_append PySem.F.type_list_append mt_append (pe_fld (pv 0) rfl) (pa_cons (pe_tup (pa_cons (pe_bm0 PySem.F.plainAttrs_list PySem.F.slot_list_pop PySem.F.type_list_pop mt_pop (pe_fld (pv 0) rfl)) (pa_cons pe_str (pa_cons pe_str pa_nil)))) pa_nil))))))))))
    (pss_cons (ps_if (pt_cmpR op_lt (pe_fld (pv 0) rfl) (pe_callB call_len_str (by rfl) T.n_len (by decide +kernel) (pa_cons (pe_fld (pv 0) rfl) pa_nil)) (nomark _)) (pss_one (ps_raise rfl (takes_of rfl rfl rfl rfl) (pmk_x O_BadExpression ty_BadExpression (hr.mono (by decide)) (pa_cons (pe_fld (pv 0) rfl) pa_nil)))) pss_nil)
    (pss_one (ps_ret (pe_callTy call_list_of (by rfl) T.n_list (by decide +kernel) (pa_cons (pe_fld (pv 0) rfl) pa_nil))))))), ?_⟩
    let Inv : Nat → L2.St → Hp → Prop := fun m σ G => ∃ i fo ws ps, σ = [some (.ref a), some (.bl fo)] ∧ PhS C a dx wl fl t i ws ps G ∧ KeepP a wl fl H G ∧ i ≤ t.length ∧ ws.length ≤ 100 ∧ ps.length ≤ i ∧ t.length + 1 ≤ m + i ∧ loopM t m i fo ws ps = parseM t
    refine ⟨Inv, ⟨t.length + 1, 0, true, [], [], rfl, ph0, KeepP.refl _, Nat.zero_le _, by decide, Nat.le_refl _, by omega, rfl⟩, ?_⟩
    rintro m σ G ⟨i, fo, ws, ps, rfl, ph, kp, hi, lw, lp, hm, hM⟩
    obtain ⟨m, rfl⟩ : ∃ m', m = m' + 1 := ⟨m - 1, by omega⟩
    have bad : ∀ {k G'}, parseM t = .error k → KeepP a wl fl G G' → Bad CB a wl fl k G' E := fun h kk => (k1 _ h).keep (kp.trans kk)
    refine ⟨_, rfl, fo, rfl, ?_⟩
    cases fo with
    | true =>
      refine iteT (iteT ⟨fun σ' G' => ∃ m', m' < m + 1 ∧ Inv m' σ' G', fun _ _ z => z, ?_⟩)
      refine ⟨_, rfl, true, rfl, iteT ⟨_, rfl, a, dx, _, rfl, ph.me, ph_no (by decide +kernel), a, dx, wl, fl, t, i, ws, ps, rfl, ph, hi, hl, lw, by omega, fun k h => ?_, fun j s h G' kp' ph' => ?_, fun j p h G' kp' ph' => ?_⟩⟩
      · exact bad (by rw [← hM]; exact loop_s1 h) (KeepP.refl _)
      · obtain ⟨l1, l2⟩ := start_le hi h
        have l3 := start_open h
        exact ⟨m, by omega, j, true, _, _, rfl, ph', kp.trans kp', l2, by rw [List.length_append]; show ws.length + 1 ≤ _; omega, by omega, by omega, by rw [← hM]; exact (loop_s2 h).symm⟩
      · obtain ⟨l1, l2⟩ := start_le hi h
        exact ⟨m, by omega, j, false, _, _, rfl, ph', kp.trans kp', l2, lw, by rw [List.length_append]; show ps.length + 1 ≤ _; omega, by omega, by rw [← hM]; exact (loop_s3 h).symm⟩
    | false =>
      refine iteF ⟨_, rfl, a, C, dx, _, _, rfl, ph.me, hC.cls, hC.no _ (by simp), ph_wait, _, .inl ⟨_, SqL.of ph.wa, rfl⟩, ?_⟩
      rcases List.eq_nil_or_concat ws with rfl | ⟨us, s, rfl⟩
      · refine iteF ?_
        rw [loop_end] at hM
        refine ⟨_, rfl, a, C, dx, _, _, rfl, ph.me, hC.cls, hC.no _ (by simp), ph_at, _, rfl, a, C, dx, _, _, rfl, ph.me, hC.cls, hC.no _ (by simp), ph_text, t, rfl, by rw [sizeLine_eq]; omega, _, _, rfl, rfl, _, rfl, ?_⟩
        by_cases e : i < t.length
        · rw [decide_eq_true (show ((i : Nat) : Int) < ((t.length : Nat) : Int) by omega)]
          rw [if_pos e] at hM
          exact iteT ⟨_, rfl, a, C, dx, _, _, rfl, ph.me, hC.cls, hC.no _ (by simp), ph_at, raise_at (bad hM.symm (KeepP.refl _))⟩
        · rw [decide_eq_false (show ¬ ((i : Nat) : Int) < ((t.length : Nat) : Int) by omega)]
          rw [if_neg e] at hM
          obtain ⟨rs, hf, hps⟩ := ph.fo
          refine iteF ⟨_, rfl, a, C, dx, _, _, rfl, ph.me, hC.cls, hC.no _ (by simp), ph_found, fl, _, rfl, .inl (SqL.of hf), fun l nl => ?_⟩
          have nlH : H l = none := by
            cases e : H l with
            | none => rfl
            | some u =>
              exfalso
              by_cases q1 : l = a
              · rw [q1, ph.me] at nl; cases nl
              · by_cases q2 : l = wl
                · rw [q2, ph.wa] at nl; cases nl
                · by_cases q3 : l = fl
                  · rw [q3, hf] at nl; cases nl
                  · rw [kp l u q1 q2 q3 e] at nl; cases nl
          exact k2 ps hM.symm (by omega) l _ rs (kp.trans (KeepP.of (same_upd nl))) nlH upd_same (hps.mov fun b z hz => (same_upd nl) _ _ hz)
      · rw [List.concat_eq_append] at ph lw hM
        rw [loop_f] at hM
        have hw : G wl = some (.lst (us.map V.str ++ [.str s])) := by rw [ph.wa, List.map_append]; rfl
        rw [show (!((us.concat s).map V.str).isEmpty) = true by cases us <;> rfl]
        refine iteT ⟨fun σ' G' => ∃ m', m' < m + 1 ∧ Inv m' σ' G', fun _ _ z => z, ?_⟩
        refine ⟨_, rfl, false, rfl, iteF ⟨_, rfl, a, C, dx, _, _, rfl, ph.me, hC.cls, hC.no _ (by simp), ph_wait, _, rfl, wl, _, _, .str s, rfl, rfl, SqL.of hw, atI_last _ _, rfl, _, rfl, ?_⟩⟩
        by_cases e : s = "("
        · rw [decide_eq_true (show V.str s = V.str "(" by rw [e])]
          rw [if_pos e] at hM
          refine iteT ⟨_, rfl, a, dx, _, rfl, ph.me, ph_no (by decide +kernel), a, dx, wl, fl, t, i, rfl, ph.me, hi, hl, fun k h => bad (by rw [← hM, h]) (KeepP.refl _), fun j s' h G' eG => ?_⟩
          obtain ⟨q1, q2⟩ := ph.to eG
          obtain ⟨l1, l2, _⟩ := sign_le h
          rw [h] at hM
          have hM : loopM t m j true (us ++ [s']) ps = parseM t := hM
          have hw2 : G' wl = some (.lst (us.map V.str ++ [.str s])) := by rw [q2.wa, List.map_append]; rfl
          refine ⟨_, rfl, a, C, dx, _, _, rfl, q2.me, hC.cls, hC.no _ (by simp), ph_wait, _, rfl, wl, _, _, us.length, rfl, rfl, hw2, by rw [List.length_append, List.length_map]; exact ix_last _, ?_⟩
          rw [set_last]
          obtain ⟨q3, q4⟩ := q2.wait (us := us ++ [s']) rfl
          exact ⟨m, by omega, j, true, _, _, rfl, q4, kp.trans (q1.trans q3), l2, by rw [List.length_append] at lw ⊢; exact lw, by omega, by omega, hM⟩
        · rw [decide_eq_false (show ¬ V.str s = V.str "(" from fun z => e (by injection z))]
          rw [if_neg e] at hM
          refine iteF ⟨_, rfl, a, dx, _, rfl, ph.me, ph_no (by decide +kernel), a, dx, wl, fl, t, i, 41, by rw [s_close], ph.me, hi, hl, fun e2 => ?_, fun e2 => bad (by rw [← hM, if_neg e2]) (KeepP.refl _)⟩
          rw [if_pos e2] at hM
          have l2 := at_lt e2
          obtain ⟨q1, q2⟩ := ph.to (j := i + 1) rfl
          generalize upd G a (.ins C dx (phF t (i + 1) wl fl)) = G1 at q1 q2
          obtain ⟨rs, hf, hps⟩ := q2.fo
          have lrs : rs.length ≤ 1000000 := by rw [hps.len]; omega
          have hw2 : G1 wl = some (.lst (us.map V.str ++ [.str s])) := by rw [q2.wa, List.map_append]; rfl
          refine ⟨_, rfl, a, C, dx, _, _, rfl, q2.me, hC.cls, hC.no _ (by simp), ph_found, .inl ⟨rfl, _, SqL.of hf⟩, _, rfl, a, C, dx, _, _, rfl, q2.me, hC.cls, hC.no _ (by simp), ph_wait, .inl ⟨rfl, _, SqL.of hw2⟩, wl, _, .str s, rfl, rfl, hw2, by rw [List.length_append]; exact List.getElem?_concat_length .., by show 3 ≤ sizeLine; decide, fun x nx => ?_⟩
          rw [List.dropLast_concat] at nx ⊢
          obtain ⟨q3, q4⟩ := q2.wait (us := us) rfl
          have hf2 : upd G1 wl (.lst (us.map V.str)) fl = some (.lst rs) := by rw [upd_ne (Ne.symm q2.ne)]; exact hf
          obtain ⟨q5, q6⟩ := q4.add (p := (s, "", "")) hf2 nx rfl
          refine ⟨fl, _, _, rfl, rfl, (same_upd nx) _ _ hf2, by rw [sizeLine_eq]; omega, ?_⟩
          exact ⟨m, by omega, i + 1, false, us, _, rfl, q6, kp.trans (q1.trans (q3.trans q5)), l2, by rw [List.length_append] at lw; have : ([s] : List Str).length = 1 := rfl; omega, by rw [List.length_append]; show ps.length + 1 ≤ _; omega, by omega, hM⟩
end
end K36

/-! an object of an own class with an own __eq__, compared with any value: == and != -/
namespace EV
open PySem PySem.Spec PyProof.Rows L2
/-- the type of a value, as a comparison asks for it -/
inductive TyN (H : Hp) : V → Value → Prop where
  | non : TyN H .non (.type "NoneType")
  | bl (b : Bool) : TyN H (.bl b) (.type "bool")
  | int (i : Int) : TyN H (.int i) (.type "int")
  | str (z : Str) : TyN H (.str z) (.type "str")
  | lst {a : Addr} {xs : List V} (e : H a = some (.lst xs)) : TyN H (.ref a) (.type "list")
  | tup {a : Addr} {xs : List V} (e : H a = some (.tup xs)) : TyN H (.ref a) (.type "tuple")
  | ins {a C dx : Addr} {fs : List (Str × V)} (e : H a = some (.ins C dx fs)) : TyN H (.ref a) (.ref C)
/-- the built-in kinds among them -/
def plainTys : List String := ["NoneType", "bool", "int", "str", "list", "tuple"]
theorem plain_sub {K : Fg} {C : Addr} : ∀ T ∈ plainTys, PySem.W.subIn K (.type T) (.ref C) = some false := by
  intro T hT
  have key : ∀ T ∈ plainTys, ∃ l, fastBuiltinMro T = some l ∧ l.all (fun v => match v with | .type _ => true | _ => false) = true := by
    intro T hT
    simp only [plainTys, List.mem_cons, List.not_mem_nil, or_false] at hT
    rcases hT with rfl | rfl | rfl | rfl | rfl | rfl
    · exact ⟨[.type "NoneType", .type "object"], by decide +kernel, rfl⟩
    · exact ⟨[.type "bool", .type "int", .type "object"], by decide +kernel, rfl⟩
    · exact ⟨[.type "int", .type "object"], by decide +kernel, rfl⟩
    · exact ⟨[.type "str", .type "object"], by decide +kernel, rfl⟩
    · exact ⟨[.type "list", .type "object"], by decide +kernel, rfl⟩
    · exact ⟨[.type "tuple", .type "object"], by decide +kernel, rfl⟩
  obtain ⟨l, e, hl⟩ := key T hT
  show (fastBuiltinMro T).map (·.contains (.ref C)) = some false
  rw [e]
  refine congrArg some (show l.contains (.ref C) = false from ?_)
  clear e
  induction l with
  | nil => rfl
  | cons x l ih =>
    rw [List.all_cons, Bool.and_eq_true] at hl
    rw [List.contains_cons]
    have h1 : (Value.ref C == x) = false := by
      cases x with
      | type n => exact beq_eq_false_iff_ne.mpr (fun q => nomatch q)
      | _ => exact absurd hl.1 Bool.false_ne_true
    rw [h1, Bool.false_or]
    exact ih hl.2
theorem TyN.first {H : Hp} {K : Fg} {C : Addr} {y : V} {tb : Value} (t : TyN H y tb) (hc : ∀ a D dx fs, y = .ref a → H a = some (.ins D dx fs) → D = C) : PySem.W.notFirst K C tb = true := by
  unfold PySem.W.notFirst
  have pl : ∀ T ∈ plainTys, (Value.type T == .ref C || PySem.W.subIn K (.type T) (.ref C) == some false) = true := fun T hT => by
    rw [plain_sub T hT]
    exact Bool.or_true _
  cases t with
  | non => exact pl _ (by decide)
  | bl b => exact pl _ (by decide)
  | int i => exact pl _ (by decide)
  | str z => exact pl _ (by decide)
  | lst e => exact pl _ (by decide)
  | tup e => exact pl _ (by decide)
  | ins e =>
    rw [hc _ _ _ _ rfl e]
    simp
section
variable {X : Cx} {k : Nat} {C : Addr} {ps : List Str} {sp : Sp} {pins : List (Addr × Obj)} {σ : L2.St} {H : Hp} {s : Shared}
theorem TyN.sees {y : V} {u tb : Value} (I : Inv X pins σ H s) (r : RelV y u) (t : TyN H y tb) : PySem.W.Looks (model X.prog X.w) s.heap (typeOf u) tb := by
  have at_obj : ∀ (a : Addr) (T : String), (∃ o, s.heap.get? a = some o ∧ o.cls = .type T) → PySem.W.Looks (model X.prog X.w) s.heap (typeOf (.ref a)) (.type T) := by
    rintro a T ⟨o, ho, hc⟩ A Q E s2 kp q
    exact wpAny_typeOf (show s2.TypeIs (.ref a) T from ⟨o, kp _ _ ho, hc⟩) q
  cases t with
  | non => cases (show u = Value.none from r); exact PySem.W.Looks.of_pure rfl
  | bl b => cases (show u = Value.bool b from r); exact PySem.W.Looks.of_pure rfl
  | int i => obtain ⟨_, q⟩ := (show ∃ t, u = Value.int i t from r); cases q; exact PySem.W.Looks.of_pure rfl
  | str z => obtain ⟨_, q⟩ := (show ∃ t, u = Value.str z t from r); cases q; exact PySem.W.Looks.of_pure rfl
  | lst e =>
    cases (show u = Value.ref _ from r)
    obtain ⟨_, _, n, _, h1⟩ := (show ObjOk X.prog X.w H s.heap _ (.lst _) from I.hok _ _ e)
    exact at_obj _ _ ⟨_, h1, rfl⟩
  | tup e =>
    cases (show u = Value.ref _ from r)
    obtain ⟨_, _, _, o, h1, h2, _⟩ := (show ObjOk X.prog X.w H s.heap _ (.tup _) from I.hok _ _ e)
    exact at_obj _ _ ⟨o, h1, h2⟩
  | ins e =>
    cases (show u = Value.ref _ from r)
    obtain ⟨_, _, J⟩ := ins_inst I e
    exact J.type
/-- x == y, x of the class at C, y any value of these kinds, by C's own __eq__ -/
def rEqA (C : Addr) (sp : Sp) : R2 := fun x y H Q => ∃ a dx fs tb, x = .ref a ∧ H a = some (.ins C dx fs) ∧ TyN H y tb ∧ (∀ b D dy gs, y = .ref b → H b = some (.ins D dy gs) → D = C) ∧ sp [.ref a, y] H (fun v H2 => ∃ c : Bool, v = .bl c ∧ Q (.bl c) H2) E0
theorem op_eqA (O : OkM CX0 X.prog X.w X.K X.mg X.base k C "__eq__" ps sp) (hr : Room k X.A) : OpR X (compareOp .Eq) (rEqA C sp) := by
  intro pins s σ H x y v u Q I rx ry want
  obtain ⟨a, dx, fs, tb, rfl, ea, ty, only, q⟩ := want
  cases (show v = Value.ref a from rx)
  obtain ⟨f, fd, F, hm, hb⟩ := O.ex
  obtain ⟨_, _, J⟩ := ins_inst I ea
  obtain ⟨_, fr⟩ := I.fr
  show wpAny (model X.prog X.w) X.A (richCompare .Eq (.ref a) u) (EP X pins σ Q) X.xe s
  refine PySem.W.cmp_K (op := .Eq) hr.units0 fr I.ok.mod.kin J (ty.sees I ry) (ty.first only) hm.at_ hm.fn ?_
  refine thn (run_fn (us := [.ref a, u]) (vs := [.ref a, y]) (dvs := []) F hr hb .nil pass0 I (.cons rfl (.cons ry .nil)) q) ?_
  rintro r s1 ⟨z, H2, I2, rz, c, rfl, q2⟩
  cases (show r = Value.bool c from rz)
  exact ⟨.bl c, H2, I2, rfl, q2⟩
/-- x != y: the class has no __ne__ of its own -/
def rNeA (C : Addr) (sp : Sp) : R2 := fun x y H Q => ∃ a dx fs tb, x = .ref a ∧ H a = some (.ins C dx fs) ∧ TyN H y tb ∧ (∀ b D dy gs, y = .ref b → H b = some (.ins D dy gs) → D = C) ∧ sp [.ref a, y] H (fun v H2 => ∃ c : Bool, v = .bl c ∧ Q (.bl (!c)) H2) E0
structure NeC (K : Fg) (C : Addr) : Prop where
  at_ : PySem.W.findIn K (.ref C) "__ne__" = some (some (.builtin "object.__ne__"))
  obj : PySem.W.mroIn K C (.type "object") = some true
theorem bound_ne {K : Fg} {M : Model} {A : Around} {E : Value → Shared → Prop} {a : Addr} {ox : Obj} {od : Option Obj} {us : List Value} {Q : Option Value → Shared → Prop} (kin : K.In s.heap) (J : PySem.W.InstAt s.heap a ox C od) (nc : NeC K C)
    (go : wpAny M A (call (.builtin "object.__ne__") (.ref a :: us)) (fun v => Q (some v)) E s) : wpAny M A (callSpecialIfBound? (.ref a) "__ne__" us) Q E s := by
  simp only [callSpecialIfBound?, bindSpecialIfBound?]
  refine wpAny_holding (wpAny_bind (wpAny_bind (wpAny_bind (J.type.here ((PySem.W.looks_findIn kin nc.at_).here ?_)))))
  refine wpAny_bind (wpAny_askSetting (wpAny_ite ?_))
  have last : wpAny M A (call (.builtin "object.__ne__") ([.ref a] ++ us) >>= fun v => pure (some v)) Q E s := wpAny_bind (wpAny_mono go (fun v s2 q => wpAny_pure q) (fun _ _ q => q))
  split
  · exact wpAny_bind (wpAny_of_eq (F.cmp_object.ne.bind _) (wpAny_pure last))
  · exact wpAny_tryCatch (wpAny_bind (wpAny_of_eq (F.cmp_object.ne.bind _) (wpAny_pure last)))
theorem op_neA (O : OkM CX0 X.prog X.w X.K X.mg X.base k C "__eq__" ps sp) (nc : NeC X.K C) (hr : Room (k + 2) X.A) : OpR X (compareOp .NotEq) (rNeA C sp) := by
  intro pins s σ H x y v u Q I rx ry want
  obtain ⟨a, dx, fs, tb, rfl, ea, ty, only, q⟩ := want
  cases (show v = Value.ref a from rx)
  obtain ⟨f, fd, Fo, hm, hb⟩ := O.ex
  obtain ⟨ox, od, J⟩ := ins_inst I ea
  obtain ⟨_, fr⟩ := I.fr
  have kin := I.kIn
  have inner : wpAny (model X.prog X.w) X.A (tryCompare (.ref a) "__ne__" u) (fun r s' => ∃ v, r = some v ∧ EP X pins σ Q v s') X.xe s := by
    unfold tryCompare
    refine wpAny_bind (bound_ne kin J nc (wpAny_call (codeAny_call_builtin F.cmp_object.ne.plain F.cmpEntry_ne (PySem.W.check_slot F.cmpKind_ne F.cmpSplit_ne (J.type.andThen (PySem.W.looks_mroIn kin nc.obj)) (F.cmpArgs_ne _ _) ?_))))
    have h1 : Room (k + 1) X.A.in1 := Room.in1 (k := k + 1) hr
    have hu1 := h1.units0
    have ask : ∀ (R : Option Value → Shared → Prop) (Er : Value → Shared → Prop), (∀ (c : Bool) s', EP X pins σ Q (.bool (!c)) s' → R (some (.bool c)) s') → wpAny (model X.prog X.w) X.A.in1 (callSpecialIfBound? (.ref a) "__eq__" [u]) R Er s := by
      intro R Er hR
      refine PySem.W.ifBound_K kin J hm.at_ hm.fn (run_in (vs := [.ref a, y]) Fo (h1.mono (by omega)) rfl hb I (.cons rfl (.cons ry .nil)) q ?_)
      rintro v s' ⟨z, H2, I2, rz, c, rfl, q2⟩
      cases (show v = Value.bool c from rz)
      exact hR c s' ⟨.bl (!c), H2, I2, rfl, q2⟩
    unfold Builtin.«object.__ne__»
    repeat (first | with_reducible refine ask _ _ ?_ | with_reducible refine wpAny_cRoomFor hu1 ?_ | wp_step)
    intro c s' e
    exact wpAny_bind (wpAny_truthy_bool (wpAny_pure (wpAny_pure ⟨_, rfl, e⟩)))
  have hu0 := hr.units0
  have firstly := ty.first (K := X.K) only
  show wpAny (model X.prog X.w) X.A (richCompare .NotEq (.ref a) u) (EP X pins σ Q) X.xe s
  unfold richCompare
  simp only [oneThing_ref]
  refine wpAny_holding (wpAny_bind (wpAny_cRoomFor hu0 (wpAny_bind (J.type.here (wpAny_bind ((ty.sees I ry).here ?_))))))
  by_cases same : tb = .ref C
  · rw [if_neg (by rw [same]; simp)]
    refine wpAny_bind (wpAny_pure ?_)
    simp only [Bool.false_eq_true, if_false]
    refine wpAny_bind (wpAny_mono inner ?_ (fun _ _ z => z))
    rintro r s' ⟨v, rfl, done⟩
    exact wpAny_pure done
  · have other : PySem.W.subIn X.K tb (.ref C) = some false := by
      unfold PySem.W.notFirst at firstly
      rw [beq_eq_false_iff_ne.mpr same, Bool.false_or] at firstly
      exact eq_of_beq firstly
    rw [if_pos (by simpa using Ne.symm same)]
    refine wpAny_bind ((PySem.W.looks_subIn kin other).here ?_)
    simp only [Bool.false_eq_true, if_false]
    refine wpAny_bind (wpAny_mono inner ?_ (fun _ _ z => z))
    rintro r s' ⟨v, rfl, done⟩
    exact wpAny_pure done
end
end EV

/-! operators of own classes: a op b (both of the class), -a +a ~a, repr, truth -/
namespace EV
open PySem PySem.Spec PyProof.Rows L2
theorem back_of {y : V} {v : Value} {s : Shared} {Q : Value → Shared → Prop} (r : RelV y v) (q : Q v s) : PySem.W.CmpBack Q v s := by
  cases y with
  | non => cases (show v = Value.none from r); exact q
  | bl b => cases (show v = Value.bool b from r); exact q
  | int i => obtain ⟨_, e⟩ := (show ∃ t, v = Value.int i t from r); cases e; exact q
  | str x => obtain ⟨_, e⟩ := (show ∃ t, v = Value.str x t from r); cases e; exact q
  | byt b => obtain ⟨_, e⟩ := (show ∃ t, v = Value.bytes b t from r); cases e; exact q
  | flt b => obtain ⟨_, e⟩ := (show ∃ t, v = Value.float b t from r); cases e; exact q
  | ref a => cases (show v = Value.ref a from r); exact q
  | ty n => cases (show v = Value.type n from r); exact q
section
variable {X : Cx} {k : Nat} {C : Addr} {ps : List Str} {sp : Sp}
/-- a op b, both of the class at C, by C's own method -/
def rBinO (C : Addr) (sp : Sp) : R2 := fun x y H Q => ∃ a b dx dy fs gs, x = .ref a ∧ y = .ref b ∧ H a = some (.ins C dx fs) ∧ H b = some (.ins C dy gs) ∧ sp [.ref a, .ref b] H Q E0
theorem op_binO {op : Operator} {m : Str} (O : OkM CX0 X.prog X.w X.K X.mg X.base k C m ps sp) (first : PySem.W.selfFirst X.K C = true) (hr : Room k X.A) (hm : m = PySem.dunder op.info.2 := by rfl) : OpR X (binaryOp op) (rBinO C sp) := by
  subst hm
  intro pins s σ H x y v u Q I rx ry want
  obtain ⟨a, b, dx, dy, fs, gs, rfl, rfl, ea, eb, q⟩ := want
  cases (show v = Value.ref a from rx)
  cases (show u = Value.ref b from ry)
  obtain ⟨f, fd, F, at_, hb⟩ := O.ex
  obtain ⟨_, _, J⟩ := ins_inst I ea
  obtain ⟨_, _, J'⟩ := ins_inst I eb
  obtain ⟨_, fr⟩ := I.fr
  refine PySem.W.binop_K fr I.ok.mod.kin J J'.type first at_.at_ at_.fn (thn (run_fn (us := [.ref a, .ref b]) (vs := [.ref a, .ref b]) (dvs := []) F hr hb .nil pass0 I (.cons rfl (.cons rfl .nil)) q) ?_)
  rintro r s1 ⟨z, H2, I2, rz, q2⟩
  exact back_of rz ⟨z, H2, I2, rz, q2⟩
/-- op a -/
def rUnO (C : Addr) (sp : Sp) : V → Hp → VK → Prop := fun x H Q => ∃ a dx fs, x = .ref a ∧ H a = some (.ins C dx fs) ∧ sp [.ref a] H Q E0
theorem un_run {m : Str} (O : OkM CX0 X.prog X.w X.K X.mg X.base k C m ps sp) (hr : Room k X.A) {pins : List (Addr × Obj)} {σ : L2.St} {H : Hp} {s : Shared} {a : Addr} {Q : VK} (I : Inv X pins σ H s) (q : sp [.ref a] H Q E0) :
    ∃ f, PySem.W.findIn X.K (.ref C) m = some (some (.ref f)) ∧ PySem.W.isFn X.K (.ref f) = true ∧ wpAny (model X.prog X.w) X.A (call (.ref f) [.ref a]) (EP X pins σ Q) X.xe s := by
  obtain ⟨f, fd, F, at_, hb⟩ := O.ex
  exact ⟨f, at_.at_, at_.fn, run_fn (us := [.ref a]) (vs := [.ref a]) (dvs := []) F hr hb .nil pass0 I (.cons rfl .nil) q⟩
theorem un_negO (O : OkM CX0 X.prog X.w X.K X.mg X.base k C "__neg__" ps sp) (hr : Room k X.A) : UnR X (unaryOp .USub) (rUnO C sp) := by
  rintro pins s σ H x v Q I rx ⟨a, dx, fs, rfl, ea, q⟩
  cases (show v = Value.ref a from rx)
  obtain ⟨f, h1, h2, h3⟩ := un_run O hr I q
  obtain ⟨_, _, J⟩ := ins_inst I ea
  obtain ⟨_, fr⟩ := I.fr
  exact PySem.W.ksp_neg fr I.ok.mod.kin J h1 h2 h3
theorem un_posO (O : OkM CX0 X.prog X.w X.K X.mg X.base k C "__pos__" ps sp) (hr : Room k X.A) : UnR X (unaryOp .UAdd) (rUnO C sp) := by
  rintro pins s σ H x v Q I rx ⟨a, dx, fs, rfl, ea, q⟩
  cases (show v = Value.ref a from rx)
  obtain ⟨f, h1, h2, h3⟩ := un_run O hr I q
  obtain ⟨_, _, J⟩ := ins_inst I ea
  obtain ⟨_, fr⟩ := I.fr
  exact PySem.W.ksp_pos fr I.ok.mod.kin J h1 h2 h3
theorem un_invO (O : OkM CX0 X.prog X.w X.K X.mg X.base k C "__invert__" ps sp) (hr : Room k X.A) : UnR X (unaryOp .Invert) (rUnO C sp) := by
  rintro pins s σ H x v Q I rx ⟨a, dx, fs, rfl, ea, q⟩
  cases (show v = Value.ref a from rx)
  obtain ⟨f, h1, h2, h3⟩ := un_run O hr I q
  obtain ⟨_, _, J⟩ := ins_inst I ea
  obtain ⟨_, fr⟩ := I.fr
  exact PySem.W.ksp_inv fr I.ok.mod.kin J h1 h2 h3
/-- repr(a) -/
theorem call_reprO (O : OkM CX0 X.prog X.w X.K X.mg X.base k C "__repr__" ps sp) (hr : Room (k + 1) X.A) : CallR X (.builtin "repr") (fun xs H Q => ∃ a dx fs, xs = [.ref a] ∧ H a = some (.ins C dx fs) ∧
    sp [.ref a] H (fun v H2 => ∃ z : Str, v = .str z ∧ Q (.str z) H2) E0) := by
  intro pins s σ H xs us Q I r want
  obtain ⟨a, dx, fs, rfl, ea, q⟩ := want
  obtain ⟨u, rfl, ru⟩ := vals1 r
  cases (show u = Value.ref a from ru)
  obtain ⟨f, fd, F, at_, hb⟩ := O.ex
  obtain ⟨_, _, J⟩ := ins_inst I ea
  obtain ⟨_, fr⟩ := I.fr
  have h1 : Room k X.A.in1 := Room.in1 hr
  refine PySem.W.repr_K h1.units0 fr I.ok.mod.kin J at_.at_ at_.fn (run_in (vs := [.ref a]) F h1 rfl hb I (.cons rfl .nil) q ?_)
  rintro v s' ⟨z, H2, I2, rz, y, rfl, q2⟩
  obtain ⟨t, rfl⟩ := rz
  exact ⟨.str y, H2, I2, ⟨_, rfl⟩, q2⟩
/-- the truth of an object with an own __bool__ -/
theorem tru_ownO (O : OkM CX0 X.prog X.w X.K X.mg X.base k C "__bool__" ps sp) (hr : Room k X.A) : TruR X (fun x H Q => ∃ a dx fs, x = .ref a ∧ H a = some (.ins C dx fs) ∧ sp [.ref a] H (fun v H2 => ∃ c : Bool, v = .bl c ∧ Q c H2) E0) := by
  rintro pins s σ H x v Q I rx ⟨a, dx, fs, rfl, ea, q⟩
  cases (show v = Value.ref a from rx)
  obtain ⟨f, h1, h2, h3⟩ := un_run O hr I q
  obtain ⟨_, _, J⟩ := ins_inst I ea
  obtain ⟨_, fr⟩ := I.fr
  refine PySem.W.truthy_K fr I.ok.mod.kin J h1 h2 (thn h3 ?_)
  rintro r s1 ⟨z, H2, I2, rz, c, rfl, q2⟩
  cases (show r = Value.bool c from rz)
  exact ⟨H2, I2, q2⟩
end
end EV

namespace K36
open PySem PySem.Spec PyProof.Rows L2 EV TL LM PM
def exF (pp ps : Addr) : List (Str × V) := [("_parts", .ref pp), ("_signs", .ref ps)]
theorem ex_parts {pp ps : Addr} : (exF pp ps).lookup ("_parts" : Str) = some (V.ref pp) := rfl
theorem ex_signs {pp ps : Addr} : (exF pp ps).lookup ("_signs" : Str) = some (V.ref ps) := rfl
theorem ex_no {pp ps : Addr} {m : Str} (h : m ∉ (["_parts", "_signs"] : List Str)) : (exF pp ps).lookup m = none := by
  simp only [List.mem_cons, List.not_mem_nil, or_false, not_or] at h
  obtain ⟨h1, h2⟩ := h
  unfold exF
  simp only [List.lookup, beq_eq_false_iff_ne.mpr h1, beq_eq_false_iff_ne.mpr h2]
structure ExC (K : Fg) (C : Addr) : Prop where
  cls : Cls K C
  no : ∀ f ∈ (["_parts", "_signs"] : List Str), NoAttr K C f

def signP (p : Part) : Option Str := if p.1 = "" then none else some p.1
def signsP (P : List Part) : List Str := P.filterMap signP
structure ExR (K : Fg) (H : Hp) (pp ps : Addr) (P : List Part) : Prop where
  parts : ∃ rs, SqT K H pp rs ∧ PartsAt H rs P
  signs : SqT K H ps ((signsP P).map V.str)
def ExAt (K : Fg) (H : Hp) (C a : Addr) (P : List Part) : Prop := ∃ dx pp ps, H a = some (.ins C dx (exF pp ps)) ∧ ExR K H pp ps P
theorem SqT.same {K : Fg} {H H' : Hp} {a : Addr} {xs : List V} (e : Same H H') (h : SqT K H a xs) : SqT K H' a xs := by
  rcases h with (h | ⟨o, h⟩) | h
  · exact .inl (.inl (e _ _ h))
  · exact .inl (.inr ⟨o, e _ _ h⟩)
  · exact .inr h
theorem PartsAt.same {H H' : Hp} {rs : List V} {P : List Part} (s : Same H H') (h : PartsAt H rs P) : PartsAt H' rs P := h.mov fun b z e => s _ _ e
theorem ExAt.same {K : Fg} {H H' : Hp} {C a : Addr} {P : List Part} (s : Same H H') : ExAt K H C a P → ExAt K H' C a P := fun ⟨dx, pp, ps, ha, ⟨⟨rs, h1, h2⟩, h3⟩⟩ =>
  ⟨dx, pp, ps, s _ _ ha, ⟨⟨rs, SqT.same s h1, h2.same s⟩, SqT.same s h3⟩⟩
theorem signs_gath (P : List Part) {n : Nat} (hn : n = P.length) : gath (fun j : Nat => P[j]?.bind fun p => if p.1 = "" then none else some (V.str p.1)) n = (signsP P).map V.str := by
  subst hn
  rw [gath_fm P _ _ (Nat.le_refl _), List.take_length]
  unfold signsP
  rw [List.map_filterMap]
  congr 1
  funext p
  unfold signP
  by_cases e : p.1 = ""
  · rw [if_pos e, if_pos e]; rfl
  · rw [if_neg e, if_neg e]; rfl
theorem made {G : Hp} {a dx C : Addr} (na : G a = none) (ndx : G dx = none) (nad : dx ≠ a) : Same G (upd (upd G dx (.own a)) a (.ins C dx [])) ∧
    ∀ H' : Hp, (∀ b u, b ≠ a → upd (upd G dx (.own a)) a (.ins C dx []) b = some u → H' b = some u) → ∀ b u, G b = some u → H' b = some u := by
  have na2 : upd G dx (.own a) a = none := by rw [upd_ne (Ne.symm nad)]; exact na
  have s : Same G (upd (upd G dx (.own a)) a (.ins C dx [])) := (same_upd ndx).trans (same_upd na2)
  exact ⟨s, fun H' kp b u z => kp b u (ne_of_none z na) (s b u z)⟩
section
variable {P : Program} {w : World} {K : Fg} {mg : Str → Option Value} {base : Heap}
def spPhrase (C : Addr) : Sp := fun vs H Q _ => ∃ (a dx : Addr) (t : Str), vs = [.ref a, .str t] ∧ H a = some (.ins C dx []) ∧
  ∀ wl fl H', H wl = none → H fl = none → wl ≠ fl → H' a = some (.ins C dx (phF t 0 wl fl)) → H' wl = some (.lst []) → H' fl = some (.lst []) → (∀ b u, b ≠ a → H b = some u → H' b = some u) → Q .non H'
theorem ok_Phrase {f C : Addr} {fd : FuncData} (F : Fun K "__init__" "Phrase.__init__" s_Phrase___init__ f fd) (T : Cst K mg) (hC : PhC K C) : FnOk P w K mg base CX0 1 f fd ["self", "text"] (spPhrase C) := by
  refine F.ok sc_Phrase___init__ (fun vs H Q E h => ?_) (fun cdv A outer s H vs Q E hr h => ?_)
  · obtain ⟨a, dx, t, rfl, _⟩ := h
    rfl
  · obtain ⟨a, dx, t, rfl, ha, k⟩ := h
    refine ⟨_, (pss_cons (ps_fld (pv 0) (pv 1) rfl)
    (pss_cons (ps_fld (pv 0) pe_int rfl)
    (pss_cons (ps_fld (pv 0) (pe_lst pa_nil) rfl)
    (pss_one (ps_fld (pv 0) (pe_lst pa_nil) rfl))))), ?_⟩
    refine ⟨_, rfl, _, rfl, a, C, dx, _, rfl, ha, hC.cls, hC.no _ (by simp), by decide, ?_⟩
    have g1 : ∀ {o : HO}, upd H a o a = some o := upd_same
    refine ⟨_, rfl, a, C, dx, _, rfl, g1, hC.cls, hC.no _ (by simp), by show 1 < 1000; decide, ?_⟩
    rw [upd_upd]
    refine ⟨by show 0 ≤ sizeLine; decide, fun wl nw => ?_⟩
    have wa : wl ≠ a := fun e => by rw [e, g1] at nw; cases nw
    have nwH : H wl = none := by rw [← nw, upd_ne wa]
    refine ⟨_, rfl, a, C, dx, _, rfl, by rw [upd_ne (Ne.symm wa)]; exact g1, hC.cls, hC.no _ (by simp), by show 2 < 1000; decide, ?_⟩
    refine ⟨by show 0 ≤ sizeLine; decide, fun fl nf => ?_⟩
    have fa : fl ≠ a := fun e => by rw [e, upd_same] at nf; cases nf
    have fw : fl ≠ wl := fun e => by rw [e, upd_ne wa, upd_same] at nf; cases nf
    have nfH : H fl = none := by rw [← nf, upd_ne fa, upd_ne fw, upd_ne fa]
    refine ⟨_, rfl, a, C, dx, _, rfl, by rw [upd_ne (Ne.symm fa)]; exact upd_same, hC.cls, hC.no _ (by simp), by show 3 < 1000; decide, ?_⟩
    refine k wl fl _ nwH nfH (Ne.symm fw) ?_ ?_ ?_ (fun b u n z => ?_)
    · rw [upd_same]
      rfl
    · rw [upd_ne wa, upd_ne (Ne.symm fw), upd_ne wa, upd_same]
    · rw [upd_ne fa, upd_same]
    · rw [upd_ne n, upd_ne (ne_of_none z nfH), upd_ne n, upd_ne (ne_of_none z nwH), upd_ne n]
      exact z
/-- Expression(parts) -/
def spEx (K : Fg) (C : Addr) : Sp := fun vs H Q _ => ∃ (a dx l : Addr) (rs : List V) (ps : List Part), vs = [.ref a, .ref l] ∧ H a = some (.ins C dx []) ∧ H l = some (.lst rs) ∧ PartsAt H rs ps ∧ ps.length ≤ 1000000 ∧
  ∀ H', (∀ b u, b ≠ a → H b = some u → H' b = some u) → ExAt K H' C a ps → Q .non H'
theorem ok_Expression {f C : Addr} {fd : FuncData} (F : Fun K "__init__" "Expression.__init__" s_Expression___init__ f fd) (T : Cst K mg) (hC : ExC K C) : FnOk P w K mg base CX0 1 f fd ["self", "parts"] (spEx K C) := by
  refine F.ok sc_Expression___init__ (fun vs H Q E h => ?_) (fun cdv A outer s H vs Q E hr h => ?_)
  · obtain ⟨a, dx, l, rs, P, rfl, _⟩ := h
    rfl
  · obtain ⟨a, dx, l, rs, P, rfl, ha, hl, hp, hn, k⟩ := h
    refine ⟨_, (pss_cons (ps_fld (pv 0) (pe_callTy call_tuple_of (by rfl) T.n_tuple (by decide +kernel) (pa_cons (pv 1) pa_nil)) rfl)
    (pss_one (ps_fld (pv 0) (pe_callTy call_tuple_of (by rfl) T.n_tuple (by decide +kernel) (pa_cons (pe_lc (own := [("sign", 2), ("_", 3)]) rfl sc_Expression___init__.nd (pi_list (pv 1)) (blkOk_by (own := [("sign", 2), ("_", 3)]) (N := ["self", "parts", "sign", "_"]) (sc := defScope s_Expression___init__) (by decide +kernel)) (fun _ _ _ _ _ => (pg_three (K := K) 2 3 3 rfl sc_Expression___init__.nd rfl rfl rfl rfl rfl rfl)) (fun _ _ _ _ _ => (pts_one (pt_cmpR op_ne (pv 2) pe_str (nomark _)))) (fun _ _ _ _ _ => (pv 2))) pa_nil)) rfl))), ?_⟩
    have la : l ≠ a := fun e => by rw [e, ha] at hl; cases hl
    refine ⟨_, rfl, l, _, rfl, .inl ⟨SqL.of hl, fun pp npp => ?_⟩⟩
    have ppa : pp ≠ a := fun e => by rw [e, ha] at npp; cases npp
    have s1 : Same H (upd H pp (.tup rs)) := same_upd npp
    have hpp : upd H pp (.tup rs) pp = some (.tup rs) := upd_same
    refine ⟨_, rfl, a, C, dx, _, rfl, s1 _ _ ha, hC.cls, hC.no _ (by simp), by decide, ?_⟩
    have keep1 : ∀ b u, b ≠ a → H b = some u → upd (upd H pp (.tup rs)) a (.ins C dx (putF "_parts" (.ref pp) [])) b = some u := fun b u n z => by
      rw [upd_ne n]
      exact s1 _ _ z
    have ga : upd (upd H pp (.tup rs)) a (.ins C dx (putF "_parts" (.ref pp) [])) a = some (.ins C dx [("_parts", .ref pp)]) := upd_same
    have gpp : upd (upd H pp (.tup rs)) a (.ins C dx (putF "_parts" (.ref pp) [])) pp = some (.tup rs) := by rw [upd_ne ppa]; exact hpp
    generalize upd (upd H pp (.tup rs)) a (.ins C dx (putF "_parts" (.ref pp) [])) = G1 at keep1 ga gpp
    have hp1 : PartsAt G1 rs P := hp.mov fun b z e => keep1 _ _ (fun q => by rw [q, ha] at e; cases e) e
    refine ⟨_, rfl, l, rfl, ⟨_, SqL.of (keep1 _ _ la hl)⟩, fun D nD => ?_⟩
    refine lc_fm (walk_list (xs := rs)) (fun j => P[j]?.bind fun p => if p.1 = "" then none else some (V.str p.1)) nD (by rw [hp.len]; exact hn) (fun _ s => SqL.of (s _ _ (keep1 _ _ la hl))) ?_ ?_
    · rintro i x G0 G NT NE hi sg ⟨rfl, hx⟩ w0 w1
      have hip : P[i]? = some (P[i]'(by rw [← hp.len]; exact hi)) := List.getElem?_eq_getElem _
      obtain ⟨y, e1, e2⟩ := hp1.at_ i _ hip
      generalize P[i]'(by rw [← hp.len]; exact hi) = p at hip e2
      rw [hx] at e1
      injection e1 with e1
      subst e1
      have hp2 := sg _ _ e2
      refine ⟨y, _, rfl, SqT.of hp2, rfl, _, _, rfl, _, _, rfl, _, _, rfl, rfl, rfl, _, rfl, rfl, _, rfl, ?_⟩
      by_cases hr0 : p.1 = ""
      · rw [decide_eq_true (congrArg V.str hr0)]
        exact iteF (w0 (by rw [hip]; exact if_pos hr0) _ (Same.refl _))
      · rw [decide_eq_false (show ¬ V.str p.1 = V.str "" from fun q => hr0 (by injection q))]
        exact iteT ⟨_, rfl, w1 _ _ (by rw [hip]; exact if_neg hr0) (Same.refl _)⟩
    · intro G2 s2 hD
      rw [signs_gath P hp.len] at hD
      refine ⟨D, _, rfl, .inl ⟨SqL.of hD, fun ps nps => ?_⟩⟩
      have s3 : Same G1 (upd G2 ps (.tup ((signsP P).map V.str))) := s2.trans (same_upd nps)
      refine ⟨_, rfl, a, C, dx, _, rfl, s3 _ _ ga, hC.cls, hC.no _ (by simp), by show 1 < 1000; decide, ?_⟩
      have psa : ps ≠ a := fun e => by rw [e, s2 _ _ ga] at nps; cases nps
      refine k _ (fun b u n z => ?_) ⟨dx, pp, ps, ?_, ⟨rs, SqT.of ?_, hp1.mov fun b z e => ?_⟩, SqT.of ?_⟩
      · rw [upd_ne n]
        exact s3 _ _ (keep1 _ _ n z)
      · rw [upd_same]
        rfl
      · rw [upd_ne ppa]
        exact s3 _ _ gpp
      · rw [upd_ne (fun q => by rw [q, ga] at e; cases e)]
        exact s3 _ _ e
      · rw [upd_ne psa, upd_same]
theorem mkE {G : Hp} {C l a dx : Addr} {rs : List V} {P : List Part} {R : VK} {E : XK} (hl : G l = some (.lst rs)) (hp : PartsAt G rs P) (hn : P.length ≤ 1000000) (na : G a = none) (ndx : G dx = none) (nad : dx ≠ a)
    (k : ∀ H', Same G H' → ExAt K H' C a P → R .non H') : spEx K C [.ref a, .ref l] (upd (upd G dx (.own a)) a (.ins C dx [])) R E := by
  obtain ⟨m1, m2⟩ := made (C := C) na ndx nad
  exact ⟨a, dx, l, rs, P, rfl, upd_same, m1 _ _ hl, hp.same m1, hn, fun H' kp ex => k H' (m2 H' kp) ex⟩
theorem parts_one {H : Hp} {p : Addr} {q : Part} (h : H p = some (.tup [.str q.1, .str q.2.1, .str q.2.2])) : PartsAt H [.ref p] [q] := by
  refine ⟨rfl, fun i r e => ?_⟩
  cases i with
  | zero => injection e with e; subst e; exact ⟨p, rfl, h⟩
  | succ i => simp at e
/-- Expression.leaf(label, name) -/
def spLeaf (K : Fg) (C : Addr) : Sp := fun vs H Q _ => ∃ (lab nm : Str), vs = [.str lab, .str nm] ∧ ∀ a H', Same H H' → H a = none → ExAt K H' C a [("", lab, nm)] → Q (.ref a) H'
theorem ok_leaf {f C : Addr} {fd : FuncData} (F : Fun K "leaf" "Expression.leaf" s_Expression_leaf f fd) (T : Cst K mg) (O_Expression : OkI P w K mg base 1 "Expression" C ["self", "parts"] (spEx K C)) : FnOk P w K mg base CX0 3 f fd ["label", "name"] (spLeaf K C) := by
  refine F.ok sc_Expression_leaf (fun vs H Q E h => ?_) (fun cdv A outer s H vs Q E hr h => ?_)
  · obtain ⟨lab, nm, rfl, _⟩ := h
    rfl
  · obtain ⟨lab, nm, rfl, k⟩ := h
    refine ⟨_, (pss_one (ps_ret (pe_makeO O_Expression (hr.mono (by decide)) (pa_cons (pe_lst (pa_cons (pe_tup (pa_cons pe_str (pa_cons (pv 0) (pa_cons (pv 1) pa_nil)))) pa_nil)) pa_nil)))), ?_⟩
    refine ⟨_, rfl, _, rfl, by show 3 ≤ sizeLine; decide, fun p np => ⟨by show 1 ≤ sizeLine; decide, fun l nl => fun a dx na ndx nad => ?_⟩⟩
    have s2 := (same_upd (o := .tup [.str "", .str lab, .str nm]) np).trans (same_upd (o := .lst [.ref p]) nl)
    exact mkE upd_same (parts_one (q := ("", lab, nm)) ((same_upd nl) _ _ upd_same)) (by show 1 ≤ 1000000; decide) na ndx nad fun H' s3 ex => ⟨rfl, k a H' (s2.trans s3) (s2.free na) ex⟩
/-- Expression.asked(name, word) -/
def spAsked (K : Fg) (C : Addr) : Sp := fun vs H Q _ => ∃ (nm req : Str), vs = [.str nm, .str req] ∧ ∀ a H', Same H H' → H a = none → ExAt K H' C a [(req, "", nm)] → Q (.ref a) H'
/-- the parts, as a list -/
def spParts (K : Fg) (C : Addr) : Sp := fun vs H Q _ => ∃ (a : Addr) (P : List Part), vs = [.ref a] ∧ ExAt K H C a P ∧ ∀ l rs H', Same H H' → H l = none → H' l = some (.lst rs) → PartsAt H' rs P → Q (.ref l) H'
theorem ok_parts {f C : Addr} {fd : FuncData} (F : Fun K "parts" "Expression.parts" s_Expression_parts f fd) (T : Cst K mg) (hC : ExC K C) : FnOk P w K mg base CX0 1 f fd ["self"] (spParts K C) := by
  refine F.ok sc_Expression_parts (fun vs H Q E h => ?_) (fun cdv A outer s H vs Q E hr h => ?_)
  · obtain ⟨a, P, rfl, _⟩ := h
    rfl
  · obtain ⟨a, P, rfl, ⟨dx, pp, ps, ha, ⟨⟨rs, h1, h2⟩, h3⟩⟩, k⟩ := h
    refine ⟨_, (pss_one (ps_ret (pe_callTy call_list_of (by rfl) T.n_list (by decide +kernel) (pa_cons (pe_fld (pv 0) rfl) pa_nil)))), ?_⟩
    exact ⟨_, rfl, a, C, dx, _, _, rfl, ha, hC.cls, hC.no _ (by simp), ex_parts, pp, _, rfl, .inr h1, fun l nl => k l rs _ (same_upd nl) nl upd_same (h2.same (same_upd nl))⟩
/-- the signs, as a list -/
def spSigns (K : Fg) (C : Addr) : Sp := fun vs H Q _ => ∃ (a : Addr) (P : List Part), vs = [.ref a] ∧ ExAt K H C a P ∧ ∀ l H', Same H H' → H l = none → H' l = some (.lst ((signsP P).map V.str)) → Q (.ref l) H'
/-- how many signs -/
def spLenE (K : Fg) (C : Addr) : Sp := fun vs H Q _ => ∃ (a : Addr) (P : List Part), vs = [.ref a] ∧ ExAt K H C a P ∧ Q (.int ((signsP P).length : Nat)) H
theorem ok_len {f C : Addr} {fd : FuncData} (F : Fun K "__len__" "Expression.__len__" s_Expression___len__ f fd) (T : Cst K mg) (hC : ExC K C) : FnOk P w K mg base CX0 1 f fd ["self"] (spLenE K C) := by
  refine F.ok sc_Expression___len__ (fun vs H Q E h => ?_) (fun cdv A outer s H vs Q E hr h => ?_)
  · obtain ⟨a, P, rfl, _⟩ := h
    rfl
  · obtain ⟨a, P, rfl, ⟨dx, pp, ps, ha, R⟩, k⟩ := h
    refine ⟨_, (pss_one (ps_ret (pe_callB call_len_seq (by rfl) T.n_len (by decide +kernel) (pa_cons (pe_fld (pv 0) rfl) pa_nil)))), ?_⟩
    refine ⟨_, rfl, a, C, dx, _, _, rfl, ha, hC.cls, hC.no _ (by simp), ex_signs, ps, _, rfl, .inr R.signs, ?_⟩
    rw [List.length_map]
    exact k
end
end K36

namespace K36
open PySem PySem.Spec PyProof.Rows L2 EV TL LM PM
/-- an error in the air, with this value -/
def RaisedV (C : Addr) (f : Str) (v : V) (H : Hp) (E : XK) : Prop := ∀ d H', Same H H' → H' d = some (.xd [(f, v)]) → E (.ref C) (some d) H'
theorem RaisedV.mono {C : Addr} {f : Str} {v : V} {H H1 : Hp} {E : XK} (x : RaisedV C f v H E) (s : Same H H1) : RaisedV C f v H1 E := fun d H' s' => x d H' (s.trans s')
theorem raise_v {C : Addr} {f : Str} {v : V} {H : Hp} {E : XK} (ke : RaisedV C f v H E) : ([v] : List V).length ≤ 1000 ∧ ∀ e, H e = none → spErr1 C f (.ref e :: ([v] ++ [])) (upd H e (exo e C none))
    (fun v H2 => v = .non ∧ ∃ (d : Addr) (fs : List (Str × V)), H2 e = some (exo e C (some d)) ∧ H2 d = some (exd d fs) ∧ H d = none ∧ E (.ref C) (some d) (upd (del H2 e) d (.xd fs))) (fun _ _ _ => False) := by
  refine ⟨by show 1 ≤ 1000; decide, fun e ne => ⟨H, e, _, rfl, rfl, ne, fun H' d s9 nd ha hd => ⟨rfl, d, _, ha, hd, nd, ke d _ (same_raise s9 ne nd) upd_same⟩⟩⟩
theorem kit_self {K : Fg} {C : Addr} : PySem.W.kitOne K (.ref C) (.ref C) = some true := by
  unfold PySem.W.kitOne
  rw [if_pos (beq_self_eq_true _)]
structure IsiL (K : Fg) (C : Addr) : Prop where
  ca : PySem.W.findIn K (.ref C) "__class__" = some (some (.builtin "object.__class__"))
  cn : PySem.W.specialIn K (.builtin "object.__class__") "__get__" = some (some (.builtin "getset_descriptor.__get__"))
  ct : PySem.W.takesIn K (.builtin "object.__class__") = some true
  cm : PySem.W.mroIn K C (.type "object") = some true
theorem IsiL.tyx {K : Fg} {C a dx : Addr} {H : Hp} {fs : List (Str × V)} (i : IsiL K C) (c : Cls K C) (e : H a = some (.ins C dx fs)) : TyX K H (.ref a) (.ref C) := .base (.ins e c i.ca i.cn i.ct i.cm)
theorem kit_not {K : Fg} {C : Addr} (hd : PySem.W.hasDictIn K C = true) (ty : PySem.W.typeIn K (.ref C) = some (.type "type")) {T : String} (h : T ∈ plainTys) : PySem.W.kitOne K (.type T) (.ref C) = some false := by
  unfold PySem.W.kitOne PySem.W.kitCls
  rw [if_neg (by simp)]
  dsimp only
  obtain ⟨cd, hc, _⟩ := PySem.W.any_some hd
  rw [hc, ty]
  show (if (true && (some (Value.type "type") == some (Value.type "type"))) = true then PySem.W.subIn K (.type T) (.ref C) else none) = some false
  rw [if_pos (by decide +kernel)]
  exact plain_sub T h
/-! ### parts as data -/
def partD (p : Part) : PyData := .tuple [.str p.1, .str p.2.1, .str p.2.2]
def partsD (P : List Part) : PyData := .tuple (P.map partD)
def OkP (P : List Part) : Prop := ∀ p ∈ P, PyData.strOk p.1 = true ∧ PyData.strOk p.2.1 = true ∧ PyData.strOk p.2.2 = true
theorem dp_list {K : Fg} {H : Hp} : ∀ {P : List Part} {rs : List V}, PartsAt H rs P → DpAll K H rs (P.map partD)
  | [], [], _ => .nil
  | [], _ :: _, h => by cases h.len
  | _ :: _, [], h => by cases h.len
  | p :: P, r :: rs, h => by
    obtain ⟨x, e, hx⟩ := h.at_ 0 p rfl
    injection e with e
    subst e
    refine .cons (.tup (SqT.of hx) (.cons (.str _) (.cons (.str _) (.cons (.str _) .nil)))) (dp_list ⟨by have := h.len; simpa using this, fun i q hq => ?_⟩)
    exact h.at_ (i + 1) q hq
theorem dp_ex {K : Fg} {H : Hp} {pp ps : Addr} {P : List Part} (R : ExR K H pp ps P) : Dp K H (.ref pp) (partsD P) := by
  obtain ⟨rs, h1, h2⟩ := R.parts
  exact .tup h1 (dp_list h2)
theorem lay_parts : ∀ {P : List Part}, OkP P → PyData.canLayAll0 (P.map partD) = true ∧ PyData.depthAll (P.map partD) ≤ 2
  | [], _ => ⟨rfl, by decide⟩
  | p :: P, h => by
    obtain ⟨i1, i2⟩ := lay_parts (P := P) fun q hq => h q (List.mem_cons_of_mem _ hq)
    obtain ⟨a, b, c⟩ := h p List.mem_cons_self
    constructor
    · show ((PyData.strOk p.1 && (PyData.strOk p.2.1 && (PyData.strOk p.2.2 && true))) && PyData.canLayAll0 (P.map partD)) = true
      rw [a, b, c, i1]
      rfl
    · rw [List.map_cons, PyData.depthAll]
      refine Nat.max_le.mpr ⟨?_, i2⟩
      simp [partD, PyData.depth, PyData.depthAll]
theorem parts_shaped {P : List Part} (h : OkP P) : SeqAt.shaped (partsD P) = true := by
  obtain ⟨h1, h2⟩ := lay_parts h
  unfold SeqAt.shaped
  rw [show PyData.canLay0 (partsD P) = true from h1, Bool.true_and]
  refine decide_eq_true ?_
  simp only [partsD, PyData.depth]
  omega
theorem eqv_parts : ∀ (P P' : List Part), PyData.eqvAll (P.map partD) (P'.map partD) = decide (P = P')
  | [], [] => rfl
  | [], _ :: _ => rfl
  | _ :: _, [] => rfl
  | p :: P, q :: P' => by
    obtain ⟨a, b, c⟩ := p
    obtain ⟨a', b', c'⟩ := q
    show (((a == a') && ((b == b') && ((c == c') && true))) && PyData.eqvAll (P.map partD) (P'.map partD)) = _
    rw [eqv_parts P P', Bool.eq_iff_iff]
    simp only [Bool.and_eq_true, beq_iff_eq, decide_eq_true_eq, and_true, List.cons.injEq, Prod.mk.injEq]
section
variable {P : Program} {w : World} {K : Fg} {mg : Str → Option Value} {base : Heap}
theorem ok_TooMany {f C : Addr} {fd : FuncData} (F : Fun K "__init__" "TooMany.__init__" s_TooMany___init__ f fd) (x : XCls K C) (n : NoAttr K C "what") : FnOk P w K mg base CX0 1 f fd ["self", "what"] (spErr1 C "what") := by
  refine F.ok sc_TooMany___init__ (fun vs H Q E h => ?_) (fun cdv A outer s H vs Q E hr h => ?_)
  · obtain ⟨H0, a, y, rfl, _⟩ := h
    rfl
  · obtain ⟨H0, a, y, rfl, rfl, na, k⟩ := h
    refine ⟨_, pss_one (ps_put1 (pv 0) (pv 1)), ⟨_, rfl, _, rfl, a, C, rfl, x, n, upd_same, fun dx nd ne => ?_⟩⟩
    rw [upd_ne ne] at nd
    refine k _ dx (fun b o z => ?_) nd upd_same ?_
    · rw [upd_ne (ne_of_none z na), upd_ne (ne_of_none z nd), upd_ne (ne_of_none z na)]
      exact z
    · rw [upd_ne ne]
      exact upd_same
/-- an expression of these parts, if there are not too many steps -/
def Making (K : Fg) (C CT : Addr) (ps : List Part) (H : Hp) (Q : VK) (E : XK) : Prop := (100 < (signsP ps).length → RaisedV CT "what" (.str "steps") H E) ∧ ((signsP ps).length ≤ 100 → ∀ a H', Same H H' → H a = none → ExAt K H' C a ps → Q (.ref a) H')
theorem Making.mono {K : Fg} {C CT : Addr} {ps : List Part} {H H1 : Hp} {Q : VK} {E : XK} (m : Making K C CT ps H Q E) (s : Same H H1) : Making K C CT ps H1 Q E := ⟨fun h => (m.1 h).mono s, fun h a H' s' n => m.2 h a H' (s.trans s') (s.free n)⟩
def spChecked (K : Fg) (C CT : Addr) : Sp := fun vs H Q E => ∃ (l : Addr) (rs : List V) (ps : List Part), vs = [.ref l] ∧ H l = some (.lst rs) ∧ PartsAt H rs ps ∧ ps.length ≤ 1000000 ∧ Making K C CT ps H Q E
theorem ok_checked {f C CT : Addr} {fd : FuncData} (F : Fun K "_checked" "_checked" s_checked f fd) (T : Cst K mg) (O_TooMany : OkC P w K mg base 1 "TooMany" CT ["self", "what"] (spErr1 CT "what")) (ty_TooMany : PySem.W.typeIn K (.ref CT) = some (.type "type")) (O_Expression : OkI P w K mg base 1 "Expression" C ["self", "parts"] (spEx K C)) :
    FnOk P w K mg base (L2.CX P w) 3 f fd ["parts"] (spChecked K C CT) := by
  refine F.okX sc_checked (fun vs H Q E h => ?_) (fun cdv A outer s H vs Q E hr h => ?_)
  · obtain ⟨l, rs, ps, rfl, _⟩ := h
    rfl
  · obtain ⟨l, rs, ps, rfl, hl, hp, hn, m1, m2⟩ := h
    refine ⟨_, (pss_cons (ps_if (pt_cmpR op_gt (pe_callB call_len_seq (by rfl) T.n_len (by decide +kernel) (pa_cons (pe_lc (own := [("sign", 1), ("_", 2)]) rfl sc_checked.nd (pi_list (pv 0)) (blkOk_by (own := [("sign", 1), ("_", 2)]) (N := ["parts", "sign", "_"]) (sc := defScope s_checked) (by decide +kernel)) (fun _ _ _ _ _ => (pg_three (K := K) 1 2 2 rfl sc_checked.nd rfl rfl rfl rfl rfl rfl)) (fun _ _ _ _ _ => (pts_one (pt_cmpR op_ne (pv 1) pe_str (nomark _)))) (fun _ _ _ _ _ => (pv 1))) pa_nil)) (pe_gv T.g_MOST_STEPS) (nomark _)) (pss_one (ps_raise rfl (takes_of rfl rfl rfl rfl) (pmk_x O_TooMany ty_TooMany (hr.mono (by decide)) (pa_cons pe_str pa_nil)))) pss_nil)
    (pss_one (ps_ret (pe_makeO O_Expression (hr.mono (by decide)) (pa_cons (pv 0) pa_nil))))), ?_⟩
    refine ⟨_, rfl, l, rfl, ⟨_, SqL.of hl⟩, fun D nD => ?_⟩
    refine lc_fm (walk_list (xs := rs)) (fun j => ps[j]?.bind fun p => if p.1 = "" then none else some (V.str p.1)) nD (by rw [hp.len]; exact hn) (fun _ s => SqL.of (s _ _ hl)) ?_ ?_
    · rintro i x G0 G NT NE hi sg ⟨rfl, hx⟩ w0 w1
      have hip : ps[i]? = some (ps[i]'(by rw [← hp.len]; exact hi)) := List.getElem?_eq_getElem _
      obtain ⟨y, e1, e2⟩ := hp.at_ i _ hip
      generalize ps[i]'(by rw [← hp.len]; exact hi) = p at hip e2
      rw [hx] at e1
      injection e1 with e1
      subst e1
      have hp2 := sg _ _ e2
      refine ⟨y, _, rfl, SqT.of hp2, rfl, _, _, rfl, _, _, rfl, _, _, rfl, rfl, rfl, _, rfl, rfl, _, rfl, ?_⟩
      by_cases hr0 : p.1 = ""
      · rw [decide_eq_true (congrArg V.str hr0)]
        exact iteF (w0 (by rw [hip]; exact if_pos hr0) _ (Same.refl _))
      · rw [decide_eq_false (show ¬ V.str p.1 = V.str "" from fun q => hr0 (by injection q))]
        exact iteT ⟨_, rfl, w1 _ _ (by rw [hip]; exact if_neg hr0) (Same.refl _)⟩
    · intro G2 s2 hD
      rw [signs_gath ps hp.len] at hD
      refine ⟨D, _, rfl, .inl (SqL.of hD), _, _, rfl, rfl, _, rfl, ?_⟩
      rw [List.length_map]
      by_cases e : 100 < (signsP ps).length
      · rw [decide_eq_true (show (100 : Int) < (((signsP ps).length : Nat) : Int) by omega)]
        exact iteT (raise_v ((m1 e).mono s2))
      · rw [decide_eq_false (show ¬ ((100 : Int) < (((signsP ps).length : Nat) : Int)) by omega)]
        exact iteF ⟨_, rfl, fun a dx na ndx nad => mkE (s2 _ _ hl) (hp.same s2) hn na ndx nad fun H' s3 ex => ⟨rfl, m2 (by omega) a H' (s2.trans s3) (s2.free na) ex⟩⟩
/-- Expression.read(text) -/
def spRead (K : Fg) (C CB CT : Addr) : Sp := fun vs H Q E => ∃ (c y : V), vs = [c, y] ∧ ((∃ t : Str, y = .str t ∧ t.length ≤ 1000000 ∧ (∀ k, parseM t = .error k → RaisedV CB "at" (.int (k : Nat)) H E) ∧ (∀ ps, parseM t = .ok ps → Making K C CT ps H Q E)) ∨
  (∃ t : String, TyX K H y (.type t) ∧ PySem.W.kitOne K (.type t) (.type "str") = some false ∧ RaisedV CB "at" (.int (-1)) H E))
theorem ok_read {f C CB CT CP : Addr} {fd : FuncData} (F : Fun K "read" "Expression.read" s_Expression_read f fd) (T : Cst K mg) (hP : PhC K CP) (O_Phrase : OkI P w K mg base 1 "Phrase" CP ["self", "text"] (spPhrase CP)) (O_BadExpression : OkC P w K mg base 1 "BadExpression" CB ["self", "at"] (spErr1 CB "at")) (ty_BadExpression : PySem.W.typeIn K (.ref CB) = some (.type "type"))
    (O_take_all : OkM (L2.CX P w) P w K mg base 7 CP "take_all" ["self"] (spAll CP CB)) (O_checked : OkX P w K mg base 3 "_checked" ["parts"] (spChecked K C CT)) : FnOk P w K mg base (L2.CX P w) 8 f fd ["cls", "text"] (spRead K C CB CT) := by
  refine F.okX sc_Expression_read (fun vs H Q E h => ?_) (fun cdv A outer s H vs Q E hr h => ?_)
  · obtain ⟨c, y, rfl, _⟩ := h
    rfl
  · obtain ⟨c, y, rfl, h⟩ := h
    refine ⟨_, (pss_cons (ps_if (pt_not (pt_val (pe_callB call_isi (by rfl) T.n_isinstance (by decide +kernel) (pa_cons (pv 1) (pa_cons (pe_bltn (v := .ty "str") rfl T.n_str (by decide +kernel) rfl) pa_nil))))) (pss_one (ps_raise rfl (takes_of rfl rfl rfl rfl) (pmk_x O_BadExpression ty_BadExpression (hr.mono (by decide)) (pa_cons (pe_un un_neg pe_int) pa_nil)))) pss_nil)
    (pss_one (ps_ret (pe_callX (takes_of rfl rfl rfl rfl) O_checked (hr.mono (by decide)) (pa_cons (pe_methX0 (takes_of rfl rfl rfl rfl) (pe_makeO O_Phrase (hr.mono (by decide)) (pa_cons (pv 1) pa_nil)) hP.cls O_take_all (hr.mono (by decide))) pa_nil))))), ?_⟩
    rcases h with ⟨t, rfl, hl, k1, k2⟩ | ⟨t, hy, kt, k⟩
    · refine ⟨_, rfl, _, _, _, _, true, rfl, .ty "str", .base (.str t), kit_ty (by decide +kernel), _, rfl, iteF ?_⟩
      refine ⟨_, rfl, fun a dx na ndx nad => ?_⟩
      obtain ⟨m1, m3⟩ := made (C := CP) na ndx nad
      refine ⟨a, dx, t, rfl, upd_same, fun wl fl H' nw nf wf ga gw gf kp => ⟨rfl, ?_⟩⟩
      have sH : Same H H' := m3 H' kp
      have nfH : H fl = none := m1.free nf
      have nwH : H wl = none := m1.free nw
      have lift : ∀ {G}, KeepP a wl fl H' G → Same H G := fun kk b u z => kk b u (ne_of_none z na) (ne_of_none z nwH) (ne_of_none z nfH) (sH b u z)
      refine ⟨a, dx, _, rfl, ga, ph_no (by decide +kernel), a, dx, wl, fl, t, rfl, ⟨ga, gw, ⟨[], gf, rfl, fun i p e => by simp at e⟩, wf⟩, hl, fun k h d G kk hd => k1 k h d G (lift kk) hd, fun ps h ln l G rs kk nl hlG hps => ?_⟩
      have s2 := lift kk
      exact ⟨l, rs, ps, rfl, hlG, hps, by omega, (k2 ps h).mono s2⟩
    · refine ⟨_, rfl, _, _, _, _, false, rfl, .ty "str", hy, kt, _, rfl, iteT ⟨_, rfl, raise_v k⟩⟩
/-- == with an expression, or with a value of a plain kind -/
def spEqE (K : Fg) (C : Addr) : Sp := fun vs H Q _ => ∃ (a : Addr) (y : V) (ps : List Part), vs = [.ref a, y] ∧ ExAt K H C a ps ∧ OkP ps ∧ ((∃ b qs, y = .ref b ∧ ExAt K H C b qs ∧ OkP qs ∧ Q (.bl (decide (ps = qs))) H) ∨ (∃ T, T ∈ plainTys ∧ TyX K H y (.type T) ∧ Q (.bl false) H))
theorem ok_eq {f C : Addr} {fd : FuncData} (F : Fun K "__eq__" "Expression.__eq__" s_Expression___eq__ f fd) (T : Cst K mg) (hC : ExC K C) (iL : IsiL K C) (hd : PySem.W.hasDictIn K C = true) (ty : PySem.W.typeIn K (.ref C) = some (.type "type")) (gL : mg "Expression" = some (.ref C)) :
    FnOk P w K mg base CX0 1 f fd ["self", "other"] (spEqE K C) := by
  refine F.ok sc_Expression___eq__ (fun vs H Q E h => ?_) (fun cdv A outer s H vs Q E hr h => ?_)
  · obtain ⟨a, y, ps, rfl, _⟩ := h
    rfl
  · obtain ⟨a, y, ps, rfl, ⟨dx, pp, pss, ha, R⟩, o1, h⟩ := h
    refine ⟨_, (pss_one (ps_ret (pe_and (pe_callB call_isi (by rfl) T.n_isinstance (by decide +kernel) (pa_cons (pv 1) (pa_cons (pe_glob (v := .ref C) rfl gL rfl) pa_nil))) (pe_one (pe_cmpR (op_eqD hr.units) (pe_fld (pv 0) rfl) (pe_fld (pv 1) rfl) (nomark _)))))), ?_⟩
    rcases h with ⟨b, qs, rfl, ⟨dy, pp', pss', hb, R'⟩, o2, k⟩ | ⟨T', hT, hy, k⟩
    · refine ⟨_, rfl, _, _, _, _, true, rfl, .own C, iL.tyx hC.cls hb, kit_self, _, rfl, iteT ⟨_, rfl, a, C, dx, _, _, rfl, ha, hC.cls, hC.no _ (by simp), ex_parts, _, rfl, b, C, dy, _, _, rfl, hb, hC.cls, hC.no _ (by simp), ex_parts, _, _, dp_ex R, dp_ex R', parts_shaped o1, parts_shaped o2, ?_⟩⟩
      show Q (.bl (PyData.eqvAll (ps.map partD) (qs.map partD))) H
      rw [eqv_parts]
      exact k
    · exact ⟨_, rfl, _, _, _, _, false, rfl, .own C, hy, kit_not hd ty hT, _, rfl, iteF k⟩
end
end K36

/-! C(..), cls(..) and C.m(..) that may raise; classmethods with *args -/
namespace EV
open PySem PySem.Spec PyProof.Rows L2
/-- the class at C, made by an __init__ that may raise -/
structure OkIX (P : Program) (w : World) (K : Fg) (mg : Str → Option Value) (base : Heap) (k : Nat) (x : Str) (C : Addr) (ps : List Str) (sp : Sp) : Prop where
  nm : mg x = some (.ref C)
  ex : ∃ (f : Addr) (fd : FuncData), FnOk P w K mg base (L2.CX P w) k f fd ps sp ∧ Mk K C f ∧ Binds K fd ps []
/-- a classmethod told by its positional promise -/
structure OkCS (cx : CXT) (P : Program) (w : World) (K : Fg) (mg : Str → Option Value) (base : Heap) (k : Nat) (C : Addr) (m : Str) (sp : Sp) : Prop where
  ex : ∃ (p g : Addr) (mc : Value), FnR P w K mg base cx k g sp ∧ ClX.CRead K C mc ∧ ClX.CMet K C mc m p g
def tMakeS (C : Addr) (sp : Sp) (W : WX) (t : TA) : TE := fun σ H Q => t σ H fun vs H1 => ∀ a dx, H1 a = none → H1 dx = none → dx ≠ a →
  sp (.ref a :: vs) (upd (upd H1 dx (.own a)) a (.ins C dx [])) (fun v H2 => v = .non ∧ Q (.ref a) H2) (WE W σ)
def tMakeVS (C : Addr) (sp : Sp) (W : WX) (tf : TE) (t : TA) : TE := fun σ H Q => tf σ H fun c H1 => c = .ref C ∧ tMakeS C sp W t σ H1 Q
section
variable {X : Cx} {e o : Expr} {es : List Expr} {t : TA} {ta : TE} {x y m : Str} {p pos apos : Pos} {k : Nat} {ps : List Str} {sp : Sp} {C : Addr} {W : WX} {pins : List (Addr × Obj)} {σ : L2.St} {H : Hp} {s : Shared} {Q : VK} {us : List Value} {vs : List V}
/-- how a callee's end is told where it was called -/
def RetOk (X : Cx) (pins : List (Addr × Obj)) (σ : L2.St) (Q : VK) : Result → Shared → Prop
  | .ok (.ret v), s' => EP X pins σ Q v s'
  | .ok _, _ => False
  | .error e, s' => X.xe e s'
theorem ret_of {cx : CXT} {E : XK} {r : Result} {s' : Shared} (I : Inv X pins σ H s) (hx : ∀ e, cx X.stack H s E e s' → X.xe e s') (hq : CR cx X.stack X.prog X.w H s Q E r s') : RetOk X pins σ Q r s' := by
  rcases r with er | fl
  · exact hx er hq
  · cases fl with
    | ret u => exact I.after hq
    | next => exact hq
    | brk => exact hq
    | cont => exact hq
theorem run_mkX (tk : Takes X W) (O : OkIX X.prog X.w X.K X.mg X.base k y C ps sp) (hr : Room (k + 1) X.A) (I : Inv X pins σ H s) (r : Vals vs us)
    (h : ∀ a dx, H a = none → H dx = none → dx ≠ a → sp (.ref a :: vs) (upd (upd H dx (.own a)) a (.ins C dx [])) (fun v H2 => v = .non ∧ Q (.ref a) H2) (WE W σ)) :
    wpAny (model X.prog X.w) X.A (call (.ref C) us) (EP X pins σ Q) X.xe s := by
  obtain ⟨f, fd, F, M, hb⟩ := O.ex
  let a := s.heap.objs.size + 1
  have I2 := Inv.made (C := C) I
  have want := h a s.heap.objs.size (I.hok.fresh (Nat.le_succ _)) (I.hok.fresh (Nat.le_refl _)) (Nat.ne_of_lt (Nat.lt_succ_self _))
  have rs : Vals (V.ref a :: vs) (Value.ref a :: us) := .cons rfl r
  have bb := hb _ (Value.ref a :: us) I2.kIn (by rw [List.append_nil, ← rs.length]; exact F.len _ _ _ _ want)
  rw [List.append_nil] at bb
  have go := F.run _ X.stack _ _ ⟨Value.ref a :: us, []⟩ _ _ _ _ (hr.make C us []) (I2.env0.make C us []) bb rs want
  refine wpAny_call (make_map (f := f) I.kIn M.makes M.init (beq_iff_eq.mp M.fn) (codeAny_mono go fun z s' hq => ?_))
  have hh := ret_of I2 (fun er hq => passAt tk σ _ _ _ _ _ I2 hq) hq
  rcases z with er | fl
  · exact hh
  · cases fl with
    | ret u =>
      obtain ⟨v, H3, I3, rv, ev, q3⟩ := hh
      subst ev
      exact ⟨rv, .ref a, H3, I3, rfl, q3⟩
    | next => exact hh.elim
    | brk => exact hh.elim
    | cont => exact hh.elim
/-- C(e, ..) -/
theorem pe_mkX (tk : Takes X W) (O : OkIX X.prog X.w X.K X.mg X.base k x C ps sp) (hr : Room (k + 1) X.A) (ha : PA X (e :: es) t) (hg : Gl X x := by rfl)
    (hdb : (x == ("__debug__" : Str)) = false := by decide) (he : starEach (e :: es) X.env = (false, eval e X.env) :: starEach es X.env := by rfl)
    (hpl : (backTo pos (starEach es X.env)).any (·.1) = false := by rfl) : PE X (.Call (.Name x p) (e :: es) [] pos) (tMakeS C sp W t) := by
  obtain ⟨f, fd, F, M, b⟩ := id O.ex
  constructor
  intro pins s σ H Q I want
  refine wpAny_Call_Name_kw (ld_glob I hg O.nm ?_ hdb)
  refine PySem.W.callWith_K (h₀ := X.base) I.ok.mod.kin M.kp (thn (ha.run pos pins s σ H _ I want) ?_) he hpl
  rintro us s1 ⟨vs, H1, I1, r, q⟩
  exact ⟨I1.kIn, run_mkX tk O hr I1 r q⟩
/-- cls(e, ..) -/
theorem pe_mkVX (tk : Takes X W) (O : OkIX X.prog X.w X.K X.mg X.base k y C ps sp) (hr : Room (k + 1) X.A) (hf : PE X (.Name x p) ta) (ha : PA X (e :: es) t)
    (he : starEach (e :: es) X.env = (false, eval e X.env) :: starEach es X.env := by rfl)
    (hpl : (backTo pos (starEach es X.env)).any (·.1) = false := by rfl) : PE X (.Call (.Name x p) (e :: es) [] pos) (tMakeVS C sp W ta t) := by
  obtain ⟨f, fd, F, M, b⟩ := id O.ex
  constructor
  intro pins s σ H Q I want
  refine wpAny_Call_Name_kw (thn (hf.run pins s σ H _ I want) ?_)
  rintro u s1 ⟨c, H1, I1, rc, ec, q1⟩
  subst ec
  cases (show u = Value.ref C from rc)
  refine PySem.W.callWith_K (h₀ := X.base) I.ok.mod.kin M.kp (thn (ha.run pos pins s1 σ H1 _ I1 q1) ?_) he hpl
  rintro us s2 ⟨vs, H2, I2, r, q⟩
  exact ⟨I2.kIn, run_mkX tk O hr I2 r q⟩
/-- C.m(e, ..), m a classmethod with *args -/
def tCmS (C : Addr) (sp : Sp) (E : L2.St → XK) (ta : TE) (t : TA) : TE := fun σ H Q => ta σ H fun x H1 => x = .ref C ∧ t σ H1 fun vs H2 => sp (.ref C :: vs) H2 Q (E σ)
theorem run_cmS {cx : CXT} {E : XK} {q g : Addr} (F : FnR X.prog X.w X.K X.mg X.base cx k g sp) (hr : Room k X.A) (hx : PassesAt cx X σ E) (I : Inv X ((q, PySem.W.methodObj (.ref g) (.ref C)) :: pins) σ H s)
    (r : Vals vs us) (h : sp (.ref C :: vs) H Q E) : wpAny (model X.prog X.w) X.A (call (.ref q) us) (EP X pins σ Q) X.xe s := by
  have z : wpAny (model X.prog X.w) X.A (call (.ref q) us) (EP X ((q, PySem.W.methodObj (.ref g) (.ref C)) :: pins) σ Q) X.xe s := by
    refine wpAny_call (PySem.W.method_call (ClX.pin_at I) (codeAny_mono (F X.A X.stack s H (.ref C :: us) (.ref C :: vs) Q E hr I.env0 (.cons rfl r) h) fun z s' hq => ?_))
    have hh := ret_of I (fun er hq => hx _ _ _ _ _ I hq) hq
    rcases z with er | fl
    · exact hh
    · cases fl with
      | ret u => exact hh
      | next => exact hh
      | brk => exact hh
      | cont => exact hh
  exact thn z fun _ _ y => ClX.unpinE y
theorem pe_cmS {cx : CXT} {E : L2.St → XK} {pl : Sem Bool} (hx : ∀ σ, PassesAt cx X σ (E σ)) (he : PE X o ta) (O : OkCS cx X.prog X.w X.K X.mg X.base k C m sp) (hr : Room k X.A) (ha : PA X (e :: es) t)
    (hst : starEach (e :: es) X.env = (false, eval e X.env) :: starEach es X.env := by rfl) (hpl : (backTo pos (starEach es X.env)).any (·.1) = false := by rfl)
    (ht : eval (.Call (.Attribute o m apos) (e :: es) [] pos) X.env = (do
      let ov ← eval o X.env
      standAt apos.atName
      let (f, first) ← holding [ov] (getMethod ov m pl)
      callWith pos f first (backTo pos (starEach (e :: es) X.env)) (backToKw pos (keywordEach [] X.env))) := by rfl) :
    PE X (.Call (.Attribute o m apos) (e :: es) [] pos) (tCmS C sp E ta t) := by
  obtain ⟨p, g, mc, F, r, c⟩ := O.ex
  constructor
  intro pins s σ H Q I want
  refine PySem.W.methodCall_KW (pl := pl) (thn (he.run pins s σ H _ I want) ?_) ht
  rintro u s1 ⟨x, H1, I1, rx, ex, w1⟩
  subst ex
  cases (show u = Value.ref C from rx)
  refine ClX.getmethcm_ok I1 r c fun s2 I2 => ClX.callwith_cm I2 (ClX.base_none I1 (Nat.le_refl _)) c.fi (thn (ha.run pos _ s2 σ H1 _ I2 w1) ?_) hst hpl
  rintro us s3 ⟨vs, H2, I3, rv, w2⟩
  exact ⟨⟨ClX.pin_at I3, I3.kIn⟩, run_cmS F hr (hx σ) I3 rv w2⟩
/-- C.m() -/
theorem pe_cmS0 {cx : CXT} {E : L2.St → XK} {pl : Sem Bool} (hx : ∀ σ, PassesAt cx X σ (E σ)) (he : PE X o ta) (O : OkCS cx X.prog X.w X.K X.mg X.base k C m sp) (hr : Room k X.A)
    (ht : eval (.Call (.Attribute o m apos) [] [] pos) X.env = (do
      let ov ← eval o X.env
      standAt apos.atName
      let (f, first) ← holding [ov] (getMethod ov m pl)
      callWith pos f first (backTo pos (starEach [] X.env)) (backToKw pos (keywordEach [] X.env))) := by rfl) :
    PE X (.Call (.Attribute o m apos) [] [] pos) (tCmS C sp E ta tNil) := by
  obtain ⟨p, g, mc, F, r, c⟩ := O.ex
  constructor
  intro pins s σ H Q I want
  refine PySem.W.methodCall_KW (pl := pl) (thn (he.run pins s σ H _ I want) ?_) ht
  rintro u s1 ⟨x, H1, I1, rx, ex, w1⟩
  subst ex
  cases (show u = Value.ref C from rx)
  refine ClX.getmethcm_ok I1 r c fun s2 I2 => PySem.W.callWith_M0 ⟨ClX.pin_at I2, I2.kIn⟩ c.fi ?_
  exact run_cmS (vs := []) F hr (hx σ) I2 .nil w1
end
end EV

namespace K36
open PySem PySem.Spec PyProof.Rows L2 EV TL LM PM
/-- expressions, as operands -/
structure OpsAt (K : Fg) (H : Hp) (C : Addr) (xs : List Addr) (Ps : List (List Part)) : Prop where
  len : xs.length = Ps.length
  at_ : ∀ (i : Nat) (a : Addr) (ps : List Part), xs[i]? = some a → Ps[i]? = some ps → ExAt K H C a ps
theorem OpsAt.same {K : Fg} {H H' : Hp} {C : Addr} {xs : List Addr} {Ps : List (List Part)} (h : OpsAt K H C xs Ps) (s : Same H H') : OpsAt K H' C xs Ps := ⟨h.len, fun i a ps e1 e2 => (h.at_ i a ps e1 e2).same s⟩
theorem ops_one {K : Fg} {H : Hp} {C a : Addr} {p : List Part} (h : ExAt K H C a p) : OpsAt K H C [a] [p] := by
  refine ⟨rfl, fun i x ps e1 e2 => ?_⟩
  match i with
  | 0 => injection e1 with e1; injection e2 with e2; rw [← e1, ← e2]; exact h
  | i + 1 => simp at e1
theorem ops_two {K : Fg} {H : Hp} {C a b : Addr} {p q : List Part} (h : ExAt K H C a p) (g : ExAt K H C b q) : OpsAt K H C [a, b] [p, q] := by
  refine ⟨rfl, fun i x ps e1 e2 => ?_⟩
  match i with
  | 0 => injection e1 with e1; injection e2 with e2; rw [← e1, ← e2]; exact h
  | 1 => injection e1 with e1; injection e2 with e2; rw [← e1, ← e2]; exact g
  | i + 2 => simp at e1
theorem PartsAt.app {H : Hp} {rs rs' : List V} {ps ps' : List Part} (h : PartsAt H rs ps) (g : PartsAt H rs' ps') : PartsAt H (rs ++ rs') (ps ++ ps') := by
  refine ⟨by rw [List.length_append, List.length_append, h.len, g.len], fun i p e => ?_⟩
  rcases Nat.lt_or_ge i ps.length with z | z
  · rw [List.getElem?_append_left z] at e
    obtain ⟨x, h1, h2⟩ := h.at_ i p e
    exact ⟨x, by rw [List.getElem?_append_left (by rw [h.len]; exact z)]; exact h1, h2⟩
  · rw [List.getElem?_append_right z] at e
    obtain ⟨x, h1, h2⟩ := g.at_ _ p e
    exact ⟨x, by rw [List.getElem?_append_right (by rw [h.len]; exact z), h.len]; exact h1, h2⟩
theorem flat_take_le (Ps : List (List Part)) (i : Nat) : (Ps.take i).flatten.length ≤ Ps.flatten.length := by
  have h : Ps.flatten = (Ps.take i).flatten ++ (Ps.drop i).flatten := by rw [← List.flatten_append, List.take_append_drop]
  rw [h, List.length_append]
  omega
section
variable {P : Program} {w : World} {K : Fg} {mg : Str → Option Value} {base : Heap}
/-- operands and a sign -/
def spJoinB (K : Fg) (C CT : Addr) : Sp := fun vs H Q E => ∃ (sg : Str) (p : Addr) (xs : List Addr) (Ps : List (List Part)), vs = [.str sg, .ref p] ∧ H p = some (.tup (xs.map V.ref)) ∧ OpsAt K H C xs Ps ∧ Ps.flatten.length ≤ 100000 ∧ Making K C CT (Ps.flatten ++ [((sg, "", "") : Part)]) H Q E
def spJoin (K : Fg) (C CT : Addr) : Sp := fun vs H Q E => ∃ (sg : Str) (xs : List Addr) (Ps : List (List Part)), vs = .str sg :: xs.map V.ref ∧ xs.length ≤ 1000 ∧ OpsAt K H C xs Ps ∧ Ps.flatten.length ≤ 100000 ∧ Making K C CT (Ps.flatten ++ [((sg, "", "") : Part)]) H Q E
theorem ok_joined {f C CT : Addr} {oc kV doc pm cdv ct : Value} {an od : Option Addr} {osl : Array (Option Value)} (lk : K.lookup f = some ⟨oc, od, .func (PySem.W.fnOf "_joined" "_joined" (defArgs s_joined) (defBody s_joined) (defScope s_joined) .none kV doc pm an cdv ct), osl⟩) (hcd : PySem.W.codeIn K cdv "_joined" = true)
    (T : Cst K mg) (hC : ExC K C) (O_parts : OkM CX0 P w K mg base 1 C "parts" ["self"] (spParts K C)) (O_checked : OkX P w K mg base 3 "_checked" ["parts"] (spChecked K C CT)) : FnR P w K mg base (L2.CX P w) 5 f (spJoin K C CT) := by
  refine (StX.fn_star (ps := ["sign"]) (k := 4) (sp := spJoinB K C CT) lk hcd sc_joined StX.cxUp (StX.bind_star1 (B := fun xs => bindArgs (PySem.W.fnOf "_joined" "_joined" (defArgs s_joined) (defBody s_joined) (defScope s_joined) .none kV doc pm an cdv ct) ⟨xs, []⟩) (p1 := "sign") (pv := "operands") (fun _ => rfl) (fun _ _ _ => rfl)) (fun A outer s H vs Q E hr h => ?_)).imp (fun vs H Q E h => ?_)
  · obtain ⟨sg, p, xs, Ps, rfl, hp, ho, hn, m⟩ := h
    refine ⟨_, (pss_cons (ps_set (i := 2) sc_joined.nd rfl (Or.inl rfl) (pe_lst pa_nil))
    (pss_cons (ps_for (passes_of rfl) rfl (pi_tup (pv 1)) (pg_name (i := 3) sc_joined.nd rfl (Or.inl rfl)) (pss_one (ps_expr (pe_bm PySem.F.plainAttrs_list PySem.F.slot_list_extend PySem.F.type_list_extend mt_extend (pv 2) (pa_cons (pe_methO0 (pv 3) hC.cls O_parts (hr.mono (by decide))) pa_nil)))))
    (pss_one (ps_ret (pe_callX (takes_of rfl rfl rfl rfl) O_checked (hr.mono (by decide)) (pa_cons (pe_lst (StX.pa_star (pv 2) (pa_cons (pe_tup (pa_cons (pv 0) (pa_cons pe_str (pa_cons pe_str pa_nil)))) pa_nil))) pa_nil)))))), ?_⟩
    refine ⟨by show 0 ≤ sizeLine; decide, fun l nl => ?_⟩
    have lp : l ≠ p := fun e => by rw [e, hp] at nl; cases nl
    have hl0 : upd H l (.lst []) l = some (.lst []) := upd_same
    have s0 := same_upd (o := .lst []) nl
    generalize upd H l (.lst []) = G0 at hl0 s0
    refine ⟨_, rfl, p, rfl, ⟨_, SqT.of (s0 _ _ hp)⟩, for_it (walk_tup (xs := xs.map V.ref)) (fun i σ G => Same H G ∧ (∃ rs, G l = some (.lst rs) ∧ PartsAt G rs (Ps.take i).flatten) ∧ ∃ u : Option V, σ = [some (.str sg), some (.ref p), some (.ref l), u])
      ⟨s0, ⟨[], hl0, rfl, fun i q e => by simp at e⟩, _, rfl⟩ (fun i σ G _ q => SqT.of (q.1 _ _ hp)) ?_ ?_⟩
    · rintro i x σ G G' hi ⟨s1, ⟨rs, hl, hps⟩, u, rfl⟩ ⟨rfl, hx⟩
      rw [List.getElem?_map] at hx
      obtain ⟨a, hxa, rfl⟩ := Option.map_eq_some_iff.mp hx
      have hiP : i < Ps.length := by rw [← ho.len]; exact (List.getElem?_eq_some_iff.mp hxa).1
      have hPi : Ps[i]? = some Ps[i] := List.getElem?_eq_getElem hiP
      have ex := (ho.at_ i a _ hxa hPi).same s1
      have etake : (Ps.take (i + 1)).flatten = (Ps.take i).flatten ++ Ps[i] := by
        rw [List.take_succ, hPi, List.flatten_append]
        simp
      have le1 := flat_take_le Ps (i + 1)
      rw [etake, List.length_append] at le1
      obtain ⟨dx, pp, ps, ha, R⟩ := id ex
      refine ⟨_, rfl, .inl ⟨rfl, _, SqL.of hl⟩, _, rfl, a, dx, _, rfl, ha, ex_no (by decide +kernel), a, _, rfl, ex, fun q rs2 H2 s2 nq hq hp2 => ?_⟩
      have lq : l ≠ q := fun e => by rw [← e, hl] at nq; cases nq
      refine ⟨l, q, _, _, rfl, rfl, s2 _ _ hl, hq, by rw [hps.len, hp2.len, sizeLine_eq]; omega, ?_⟩
      have sH : Same H (upd H2 l (.lst (rs ++ rs2))) := fun b u z => by
        rw [upd_ne (ne_of_none z nl)]
        exact s2 _ _ (s1 _ _ z)
      have mv : ∀ b z, H2 b = some (.tup z) → upd H2 l (.lst (rs ++ rs2)) b = some (.tup z) := fun b z e => by
        rw [upd_ne (fun q => by rw [q, s2 _ _ hl] at e; cases e)]
        exact e
      refine ⟨sH, ⟨rs ++ rs2, upd_same, ?_⟩, _, rfl⟩
      rw [etake]
      exact ((hps.same s2).mov mv).app (hp2.mov mv)
    · rintro σ G ⟨s1, ⟨rs, hl, hps⟩, u, rfl⟩
      rw [List.length_map, ho.len, List.take_length] at hps
      refine ⟨_, rfl, l, _, rfl, .inr (SqL.of hl), _, rfl, by show 3 ≤ sizeLine; decide, fun x nx => ⟨by rw [List.length_append, hps.len, sizeLine_eq]; show _ + 1 ≤ _; omega, fun l2 nl2 => ?_⟩⟩
      have s2 := (same_upd (o := .tup [.str sg, .str "", .str ""]) nx).trans (same_upd (o := .lst (rs ++ [.ref x])) nl2)
      refine ⟨l2, _, _, rfl, upd_same, (hps.same s2).app (parts_one (q := (sg, "", "")) ((same_upd nl2) _ _ upd_same)), by rw [List.length_append]; show _ + 1 ≤ _; omega, m.mono (s1.trans s2)⟩
  · obtain ⟨sg, xs, Ps, rfl, hn, ho, hf, m⟩ := h
    refine ⟨[.str sg], xs.map V.ref, rfl, rfl, by rw [List.length_map, sizeLine_eq]; omega, fun p np => ⟨sg, p, xs, Ps, rfl, upd_same, ho.same (same_upd np), hf, m.mono (same_upd np)⟩⟩
end
end K36

namespace K36
open PySem PySem.Spec PyProof.Rows L2 EV TL LM PM TR
theorem app_empty (x : Str) : Str.empty ++ x = x := ext_tl (by rw [tl_append]; rfl)
theorem l_e : Str.empty.length = 0 := rfl
theorem l_dot : ("." : Str).length = 1 := by decide +kernel
theorem l_colon : (":" : Str).length = 1 := by decide +kernel
theorem l_op : ("(" : Str).length = 1 := by decide +kernel
theorem l_cl : (")" : Str).length = 1 := by decide +kernel
theorem l_sp : (" " : Str).length = 1 := by decide +kernel
def sumL (st : List Str) : Nat := (st.map fun s => s.length).sum
theorem sumL_app (st zs : List Str) : sumL (st ++ zs) = sumL st + sumL zs := by
  unfold sumL
  rw [List.map_append, List.sum_append]
theorem sumL_one (z : Str) : sumL [z] = z.length := by
  unfold sumL
  simp
def ShortP (P : List Part) : Prop := ∀ p ∈ P, p.1.length ≤ 1000 ∧ p.2.1.length ≤ 1000 ∧ p.2.2.length ≤ 1000
section
variable {P : Program} {w : World} {K : Fg} {mg : Str → Option Value} {base : Heap}
def spArity : Sp := fun vs H Q _ => ∃ z : Str, vs = [.str z] ∧ Q (.int (arity z : Nat)) H
theorem ok_arity_of {f : Addr} {fd : FuncData} (F : Fun K "arity_of" "arity_of" s_arity_of f fd) (T : Cst K mg) : FnOk P w K mg base CX0 1 f fd ["sign"] spArity := by
  obtain ⟨aB, m_BINARY_SIGNS, tB⟩ := T.g_BINARY_SIGNS
  obtain ⟨aU, m_UNARY_SIGNS, tU⟩ := T.g_UNARY_SIGNS
  refine F.ok sc_arity_of (fun vs H Q E h => ?_) (fun cdv A outer s H vs Q E hr h => ?_)
  · obtain ⟨z, rfl, _⟩ := h
    rfl
  · obtain ⟨z, rfl, q⟩ := h
    refine ⟨_, (pss_cons (ps_if (pt_cmpR op_in_seq (pv 0) (pe_glob (v := .ref _) rfl m_BINARY_SIGNS rfl) (by rfl)) (pss_one (ps_ret pe_int)) pss_nil)
    (pss_cons (ps_if (pt_cmpR op_in_seq (pv 0) (pe_glob (v := .ref _) rfl m_UNARY_SIGNS rfl) (by rfl)) (pss_one (ps_ret pe_int)) pss_nil)
    (pss_one (ps_ret pe_int)))), ?_⟩
    refine ⟨_, rfl, aB, _, rfl, .inr tB.sq, rfl, flat_strs _, _, rfl, ?_⟩
    rw [inV_strs]
    unfold arity at q
    cases e : binary.contains z with
    | true =>
      rw [e] at q
      exact iteT q
    | false =>
      rw [e] at q
      refine iteF ⟨_, rfl, aU, _, rfl, .inr tU.sq, rfl, flat_strs _, _, rfl, ?_⟩
      rw [inV_strs]
      cases e2 : unary.contains z with
      | true =>
        rw [e2] at q
        exact iteT q
      | false =>
        rw [e2] at q
        exact iteF q
/-- the parts, written -/
def spWritten (K : Fg) : Sp := fun vs H Q _ => ∃ (pp : Addr) (rs : List V) (ps : List Part) (z : Str) (zs : List Str), vs = [.ref pp] ∧ SqT K H pp rs ∧ PartsAt H rs ps ∧ ps.length ≤ 1000 ∧ ShortP ps ∧ writM ps [] = some (z :: zs) ∧ ∀ H', Same H H' → Q (.str z) H'
theorem ok_written {f : Addr} {fd : FuncData} (F : Fun K "_written" "_written" s_written f fd) (T : Cst K mg) (O_arity_of : Ok P w K mg base 1 "arity_of" ["sign"] spArity) : FnOk P w K mg base CX0 2 f fd ["parts"] (spWritten K) := by
  refine F.ok sc_written (fun vs H Q E h => ?_) (fun cdv A outer s H vs Q E hr h => ?_)
  · obtain ⟨pp, rs, ps, z, zs, rfl, _⟩ := h
    rfl
  · obtain ⟨pp, rs, ps, z, zs, rfl, hpp, hps, hn, hsh, hw, k⟩ := h
    refine ⟨_, (pss_cons (ps_set (i := 1) sc_written.nd rfl (Or.inl rfl) (pe_lst pa_nil))
    (pss_cons (ps_for PassesOwn.never rfl (pi_tup (pv 0)) (pg_tup rfl (pgs_cons (pg_name (i := 2) sc_written.nd rfl (Or.inl rfl)) (pgs_cons (pg_name (i := 3) sc_written.nd rfl (Or.inl rfl)) (pgs_cons (pg_name (i := 4) sc_written.nd rfl (Or.inl rfl)) pgs_nil)))) (pss_one (ps_if (pt_cmpR op_ne (pv 3) pe_str (nomark _)) (pss_one (ps_expr (pe_bm PySem.F.plainAttrs_list PySem.F.slot_list_append PySem.F.type_list_append mt_append (pv 1) (pa_cons (pe_joinedT (.cons (pe_fmt (pv 3)) (.cons pe_str (.cons (pe_fmt (pv 4)) .nil)))) pa_nil)))) (pss_one (ps_if (pt_cmpR op_ne (pv 4) pe_str (nomark _)) (pss_one (ps_expr (pe_bm PySem.F.plainAttrs_list PySem.F.slot_list_append PySem.F.type_list_append mt_append (pv 1) (pa_cons (pe_joinedT (.cons (pe_fmt (pv 4)) (.cons pe_str (.cons (pe_fmt (pv 2)) .nil)))) pa_nil)))) (pss_one (ps_if (pt_cmpR op_eq (pe_callO O_arity_of (hr.mono (by decide)) (pa_cons (pv 2) pa_nil)) pe_int (nomark _)) (pss_cons (ps_set (i := 5) sc_written.nd rfl (Or.inl rfl) (pe_bm0 PySem.F.plainAttrs_list PySem.F.slot_list_pop PySem.F.type_list_pop mt_pop (pv 1)))
    (pss_one (ps_expr (pe_bm PySem.F.plainAttrs_list PySem.F.slot_list_append PySem.F.type_list_append mt_append (pv 1) (pa_cons (pe_joinedT (.cons (pe_fmt (pv 2)) (.cons pe_str (.cons (pe_fmt (pv 5)) (.cons pe_str .nil))))) pa_nil))))) (pss_cons (ps_set (i := 6) sc_written.nd rfl (Or.inl rfl) (pe_bm0 PySem.F.plainAttrs_list PySem.F.slot_list_pop PySem.F.type_list_pop mt_pop (pv 1)))
    (pss_cons (ps_set (i := 7) sc_written.nd rfl (Or.inl rfl) (pe_bm0 PySem.F.plainAttrs_list PySem.F.slot_list_pop PySem.F.type_list_pop mt_pop (pv 1)))
    (pss_one (ps_expr (pe_bm PySem.F.plainAttrs_list PySem.F.slot_list_append PySem.F.type_list_append mt_append (pv 1) (pa_cons (pe_joinedT (.cons pe_str (.cons (pe_fmt (pv 7)) (.cons pe_str (.cons (pe_fmt (pv 2)) (.cons pe_str (.cons (pe_fmt (pv 6)) (.cons pe_str .nil)))))))) pa_nil)))))))))))))
    (pss_one (ps_ret (pe_ix ix_list (pv 1) pe_int (fun _ _ => rfl)))))), ?_⟩
    refine ⟨by show 0 ≤ sizeLine; decide, fun l nl => ?_⟩
    have s1 : Same H (upd H l (.lst [])) := same_upd nl
    have hl : upd H l (.lst []) l = some (.lst []) := upd_same
    generalize upd H l (.lst []) = G1 at s1 hl
    refine ⟨_, rfl, pp, rfl, ⟨_, SqT.same s1 hpp⟩, ?_⟩
    refine for_it (walk_tup (xs := rs)) (fun i σ G => ∃ (st : List Str) (u2 u3 u4 u5 u6 u7 : Option V), σ = [some (.ref pp), some (.ref l), u2, u3, u4, u5, u6, u7] ∧ Same H G ∧ G l = some (.lst (st.map V.str)) ∧ st.length ≤ i ∧ sumL st ≤ 4000 * i ∧ writM (ps.drop i) st = some (z :: zs))
      ⟨[], none, none, none, none, none, none, rfl, s1, hl, Nat.le_refl _, Nat.le_refl _, hw⟩ (fun i σ G _ h => by
        obtain ⟨_, _, _, _, _, _, _, _, s, _⟩ := h
        exact SqT.same s hpp) ?_ ?_
    · rintro i x σ G G2 hi ⟨st, u2, u3, u4, u5, u6, u7, rfl, s2, hl2, ls, sl, hM⟩ ⟨rfl, hx⟩
      have hip : i < ps.length := by rw [← hps.len]; exact hi
      have hpi : ps[i]? = some ps[i] := List.getElem?_eq_getElem hip
      obtain ⟨y, e1, e2⟩ := hps.at_ i _ hpi
      rw [List.drop_eq_getElem_cons hip, writM] at hM
      obtain ⟨L1, L2, L3⟩ := hsh _ (List.getElem_mem hip)
      rw [hx] at e1
      injection e1 with e1
      subst e1
      generalize ps[i] = p at hM e2 L1 L2 L3
      obtain ⟨req, lab, nm⟩ := p
      have hp2 : G2 y = some (.tup [.str req, .str lab, .str nm]) := s2 _ _ e2
      have L1 : req.length ≤ 1000 := L1
      have L2 : lab.length ≤ 1000 := L2
      have L3 : nm.length ≤ 1000 := L3
      have i4 : 4000 * i ≤ 4000000 := by omega
      have put : ∀ (us : List Str) (t : Str) (v2 v3 v4 v5 v6 v7 : Option V) (G3 : Hp), G3 = upd G2 l (.lst (us.map V.str)) ∨ G3 = G2 → us.length ≤ i → sumL us + t.length ≤ 4000 * (i + 1) → writM (ps.drop (i + 1)) (us ++ [t]) = some (z :: zs) →
          ∃ (st : List Str) (u2 u3 u4 u5 u6 u7 : Option V), [some (V.ref pp), some (.ref l), v2, v3, v4, v5, v6, v7] = [some (V.ref pp), some (.ref l), u2, u3, u4, u5, u6, u7] ∧ Same H (upd G3 l (.lst (us.map V.str ++ [.str t]))) ∧ upd G3 l (.lst (us.map V.str ++ [.str t])) l = some (.lst (st.map V.str)) ∧ st.length ≤ i + 1 ∧ sumL st ≤ 4000 * (i + 1) ∧ writM (ps.drop (i + 1)) st = some (z :: zs) := by
        intro us t v2 v3 v4 v5 v6 v7 G3 hG lu su hw
        refine ⟨us ++ [t], _, _, _, _, _, _, rfl, fun b u q => ?_, by rw [upd_same, List.map_append]; rfl, by rw [List.length_append]; show us.length + 1 ≤ _; omega, by rw [sumL_app, sumL_one]; exact su, hw⟩
        have bl : b ≠ l := ne_of_none q nl
        rw [upd_ne bl]
        rcases hG with rfl | rfl
        · rw [upd_ne bl]
          exact s2 _ _ q
        · exact s2 _ _ q
      refine ⟨y, _, rfl, SqT.of hp2, rfl, _, _, rfl, _, _, rfl, _, _, rfl, rfl, _, rfl, rfl, _, rfl, ?_⟩
      by_cases h0 : lab = ""
      · rw [decide_eq_true (congrArg V.str h0)]
        refine iteF ⟨_, rfl, rfl, _, rfl, ?_⟩
        by_cases h1 : nm = ""
        · rw [decide_eq_true (congrArg V.str h1)]
          rcases List.eq_nil_or_concat st with rfl | ⟨us, r, rfl⟩
          · rw [show writ1 (req, lab, nm) [] = none by unfold writ1; rw [if_neg (fun q => q h0), if_neg (fun q => q h1)]; rfl] at hM
            cases hM
          · rw [List.concat_eq_append] at hl2 ls sl hM
            rw [List.map_append] at hl2
            have hl2 : G2 l = some (.lst (us.map V.str ++ [.str r])) := hl2
            rw [sumL_app, sumL_one] at sl
            have lu : us.length + 1 ≤ i := by rw [List.length_append] at ls; exact ls
            have hW : writ1 (req, lab, nm) (us ++ [r]) = if arity req = 1 then some (us ++ [req ++ ("(" : Str) ++ r ++ (")" : Str)])
                else match us.getLast? with
                  | none => none
                  | some l => some (us.dropLast ++ [("(" : Str) ++ l ++ (" " : Str) ++ req ++ (" " : Str) ++ r ++ (")" : Str)]) := by
              unfold writ1
              rw [if_neg (fun q => q h0), if_neg (fun q => q h1), List.getLast?_concat, List.dropLast_concat]
              all_goals rfl
            rw [hW] at hM
            refine iteF ⟨_, rfl, req, rfl, rfl, _, rfl, ?_⟩
            have last : ∀ (vs : List Str) (q : Str), (vs.map V.str ++ [V.str q])[(vs.map V.str ++ [V.str q]).length - 1]? = some (V.str q) := fun vs q => by
              rw [List.length_append]
              exact List.getElem?_concat_length ..
            by_cases ha : arity req = 1
            · rw [if_pos ha] at hM
              rw [decide_eq_true (show V.int ((arity req : Nat) : Int) = V.int 1 by rw [ha]; rfl)]
              refine iteT ⟨_, rfl, .inl ⟨rfl, _, SqL.of hl2⟩, l, _, .str r, rfl, rfl, hl2, last _ _, ?_⟩
              rw [List.dropLast_concat]
              refine ⟨_, rfl, .inl ⟨rfl, _, SqL.of upd_same⟩, _, rfl, .inl ⟨req, rfl, by rw [sizeLine_eq]; (try simp only [len_app, l_e, l_dot, l_colon, l_op, l_cl, l_sp]); omega, _, rfl, by rw [sizeLine_eq]; (try simp only [len_app, l_e, l_dot, l_colon, l_op, l_cl, l_sp]); omega, _, rfl, by rw [sizeLine_eq]; (try simp only [len_app, l_e, l_dot, l_colon, l_op, l_cl, l_sp]); omega, _, rfl, .inl ⟨r, rfl, by rw [sizeLine_eq]; (try simp only [len_app, l_e, l_dot, l_colon, l_op, l_cl, l_sp]); omega, _, rfl, by rw [sizeLine_eq]; (try simp only [len_app, l_e, l_dot, l_colon, l_op, l_cl, l_sp]); omega, _, rfl, by rw [sizeLine_eq]; (try simp only [len_app, l_e, l_dot, l_colon, l_op, l_cl, l_sp]); omega, l, _, _, rfl, rfl, upd_same, by rw [List.length_map, sizeLine_eq]; omega, ?_⟩⟩⟩
              rw [app_empty]
              exact put us _ _ _ _ _ _ _ _ (.inl rfl) (by omega) (by simp only [len_app, l_op, l_cl]; omega) hM
            · rw [if_neg ha] at hM
              rw [decide_eq_false (show ¬ V.int ((arity req : Nat) : Int) = V.int 1 from fun q => by injection q with q; omega)]
              rcases List.eq_nil_or_concat us with rfl | ⟨vs, q, rfl⟩
              · cases hM
              · rw [List.concat_eq_append] at hl2 lu sl hM
                rw [List.getLast?_concat, List.dropLast_concat] at hM
                rw [sumL_app, sumL_one] at sl
                have lv : vs.length + 1 ≤ i := by rw [List.length_append] at lu; have : ([q] : List Str).length = 1 := rfl; omega
                refine iteF ⟨_, rfl, .inl ⟨rfl, _, SqL.of hl2⟩, l, _, .str r, rfl, rfl, hl2, last _ _, ?_⟩
                rw [List.dropLast_concat, List.map_append]
                have hl3 : upd G2 l (.lst (vs.map V.str ++ [V.str q])) l = some (.lst (vs.map V.str ++ [V.str q])) := upd_same
                refine ⟨_, rfl, .inl ⟨rfl, _, SqL.of hl3⟩, l, _, .str q, rfl, rfl, hl3, last _ _, ?_⟩
                rw [List.dropLast_concat, upd_upd]
                refine ⟨_, rfl, .inl ⟨rfl, _, SqL.of upd_same⟩, _, rfl, by rw [sizeLine_eq]; (try simp only [len_app, l_e, l_dot, l_colon, l_op, l_cl, l_sp]); omega, _, rfl, .inl ⟨q, rfl, by rw [sizeLine_eq]; (try simp only [len_app, l_e, l_dot, l_colon, l_op, l_cl, l_sp]); omega, _, rfl, by rw [sizeLine_eq]; (try simp only [len_app, l_e, l_dot, l_colon, l_op, l_cl, l_sp]); omega, _, rfl, by rw [sizeLine_eq]; (try simp only [len_app, l_e, l_dot, l_colon, l_op, l_cl, l_sp]); omega, _, rfl, .inl ⟨req, rfl, by rw [sizeLine_eq]; (try simp only [len_app, l_e, l_dot, l_colon, l_op, l_cl, l_sp]); omega, _, rfl, by rw [sizeLine_eq]; (try simp only [len_app, l_e, l_dot, l_colon, l_op, l_cl, l_sp]); omega, _, rfl, by rw [sizeLine_eq]; (try simp only [len_app, l_e, l_dot, l_colon, l_op, l_cl, l_sp]); omega, _, rfl, .inl ⟨r, rfl, by rw [sizeLine_eq]; (try simp only [len_app, l_e, l_dot, l_colon, l_op, l_cl, l_sp]); omega, _, rfl, by rw [sizeLine_eq]; (try simp only [len_app, l_e, l_dot, l_colon, l_op, l_cl, l_sp]); omega, _, rfl, by rw [sizeLine_eq]; (try simp only [len_app, l_e, l_dot, l_colon, l_op, l_cl, l_sp]); omega, l, _, _, rfl, rfl, upd_same, by rw [List.length_map, sizeLine_eq]; omega, ?_⟩⟩⟩⟩
                rw [app_empty]
                exact put vs _ _ _ _ _ _ _ _ (.inl rfl) (by omega) (by simp only [len_app, l_op, l_cl, l_sp]; omega) hM
        · rw [decide_eq_false (show ¬ V.str nm = V.str "" from fun q => h1 (by injection q))]
          have hW : writ1 (req, lab, nm) st = some (st ++ [nm ++ ("." : Str) ++ req]) := by
            unfold writ1
            rw [if_neg (fun q => q h0), if_pos h1]
          rw [hW] at hM
          refine iteT ⟨_, rfl, .inl ⟨rfl, _, SqL.of hl2⟩, _, rfl, .inl ⟨nm, rfl, by rw [sizeLine_eq]; (try simp only [len_app, l_e, l_dot, l_colon, l_op, l_cl, l_sp]); omega, _, rfl, by rw [sizeLine_eq]; (try simp only [len_app, l_e, l_dot, l_colon, l_op, l_cl, l_sp]); omega, _, rfl, by rw [sizeLine_eq]; (try simp only [len_app, l_e, l_dot, l_colon, l_op, l_cl, l_sp]); omega, _, rfl, .inl ⟨req, rfl, by rw [sizeLine_eq]; (try simp only [len_app, l_e, l_dot, l_colon, l_op, l_cl, l_sp]); omega, _, rfl, by rw [sizeLine_eq]; (try simp only [len_app, l_e, l_dot, l_colon, l_op, l_cl, l_sp]); omega, l, _, _, rfl, rfl, hl2, by rw [List.length_map, sizeLine_eq]; omega, ?_⟩⟩⟩
          rw [app_empty]
          exact put st _ _ _ _ _ _ _ _ (.inr rfl) ls (by simp only [len_app, l_dot]; omega) hM
      · rw [decide_eq_false (show ¬ V.str lab = V.str "" from fun q => h0 (by injection q))]
        have hW : writ1 (req, lab, nm) st = some (st ++ [lab ++ (":" : Str) ++ nm]) := by
          unfold writ1
          rw [if_pos h0]
        rw [hW] at hM
        refine iteT ⟨_, rfl, .inl ⟨rfl, _, SqL.of hl2⟩, _, rfl, .inl ⟨lab, rfl, by rw [sizeLine_eq]; (try simp only [len_app, l_e, l_dot, l_colon, l_op, l_cl, l_sp]); omega, _, rfl, by rw [sizeLine_eq]; (try simp only [len_app, l_e, l_dot, l_colon, l_op, l_cl, l_sp]); omega, _, rfl, by rw [sizeLine_eq]; (try simp only [len_app, l_e, l_dot, l_colon, l_op, l_cl, l_sp]); omega, _, rfl, .inl ⟨nm, rfl, by rw [sizeLine_eq]; (try simp only [len_app, l_e, l_dot, l_colon, l_op, l_cl, l_sp]); omega, _, rfl, by rw [sizeLine_eq]; (try simp only [len_app, l_e, l_dot, l_colon, l_op, l_cl, l_sp]); omega, l, _, _, rfl, rfl, hl2, by rw [List.length_map, sizeLine_eq]; omega, ?_⟩⟩⟩
        rw [app_empty]
        exact put st _ _ _ _ _ _ _ _ (.inr rfl) ls (by simp only [len_app, l_colon]; omega) hM
    · rintro σ G ⟨st, u2, u3, u4, u5, u6, u7, rfl, s2, hl2, ls, sl, hM⟩
      rw [List.drop_of_length_le (by rw [← hps.len]; exact Nat.le_refl _), writM] at hM
      injection hM with hM
      subst hM
      exact ⟨_, rfl, l, _, ((0 : Nat) : Int), _, rfl, rfl, SqL.of hl2, atI_nat (j := 0) rfl, k G s2⟩
end
end K36

/-! x(..) with *args; operators of own classes that may raise -/
namespace EV
open PySem PySem.Spec PyProof.Rows L2
/-- a def told by its positional promise -/
structure OkR (cx : CXT) (P : Program) (w : World) (K : Fg) (mg : Str → Option Value) (base : Heap) (k : Nat) (x : Str) (sp : Sp) : Prop where
  ex : ∃ f : Addr, FnR P w K mg base cx k f sp ∧ mg x = some (.ref f) ∧ PySem.W.keepIn K (.ref f) = true
section
variable {X : Cx} {e o : Expr} {es : List Expr} {t : TA} {x m : Str} {p pos : Pos} {k : Nat} {ps : List Str} {sp : Sp} {C : Addr}
/-- x(e, ..), x a def with *args -/
theorem pe_callR {cx : CXT} {E : L2.St → XK} (hx : ∀ σ, PassesAt cx X σ (E σ)) (O : OkR cx X.prog X.w X.K X.mg X.base k x sp) (hr : Room k X.A) (ha : PA X (e :: es) t) (hg : Gl X x := by rfl)
    (hdb : (x == ("__debug__" : Str)) = false := by decide) (he : starEach (e :: es) X.env = (false, eval e X.env) :: starEach es X.env := by rfl)
    (hpl : (backTo pos (starEach es X.env)).any (·.1) = false := by rfl) : PE X (.Call (.Name x p) (e :: es) [] pos) (fun σ H Q => t σ H fun vs H1 => sp vs H1 Q (E σ)) := by
  obtain ⟨f, F, hm, kp⟩ := O.ex
  constructor
  intro pins s σ H Q I want
  refine wpAny_Call_Name_kw (ld_glob I hg hm ?_ hdb)
  refine PySem.W.callWith_K (h₀ := X.base) I.ok.mod.kin kp (thn (ha.run pos pins s σ H _ I want) ?_) he hpl
  rintro us s1 ⟨vs, H1, I1, r, q⟩
  refine ⟨I1.kIn, wpAny_call (codeAny_mono (F X.A X.stack s1 H1 us vs Q (E σ) hr I1.env0 r q) fun z s' hq => ?_)⟩
  have hh := ret_of I1 (fun er hq => hx _ _ _ _ _ _ I1 hq) hq
  rcases z with er | fl
  · exact hh
  · cases fl with
    | ret u => exact hh
    | next => exact hh
    | brk => exact hh
    | cont => exact hh
/-! ### operators whose methods may raise, where no error is taken -/
/-- no error -/
def EN : XK := fun _ _ _ => False
theorem passN (σ : L2.St) : PassesAt (L2.CX X.prog X.w) X σ EN := fun pins H s e s' I c => passAt takes0 σ pins H s e s' I c
def rBinX (C : Addr) (sp : Sp) : R2 := fun x y H Q => ∃ a b dx dy fs gs, x = .ref a ∧ y = .ref b ∧ H a = some (.ins C dx fs) ∧ H b = some (.ins C dy gs) ∧ sp [.ref a, .ref b] H Q EN
theorem op_binX {op : Operator} {m : Str} (O : OkM (L2.CX X.prog X.w) X.prog X.w X.K X.mg X.base k C m ps sp) (first : PySem.W.selfFirst X.K C = true) (hr : Room k X.A) (hm : m = PySem.dunder op.info.2 := by rfl) : OpR X (binaryOp op) (rBinX C sp) := by
  subst hm
  intro pins s σ H x y v u Q I rx ry want
  obtain ⟨a, b, dx, dy, fs, gs, rfl, rfl, ea, eb, q⟩ := want
  cases (show v = Value.ref a from rx)
  cases (show u = Value.ref b from ry)
  obtain ⟨f, fd, F, at_, hb⟩ := O.ex
  obtain ⟨_, _, J⟩ := ins_inst I ea
  obtain ⟨_, _, J'⟩ := ins_inst I eb
  obtain ⟨_, fr⟩ := I.fr
  refine PySem.W.binop_K fr I.ok.mod.kin J J'.type first at_.at_ at_.fn (thn (run_fnS (us := [.ref a, .ref b]) (vs := [.ref a, .ref b]) (E := fun _ => EN) F hr hb (passN σ) I (.cons rfl (.cons rfl .nil)) q) ?_)
  rintro r s1 ⟨z, H2, I2, rz, q2⟩
  exact back_of rz ⟨z, H2, I2, rz, q2⟩
def rUnX (C : Addr) (sp : Sp) : V → Hp → VK → Prop := fun x H Q => ∃ a dx fs, x = .ref a ∧ H a = some (.ins C dx fs) ∧ sp [.ref a] H Q EN
theorem un_runX {m : Str} (O : OkM (L2.CX X.prog X.w) X.prog X.w X.K X.mg X.base k C m ps sp) (hr : Room k X.A) {pins : List (Addr × Obj)} {σ : L2.St} {H : Hp} {s : Shared} {a : Addr} {Q : VK} (I : Inv X pins σ H s) (q : sp [.ref a] H Q EN) :
    ∃ f, PySem.W.findIn X.K (.ref C) m = some (some (.ref f)) ∧ PySem.W.isFn X.K (.ref f) = true ∧ wpAny (model X.prog X.w) X.A (call (.ref f) [.ref a]) (EP X pins σ Q) X.xe s := by
  obtain ⟨f, fd, F, at_, hb⟩ := O.ex
  exact ⟨f, at_.at_, at_.fn, run_fnS (us := [.ref a]) (vs := [.ref a]) (E := fun _ => EN) F hr hb (passN σ) I (.cons rfl .nil) q⟩
theorem un_negX (O : OkM (L2.CX X.prog X.w) X.prog X.w X.K X.mg X.base k C "__neg__" ps sp) (hr : Room k X.A) : UnR X (unaryOp .USub) (rUnX C sp) := by
  rintro pins s σ H x v Q I rx ⟨a, dx, fs, rfl, ea, q⟩
  cases (show v = Value.ref a from rx)
  obtain ⟨f, h1, h2, h3⟩ := un_runX O hr I q
  obtain ⟨_, _, J⟩ := ins_inst I ea
  obtain ⟨_, fr⟩ := I.fr
  exact PySem.W.ksp_neg fr I.ok.mod.kin J h1 h2 h3
theorem un_posX (O : OkM (L2.CX X.prog X.w) X.prog X.w X.K X.mg X.base k C "__pos__" ps sp) (hr : Room k X.A) : UnR X (unaryOp .UAdd) (rUnX C sp) := by
  rintro pins s σ H x v Q I rx ⟨a, dx, fs, rfl, ea, q⟩
  cases (show v = Value.ref a from rx)
  obtain ⟨f, h1, h2, h3⟩ := un_runX O hr I q
  obtain ⟨_, _, J⟩ := ins_inst I ea
  obtain ⟨_, fr⟩ := I.fr
  exact PySem.W.ksp_pos fr I.ok.mod.kin J h1 h2 h3
theorem un_invX (O : OkM (L2.CX X.prog X.w) X.prog X.w X.K X.mg X.base k C "__invert__" ps sp) (hr : Room k X.A) : UnR X (unaryOp .Invert) (rUnX C sp) := by
  rintro pins s σ H x v Q I rx ⟨a, dx, fs, rfl, ea, q⟩
  cases (show v = Value.ref a from rx)
  obtain ⟨f, h1, h2, h3⟩ := un_runX O hr I q
  obtain ⟨_, _, J⟩ := ins_inst I ea
  obtain ⟨_, fr⟩ := I.fr
  exact PySem.W.ksp_inv fr I.ok.mod.kin J h1 h2 h3
/-- abs(x) -/
theorem call_absX (O : OkM (L2.CX X.prog X.w) X.prog X.w X.K X.mg X.base k C "__abs__" ps sp) (hr : Room (k + 1) X.A) : CallR X (.builtin "abs") (fun xs H Q => ∃ a dx fs, xs = [.ref a] ∧ H a = some (.ins C dx fs) ∧ sp [.ref a] H Q EN) := by
  intro pins s σ H xs us Q I r want
  obtain ⟨a, dx, fs, rfl, ea, q⟩ := want
  obtain ⟨u, rfl, ru⟩ := vals1 r
  cases (show u = Value.ref a from ru)
  obtain ⟨f, fd, F, at_, hb⟩ := O.ex
  obtain ⟨_, _, J⟩ := ins_inst I ea
  have h1 : Room k X.A.in1 := Room.in1 hr
  have hl : ([.ref a] : List Value).length = ps.length := F.len _ _ _ _ q
  have bb := hb s [.ref a] I.kIn (by rw [List.append_nil]; exact hl)
  rw [List.append_nil] at bb
  have run : wpAny (model X.prog X.w) X.A.in1 (call (.ref f) [.ref a]) (EP X pins σ Q) X.xe s := by
    have e0 := I.env0
    refine wpAny_call (codeAny_mono (F.run X.A.in1 X.stack s H ⟨[.ref a], []⟩ [.ref a] [.ref a] Q EN h1 { e0 with frames := e0.frames } bb (.cons rfl .nil) q) fun z s' hq => ?_)
    have hh := ret_of I (fun er hq => passN σ _ _ _ _ _ I hq) hq
    rcases z with er | fl
    · exact hh
    · cases fl with
      | ret u => exact hh
      | next => exact hh
      | brk => exact hh
      | cont => exact hh
  refine PySem.Calls.call_function_entry kind_abs plain_abs entry_abs (args_abs _) ?_
  unfold Builtin.«abs»
  refine wpAny_bind (m := oneArg "abs" _) (wpAny_pure ?_)
  refine wpAny_bind (m := callSpecial? (.ref a) (Str.ofString "__abs__")) (PySem.W.special_fn I.kIn J at_.at_ (beq_iff_eq.mp at_.fn) (wpAny_mono run ?_ fun _ _ y => y))
  intro v s' hv
  exact wpAny_pure ⟨v, rfl, hv⟩
end
end EV

/-! a static method by keywords alone -/
namespace EV
open PySem PySem.Spec PyProof.Rows L2
section
variable {X : Cx} {o : Expr} {ta tk : TE} {k : Nat} {C f : Addr} {fd : FuncData} {m : Str} {ps ks : List Str} {sp : Sp} {pos apos : Pos} {kws : List Keyword} {g : List Value → List Value → List Value} {gV : List V → List V → List V}
/-- C.m(k = v, ..) -/
theorem pe_smethK0 {pl : Sem Bool} {tk : TA} (he : PE X o ta) (S : SM X.K C m f) (F : FnOk X.prog X.w X.K X.mg X.base CX0 k f fd ps sp) (hr : Room k X.A) (hb : KBinds X.K fd ps ks g gV) (hkw : PK X kws tk)
    (hall : (backToKw pos (keywordEach kws X.env)).all (·.1.isSome) = true := by rfl) (hks : (backToKw pos (keywordEach kws X.env)).filterMap (·.1) = ks := by rfl)
    (hpl : ((backTo pos (starEach [] X.env)).any (·.1) || (backToKw pos (keywordEach kws X.env)).any (·.1.isNone)) = false := by rfl)
    (ht : eval (.Call (.Attribute o m apos) [] kws pos) X.env = (do
      let ov ← eval o X.env
      standAt apos.atName
      let (f, first) ← holding [ov] (getMethod ov m pl)
      callWith pos f first (backTo pos (starEach [] X.env)) (backToKw pos (keywordEach kws X.env))) := by rfl) :
    PE X (.Call (.Attribute o m apos) [] kws pos) (fun σ H Q => ta σ H fun x H1 => x = .ref C ∧ tk σ H1 fun zs H3 => sp (gV [] zs) H3 Q E0) := by
  constructor
  intro pins s σ H Q I h
  refine PySem.W.methodCall_KW (pl := pl) (thn (he.run pins s σ H _ I h) fun u s1 told => ?_) ht
  obtain ⟨x, H1, I1, rx, ex, q⟩ := told
  subst ex
  obtain rfl : u = Value.ref C := rx
  refine getsm_ok I1 S fun s2 I2 => PySem.W.callWith_KW0 (first := []) (h₀ := X.base) I.ok.mod.kin S.kp hall ?_ hpl
  refine thn (hkw.run pos pins s2 σ H1 _ I2 q) fun ws s4 got => ?_
  obtain ⟨zs, H3, I4, rz, q3⟩ := got
  refine ⟨I4.kIn, ?_⟩
  rw [hks]
  exact run_fnk F hr hb pass0 I4 .nil rz q3
/-- C.m(k = v, ..), m a classmethod -/
theorem pe_cmethK0 {mc : Value} {q : Addr} {pl : Sem Bool} {tk : TA} (he : PE X o ta) (r : ClX.CRead X.K C mc) (c : ClX.CMet X.K C mc m q f) (F : FnOk X.prog X.w X.K X.mg X.base CX0 k f fd ps sp) (hr : Room k X.A) (hb : KBinds X.K fd ps ks g gV) (hkw : PK X kws tk)
    (hall : (backToKw pos (keywordEach kws X.env)).all (·.1.isSome) = true := by rfl) (hks : (backToKw pos (keywordEach kws X.env)).filterMap (·.1) = ks := by rfl)
    (hpl : ((backTo pos (starEach [] X.env)).any (·.1) || (backToKw pos (keywordEach kws X.env)).any (·.1.isNone)) = false := by rfl)
    (ht : eval (.Call (.Attribute o m apos) [] kws pos) X.env = (do
      let ov ← eval o X.env
      standAt apos.atName
      let (f, first) ← holding [ov] (getMethod ov m pl)
      callWith pos f first (backTo pos (starEach [] X.env)) (backToKw pos (keywordEach kws X.env))) := by rfl) :
    PE X (.Call (.Attribute o m apos) [] kws pos) (fun σ H Q => ta σ H fun x H1 => x = .ref C ∧ tk σ H1 fun zs H3 => sp (gV [.ref C] zs) H3 Q E0) := by
  constructor
  intro pins s σ H Q I h
  refine PySem.W.methodCall_KW (pl := pl) (thn (he.run pins s σ H _ I h) fun u s1 told => ?_) ht
  obtain ⟨x, H1, I1, rx, ex, w1⟩ := told
  subst ex
  obtain rfl : u = Value.ref C := rx
  refine ClX.getmethcm_ok I1 r c fun s2 I2 => ?_
  refine PySem.W.callWith_of (P := fun h => PySem.W.MethP X.K s1.heap.objs.size f (.ref C) h) hpl (PySem.W.keeps_M c.fi) (PyProof.Rows.evalArgs_kw2_nil hall (thn (hkw.run pos _ s2 σ H1 _ I2 w1) fun ws s3 got => ?_))
  obtain ⟨zs, H3, I3, rz, w3⟩ := got
  refine ⟨⟨ClX.pin_at I3, I3.kIn⟩, ?_⟩
  rw [hks]
  have r2 := hb.rel (.cons rfl .nil : Vals [V.ref C] [Value.ref C]) rz
  have hl : (g [Value.ref C] ws).length = ps.length := by rw [← r2.length]; exact F.len _ _ _ _ w3
  refine thn (Q := EP X ((s1.heap.objs.size, PySem.W.methodObj (.ref f) (.ref C)) :: pins) σ Q) (wpAny_call (PySem.W.method_call (ClX.pin_at I3) (codeAny_mono (F.run X.A X.stack s3 H3 ⟨[Value.ref C], ks.zip ws⟩ (g [Value.ref C] ws) (gV [.ref C] zs) Q E0 hr I3.env0 (hb.to s3 _ ws I3.kIn hl) r2 w3) fun z s' hq => ?_))) fun _ _ y => ClX.unpinE y
  cases z with
  | error er => exact pass0 _ σ _ _ _ _ I3 hq
  | ok fl =>
    cases fl with
    | ret u => exact I3.after hq
    | next => exact False.elim hq
    | brk => exact False.elim hq
    | cont => exact False.elim hq
end
/-! ### static and class methods, by position and by name -/
/-- one by position, one by name -/
def gOne {α : Type} : List α → List α → List α
  | [u], [v] => [u, v]
  | _, _ => []
/-- two by name, in the other order -/
def gSwap {α : Type} : List α → List α → List α
  | [], [u, v] => [v, u]
  | _, _ => []
theorem kb_one {K : Fg} {x qual p1 p2 n : Str} {st : Stmt} {f : Addr} {fd : FuncData} (U : Fun K x qual st f fd)
    (h : ∀ (kV doc pm : Value) (an : Option Addr) (cdv ct u v : Value), bindArgs (PySem.W.fnOf x qual (defArgs st) (defBody st) (defScope st) .none kV doc pm an cdv ct) ⟨[u], [(n, v)]⟩ = pure [(p1, u), (p2, v)]) : KBinds K fd [p1, p2] [n] gOne gOne := by
  obtain ⟨oc, od, kV, doc, pm, an, cdv, ct, osl, rfl, lk, hcd⟩ := U.ex
  refine ⟨fun s us ws _ hl => ?_, fun r rz => ?_⟩
  · match us, ws, hl with
    | [u], [v], _ => exact .of_eq (h ..)
  · cases r with
    | nil => exact .nil
    | cons r1 r2 =>
      cases r2 with
      | nil =>
        cases rz with
        | nil => exact .nil
        | cons z1 z2 =>
          cases z2 with
          | nil => exact .cons r1 (.cons z1 .nil)
          | cons _ _ => exact .nil
      | cons _ _ => exact .nil
theorem kb_swap {K : Fg} {x qual p1 p2 n1 n2 : Str} {st : Stmt} {f : Addr} {fd : FuncData} (U : Fun K x qual st f fd)
    (h : ∀ (kV doc pm : Value) (an : Option Addr) (cdv ct u v : Value), bindArgs (PySem.W.fnOf x qual (defArgs st) (defBody st) (defScope st) .none kV doc pm an cdv ct) ⟨[], [(n1, u), (n2, v)]⟩ = pure [(p1, v), (p2, u)]) : KBinds K fd [p1, p2] [n1, n2] gSwap gSwap := by
  obtain ⟨oc, od, kV, doc, pm, an, cdv, ct, osl, rfl, lk, hcd⟩ := U.ex
  refine ⟨fun s us ws _ hl => ?_, fun r rz => ?_⟩
  · match us, ws, hl with
    | [], [u, v], _ => exact .of_eq (h ..)
  · cases r with
    | cons _ _ => exact .nil
    | nil =>
      cases rz with
      | nil => exact .nil
      | cons z1 z2 =>
        cases z2 with
        | nil => exact .nil
        | cons z2 z3 =>
          cases z3 with
          | nil => exact .cons z2 (.cons z1 .nil)
          | cons _ _ => exact .nil
structure OkS (P : Program) (w : World) (K : Fg) (mg : Str → Option Value) (base : Heap) (k : Nat) (C : Addr) (m : Str) (ps : List Str) (sp : Sp) : Prop where
  ex : ∃ (f : Addr) (fd : FuncData), FnOk P w K mg base CX0 k f fd ps sp ∧ SM K C m f ∧ Binds K fd ps []
structure OkSK (P : Program) (w : World) (K : Fg) (mg : Str → Option Value) (base : Heap) (k : Nat) (C : Addr) (m : Str) (ps ks : List Str) (sp : Sp) : Prop where
  ex : ∃ (f : Addr) (fd : FuncData), FnOk P w K mg base CX0 k f fd ps sp ∧ SM K C m f ∧ KBinds K fd ps ks gSwap gSwap
structure OkC0 (P : Program) (w : World) (K : Fg) (mg : Str → Option Value) (base : Heap) (k : Nat) (C : Addr) (m : Str) (ps : List Str) (sp : Sp) : Prop where
  ex : ∃ (p f : Addr) (fd : FuncData) (mc : Value), FnOk P w K mg base CX0 k f fd ps sp ∧ ClX.CRead K C mc ∧ ClX.CMet K C mc m p f ∧ Binds K fd ps []
structure OkCK (P : Program) (w : World) (K : Fg) (mg : Str → Option Value) (base : Heap) (k : Nat) (C : Addr) (m : Str) (ps ks : List Str) (sp : Sp) : Prop where
  ex : ∃ (p f : Addr) (fd : FuncData) (mc : Value), FnOk P w K mg base CX0 k f fd ps sp ∧ ClX.CRead K C mc ∧ ClX.CMet K C mc m p f ∧ KBinds K fd ps ks gOne gOne
section
variable {X : Cx} {o e : Expr} {es : List Expr} {ta : TE} {t : TA} {k : Nat} {C : Addr} {m : Str} {ps ks : List Str} {sp : Sp} {pos apos : Pos} {kws : List Keyword}
theorem pe_smethS {pl : Sem Bool} (he : PE X o ta) (O : OkS X.prog X.w X.K X.mg X.base k C m ps sp) (hr : Room k X.A) (ha : PA X (e :: es) t)
    (hst : starEach (e :: es) X.env = (false, eval e X.env) :: starEach es X.env := by rfl) (hpl : (backTo pos (starEach es X.env)).any (·.1) = false := by rfl)
    (ht : eval (.Call (.Attribute o m apos) (e :: es) [] pos) X.env = (do
      let ov ← eval o X.env
      standAt apos.atName
      let (f, first) ← holding [ov] (getMethod ov m pl)
      callWith pos f first (backTo pos (starEach (e :: es) X.env)) (backToKw pos (keywordEach [] X.env))) := by rfl) :
    PE X (.Call (.Attribute o m apos) (e :: es) [] pos) (fun σ H Q => ta σ H fun x H1 => x = .ref C ∧ t σ H1 fun vs H2 => sp vs H2 Q E0) := by
  obtain ⟨f, fd, F, S, hb⟩ := O.ex
  have z := pe_smeth (dvs := []) he S F hr hb .nil ha hst hpl ht
  simp only [List.append_nil] at z
  exact z
theorem pe_smethSK {pl : Sem Bool} {tk : TA} (he : PE X o ta) (O : OkSK X.prog X.w X.K X.mg X.base k C m ps ks sp) (hr : Room k X.A) (hkw : PK X kws tk)
    (hall : (backToKw pos (keywordEach kws X.env)).all (·.1.isSome) = true := by rfl) (hks : (backToKw pos (keywordEach kws X.env)).filterMap (·.1) = ks := by rfl)
    (hpl : ((backTo pos (starEach [] X.env)).any (·.1) || (backToKw pos (keywordEach kws X.env)).any (·.1.isNone)) = false := by rfl)
    (ht : eval (.Call (.Attribute o m apos) [] kws pos) X.env = (do
      let ov ← eval o X.env
      standAt apos.atName
      let (f, first) ← holding [ov] (getMethod ov m pl)
      callWith pos f first (backTo pos (starEach [] X.env)) (backToKw pos (keywordEach kws X.env))) := by rfl) :
    PE X (.Call (.Attribute o m apos) [] kws pos) (fun σ H Q => ta σ H fun x H1 => x = .ref C ∧ tk σ H1 fun zs H3 => sp (gSwap [] zs) H3 Q E0) := by
  obtain ⟨f, fd, F, S, hb⟩ := O.ex
  exact pe_smethK0 he S F hr hb hkw hall hks hpl ht
theorem pe_cmethSK {pl : Sem Bool} {tk : TA} (he : PE X o ta) (O : OkCK X.prog X.w X.K X.mg X.base k C m ps ks sp) (hr : Room k X.A) (hkw : PK X kws tk)
    (hall : (backToKw pos (keywordEach kws X.env)).all (·.1.isSome) = true := by rfl) (hks : (backToKw pos (keywordEach kws X.env)).filterMap (·.1) = ks := by rfl)
    (hpl : ((backTo pos (starEach [] X.env)).any (·.1) || (backToKw pos (keywordEach kws X.env)).any (·.1.isNone)) = false := by rfl)
    (ht : eval (.Call (.Attribute o m apos) [] kws pos) X.env = (do
      let ov ← eval o X.env
      standAt apos.atName
      let (f, first) ← holding [ov] (getMethod ov m pl)
      callWith pos f first (backTo pos (starEach [] X.env)) (backToKw pos (keywordEach kws X.env))) := by rfl) :
    PE X (.Call (.Attribute o m apos) [] kws pos) (fun σ H Q => ta σ H fun x H1 => x = .ref C ∧ tk σ H1 fun zs H3 => sp (gOne [.ref C] zs) H3 Q E0) := by
  obtain ⟨p, f, fd, mc, F, r, c, hb⟩ := O.ex
  exact pe_cmethK0 he r c F hr hb hkw hall hks hpl ht
theorem pe_cmethS {pl : Sem Bool} (he : PE X o ta) (O : OkC0 X.prog X.w X.K X.mg X.base k C m ps sp) (hr : Room k X.A) (ha : PA X (e :: es) t)
    (hst : starEach (e :: es) X.env = (false, eval e X.env) :: starEach es X.env := by rfl) (hpl : (backTo pos (starEach es X.env)).any (·.1) = false := by rfl)
    (ht : eval (.Call (.Attribute o m apos) (e :: es) [] pos) X.env = (do
      let ov ← eval o X.env
      standAt apos.atName
      let (f, first) ← holding [ov] (getMethod ov m pl)
      callWith pos f first (backTo pos (starEach (e :: es) X.env)) (backToKw pos (keywordEach [] X.env))) := by rfl) :
    PE X (.Call (.Attribute o m apos) (e :: es) [] pos) (fun σ H Q => ta σ H fun x H1 => x = .ref C ∧ t σ H1 fun vs H2 => sp (.ref C :: vs) H2 Q E0) := by
  obtain ⟨p, g, fd, mc, F, r, c, hb⟩ := O.ex
  constructor
  intro pins s σ H Q I want
  refine PySem.W.methodCall_KW (pl := pl) (thn (he.run pins s σ H _ I want) fun u s1 told => ?_) ht
  obtain ⟨x, H1, I1, rx, ex, w1⟩ := told
  subst ex
  cases (show u = Value.ref C from rx)
  refine ClX.getmethcm_ok I1 r c fun s2 I2 => ClX.callwith_cm I2 (ClX.base_none I1 (Nat.le_refl _)) c.fi (thn (ha.run pos _ s2 σ H1 _ I2 w1) ?_) hst hpl
  rintro us s3 ⟨vs, H2, I3, rv, w2⟩
  refine ⟨⟨ClX.pin_at I3, I3.kIn⟩, ?_⟩
  have r2 : Vals (V.ref C :: vs) (Value.ref C :: us) := .cons rfl rv
  have hl : (Value.ref C :: us).length = ps.length := r2.length ▸ F.len _ _ _ _ w2
  have bb := hb s3 (.ref C :: us) I3.kIn ((List.append_nil _).symm ▸ hl)
  rw [List.append_nil] at bb
  refine thn (Q := EP X ((s1.heap.objs.size, PySem.W.methodObj (.ref g) (.ref C)) :: pins) σ Q) (wpAny_call (PySem.W.method_call (ClX.pin_at I3) (codeAny_mono (F.run X.A X.stack s3 H2 ⟨.ref C :: us, []⟩ (.ref C :: us) (.ref C :: vs) Q E0 hr I3.env0 bb r2 w2) ?_))) fun _ _ y => ClX.unpinE y
  intro z s' hq
  cases z with
  | error er => exact False.elim hq
  | ok fl =>
    cases fl with
    | ret u => exact I3.after hq
    | _ => exact False.elim hq
end
end EV

namespace K36
open PySem PySem.Spec PyProof.Rows L2 EV TL LM PM TR
section
variable {P : Program} {w : World} {K : Fg} {mg : Str → Option Value} {base : Heap}
/-- two expressions and a sign -/
def spBin (K : Fg) (C CT : Addr) (sg : Str) : Sp := fun vs H Q E => ∃ (a b : Addr) (ps qs : List Part), vs = [.ref a, .ref b] ∧ ExAt K H C a ps ∧ ExAt K H C b qs ∧ ps.length ≤ 10000 ∧ qs.length ≤ 10000 ∧ Making K C CT (ps ++ (qs ++ [((sg, "", "") : Part)])) H Q E
/-- an expression and a sign -/
def spUn (K : Fg) (C CT : Addr) (sg : Str) : Sp := fun vs H Q E => ∃ (a : Addr) (ps : List Part), vs = [.ref a] ∧ ExAt K H C a ps ∧ ps.length ≤ 10000 ∧ Making K C CT (ps ++ [((sg, "", "") : Part)]) H Q E
theorem two_join {C CT a b : Addr} {sg : Str} {ps qs : List Part} {H : Hp} {Q : VK} {E : XK} (ha : ExAt K H C a ps) (hb : ExAt K H C b qs) (n1 : ps.length ≤ 10000) (n2 : qs.length ≤ 10000) (m : Making K C CT (ps ++ (qs ++ [((sg, "", "") : Part)])) H Q E) :
    spJoin K C CT [.str sg, .ref a, .ref b] H Q E := by
  have e : ([ps, qs] : List (List Part)).flatten ++ [((sg, "", "") : Part)] = ps ++ (qs ++ [((sg, "", "") : Part)]) := by simp
  refine ⟨sg, [a, b], [ps, qs], rfl, by show 2 ≤ 1000; decide, ops_two ha hb, ?_, by rw [e]; exact m⟩
  show (ps ++ (qs ++ [])).length ≤ 100000
  rw [List.length_append, List.length_append]
  show _ + (_ + 0) ≤ _
  omega
theorem one_join {C CT a : Addr} {sg : Str} {ps : List Part} {H : Hp} {Q : VK} {E : XK} (ha : ExAt K H C a ps) (n1 : ps.length ≤ 10000) (m : Making K C CT (ps ++ [((sg, "", "") : Part)]) H Q E) : spJoin K C CT [.str sg, .ref a] H Q E := by
  have e : ([ps] : List (List Part)).flatten ++ [((sg, "", "") : Part)] = ps ++ [((sg, "", "") : Part)] := by simp
  refine ⟨sg, [a], [ps], rfl, by show 1 ≤ 1000; decide, ops_one ha, ?_, by rw [e]; exact m⟩
  show (ps ++ []).length ≤ 100000
  rw [List.length_append]
  show _ + 0 ≤ _
  omega
theorem ok_add {f C CT : Addr} {fd : FuncData} (F : Fun K "__add__" "Expression.__add__" s_Expression___add__ f fd) (O_joined : OkR (L2.CX P w) P w K mg base 5 "_joined" (spJoin K C CT)) : FnOk P w K mg base (L2.CX P w) 6 f fd ["self", "other"] (spBin K C CT "+") := by
  refine F.okX sc_Expression___add__ (fun vs H Q E h => ?_) (fun cdv A outer s H vs Q E hr h => ?_)
  · obtain ⟨a, b, ps, qs, rfl, _⟩ := h
    rfl
  · obtain ⟨a, b, ps, qs, rfl, ha, hb, n1, n2, mk⟩ := h
    exact ⟨_, (pss_one (ps_ret (pe_callR (fun σ => passAt (takes_of rfl rfl rfl rfl) σ) O_joined (hr.mono (by decide)) (pa_cons pe_str (pa_cons (pv 0) (pa_cons (pv 1) pa_nil)))))), ⟨_, rfl, _, rfl, two_join ha hb n1 n2 mk⟩⟩
theorem ok_sub {f C CT : Addr} {fd : FuncData} (F : Fun K "__sub__" "Expression.__sub__" s_Expression___sub__ f fd) (O_joined : OkR (L2.CX P w) P w K mg base 5 "_joined" (spJoin K C CT)) : FnOk P w K mg base (L2.CX P w) 6 f fd ["self", "other"] (spBin K C CT "-") := by
  refine F.okX sc_Expression___sub__ (fun vs H Q E h => ?_) (fun cdv A outer s H vs Q E hr h => ?_)
  · obtain ⟨a, b, ps, qs, rfl, _⟩ := h
    rfl
  · obtain ⟨a, b, ps, qs, rfl, ha, hb, n1, n2, mk⟩ := h
    exact ⟨_, (pss_one (ps_ret (pe_callR (fun σ => passAt (takes_of rfl rfl rfl rfl) σ) O_joined (hr.mono (by decide)) (pa_cons pe_str (pa_cons (pv 0) (pa_cons (pv 1) pa_nil)))))), ⟨_, rfl, _, rfl, two_join ha hb n1 n2 mk⟩⟩
theorem ok_mul {f C CT : Addr} {fd : FuncData} (F : Fun K "__mul__" "Expression.__mul__" s_Expression___mul__ f fd) (O_joined : OkR (L2.CX P w) P w K mg base 5 "_joined" (spJoin K C CT)) : FnOk P w K mg base (L2.CX P w) 6 f fd ["self", "other"] (spBin K C CT "*") := by
  refine F.okX sc_Expression___mul__ (fun vs H Q E h => ?_) (fun cdv A outer s H vs Q E hr h => ?_)
  · obtain ⟨a, b, ps, qs, rfl, _⟩ := h
    rfl
  · obtain ⟨a, b, ps, qs, rfl, ha, hb, n1, n2, mk⟩ := h
    exact ⟨_, (pss_one (ps_ret (pe_callR (fun σ => passAt (takes_of rfl rfl rfl rfl) σ) O_joined (hr.mono (by decide)) (pa_cons pe_str (pa_cons (pv 0) (pa_cons (pv 1) pa_nil)))))), ⟨_, rfl, _, rfl, two_join ha hb n1 n2 mk⟩⟩
theorem ok_floordiv {f C CT : Addr} {fd : FuncData} (F : Fun K "__floordiv__" "Expression.__floordiv__" s_Expression___floordiv__ f fd) (O_joined : OkR (L2.CX P w) P w K mg base 5 "_joined" (spJoin K C CT)) : FnOk P w K mg base (L2.CX P w) 6 f fd ["self", "other"] (spBin K C CT "//") := by
  refine F.okX sc_Expression___floordiv__ (fun vs H Q E h => ?_) (fun cdv A outer s H vs Q E hr h => ?_)
  · obtain ⟨a, b, ps, qs, rfl, _⟩ := h
    rfl
  · obtain ⟨a, b, ps, qs, rfl, ha, hb, n1, n2, mk⟩ := h
    exact ⟨_, (pss_one (ps_ret (pe_callR (fun σ => passAt (takes_of rfl rfl rfl rfl) σ) O_joined (hr.mono (by decide)) (pa_cons pe_str (pa_cons (pv 0) (pa_cons (pv 1) pa_nil)))))), ⟨_, rfl, _, rfl, two_join ha hb n1 n2 mk⟩⟩
theorem ok_and {f C CT : Addr} {fd : FuncData} (F : Fun K "__and__" "Expression.__and__" s_Expression___and__ f fd) (O_joined : OkR (L2.CX P w) P w K mg base 5 "_joined" (spJoin K C CT)) : FnOk P w K mg base (L2.CX P w) 6 f fd ["self", "other"] (spBin K C CT "&") := by
  refine F.okX sc_Expression___and__ (fun vs H Q E h => ?_) (fun cdv A outer s H vs Q E hr h => ?_)
  · obtain ⟨a, b, ps, qs, rfl, _⟩ := h
    rfl
  · obtain ⟨a, b, ps, qs, rfl, ha, hb, n1, n2, mk⟩ := h
    exact ⟨_, (pss_one (ps_ret (pe_callR (fun σ => passAt (takes_of rfl rfl rfl rfl) σ) O_joined (hr.mono (by decide)) (pa_cons pe_str (pa_cons (pv 0) (pa_cons (pv 1) pa_nil)))))), ⟨_, rfl, _, rfl, two_join ha hb n1 n2 mk⟩⟩
theorem ok_or {f C CT : Addr} {fd : FuncData} (F : Fun K "__or__" "Expression.__or__" s_Expression___or__ f fd) (O_joined : OkR (L2.CX P w) P w K mg base 5 "_joined" (spJoin K C CT)) : FnOk P w K mg base (L2.CX P w) 6 f fd ["self", "other"] (spBin K C CT "|") := by
  refine F.okX sc_Expression___or__ (fun vs H Q E h => ?_) (fun cdv A outer s H vs Q E hr h => ?_)
  · obtain ⟨a, b, ps, qs, rfl, _⟩ := h
    rfl
  · obtain ⟨a, b, ps, qs, rfl, ha, hb, n1, n2, mk⟩ := h
    exact ⟨_, (pss_one (ps_ret (pe_callR (fun σ => passAt (takes_of rfl rfl rfl rfl) σ) O_joined (hr.mono (by decide)) (pa_cons pe_str (pa_cons (pv 0) (pa_cons (pv 1) pa_nil)))))), ⟨_, rfl, _, rfl, two_join ha hb n1 n2 mk⟩⟩
theorem ok_xor {f C CT : Addr} {fd : FuncData} (F : Fun K "__xor__" "Expression.__xor__" s_Expression___xor__ f fd) (O_joined : OkR (L2.CX P w) P w K mg base 5 "_joined" (spJoin K C CT)) : FnOk P w K mg base (L2.CX P w) 6 f fd ["self", "other"] (spBin K C CT "^") := by
  refine F.okX sc_Expression___xor__ (fun vs H Q E h => ?_) (fun cdv A outer s H vs Q E hr h => ?_)
  · obtain ⟨a, b, ps, qs, rfl, _⟩ := h
    rfl
  · obtain ⟨a, b, ps, qs, rfl, ha, hb, n1, n2, mk⟩ := h
    exact ⟨_, (pss_one (ps_ret (pe_callR (fun σ => passAt (takes_of rfl rfl rfl rfl) σ) O_joined (hr.mono (by decide)) (pa_cons pe_str (pa_cons (pv 0) (pa_cons (pv 1) pa_nil)))))), ⟨_, rfl, _, rfl, two_join ha hb n1 n2 mk⟩⟩
theorem ok_lshift {f C CT : Addr} {fd : FuncData} (F : Fun K "__lshift__" "Expression.__lshift__" s_Expression___lshift__ f fd) (O_joined : OkR (L2.CX P w) P w K mg base 5 "_joined" (spJoin K C CT)) : FnOk P w K mg base (L2.CX P w) 6 f fd ["self", "other"] (spBin K C CT "<<") := by
  refine F.okX sc_Expression___lshift__ (fun vs H Q E h => ?_) (fun cdv A outer s H vs Q E hr h => ?_)
  · obtain ⟨a, b, ps, qs, rfl, _⟩ := h
    rfl
  · obtain ⟨a, b, ps, qs, rfl, ha, hb, n1, n2, mk⟩ := h
    exact ⟨_, (pss_one (ps_ret (pe_callR (fun σ => passAt (takes_of rfl rfl rfl rfl) σ) O_joined (hr.mono (by decide)) (pa_cons pe_str (pa_cons (pv 0) (pa_cons (pv 1) pa_nil)))))), ⟨_, rfl, _, rfl, two_join ha hb n1 n2 mk⟩⟩
theorem ok_rshift {f C CT : Addr} {fd : FuncData} (F : Fun K "__rshift__" "Expression.__rshift__" s_Expression___rshift__ f fd) (O_joined : OkR (L2.CX P w) P w K mg base 5 "_joined" (spJoin K C CT)) : FnOk P w K mg base (L2.CX P w) 6 f fd ["self", "other"] (spBin K C CT ">>") := by
  refine F.okX sc_Expression___rshift__ (fun vs H Q E h => ?_) (fun cdv A outer s H vs Q E hr h => ?_)
  · obtain ⟨a, b, ps, qs, rfl, _⟩ := h
    rfl
  · obtain ⟨a, b, ps, qs, rfl, ha, hb, n1, n2, mk⟩ := h
    exact ⟨_, (pss_one (ps_ret (pe_callR (fun σ => passAt (takes_of rfl rfl rfl rfl) σ) O_joined (hr.mono (by decide)) (pa_cons pe_str (pa_cons (pv 0) (pa_cons (pv 1) pa_nil)))))), ⟨_, rfl, _, rfl, two_join ha hb n1 n2 mk⟩⟩
theorem ok_neg {f C CT : Addr} {fd : FuncData} (F : Fun K "__neg__" "Expression.__neg__" s_Expression___neg__ f fd) (O_joined : OkR (L2.CX P w) P w K mg base 5 "_joined" (spJoin K C CT)) : FnOk P w K mg base (L2.CX P w) 6 f fd ["self"] (spUn K C CT "neg") := by
  refine F.okX sc_Expression___neg__ (fun vs H Q E h => ?_) (fun cdv A outer s H vs Q E hr h => ?_)
  · obtain ⟨a, ps, rfl, _⟩ := h
    rfl
  · obtain ⟨a, ps, rfl, ha, n1, mk⟩ := h
    exact ⟨_, (pss_one (ps_ret (pe_callR (fun σ => passAt (takes_of rfl rfl rfl rfl) σ) O_joined (hr.mono (by decide)) (pa_cons pe_str (pa_cons (pv 0) pa_nil))))), ⟨_, rfl, one_join ha n1 mk⟩⟩
theorem ok_pos {f C CT : Addr} {fd : FuncData} (F : Fun K "__pos__" "Expression.__pos__" s_Expression___pos__ f fd) (O_joined : OkR (L2.CX P w) P w K mg base 5 "_joined" (spJoin K C CT)) : FnOk P w K mg base (L2.CX P w) 6 f fd ["self"] (spUn K C CT "pos") := by
  refine F.okX sc_Expression___pos__ (fun vs H Q E h => ?_) (fun cdv A outer s H vs Q E hr h => ?_)
  · obtain ⟨a, ps, rfl, _⟩ := h
    rfl
  · obtain ⟨a, ps, rfl, ha, n1, mk⟩ := h
    exact ⟨_, (pss_one (ps_ret (pe_callR (fun σ => passAt (takes_of rfl rfl rfl rfl) σ) O_joined (hr.mono (by decide)) (pa_cons pe_str (pa_cons (pv 0) pa_nil))))), ⟨_, rfl, one_join ha n1 mk⟩⟩
theorem ok_invert {f C CT : Addr} {fd : FuncData} (F : Fun K "__invert__" "Expression.__invert__" s_Expression___invert__ f fd) (O_joined : OkR (L2.CX P w) P w K mg base 5 "_joined" (spJoin K C CT)) : FnOk P w K mg base (L2.CX P w) 6 f fd ["self"] (spUn K C CT "invert") := by
  refine F.okX sc_Expression___invert__ (fun vs H Q E h => ?_) (fun cdv A outer s H vs Q E hr h => ?_)
  · obtain ⟨a, ps, rfl, _⟩ := h
    rfl
  · obtain ⟨a, ps, rfl, ha, n1, mk⟩ := h
    exact ⟨_, (pss_one (ps_ret (pe_callR (fun σ => passAt (takes_of rfl rfl rfl rfl) σ) O_joined (hr.mono (by decide)) (pa_cons pe_str (pa_cons (pv 0) pa_nil))))), ⟨_, rfl, one_join ha n1 mk⟩⟩
theorem ok_abs {f C CT : Addr} {fd : FuncData} (F : Fun K "__abs__" "Expression.__abs__" s_Expression___abs__ f fd) (O_joined : OkR (L2.CX P w) P w K mg base 5 "_joined" (spJoin K C CT)) : FnOk P w K mg base (L2.CX P w) 6 f fd ["self"] (spUn K C CT "abs") := by
  refine F.okX sc_Expression___abs__ (fun vs H Q E h => ?_) (fun cdv A outer s H vs Q E hr h => ?_)
  · obtain ⟨a, ps, rfl, _⟩ := h
    rfl
  · obtain ⟨a, ps, rfl, ha, n1, mk⟩ := h
    exact ⟨_, (pss_one (ps_ret (pe_callR (fun σ => passAt (takes_of rfl rfl rfl rfl) σ) O_joined (hr.mono (by decide)) (pa_cons pe_str (pa_cons (pv 0) pa_nil))))), ⟨_, rfl, one_join ha n1 mk⟩⟩
/-- str -/
def spStr (K : Fg) (C : Addr) : Sp := fun vs H Q _ => ∃ (a : Addr) (ps : List Part) (z : Str) (zs : List Str), vs = [.ref a] ∧ ExAt K H C a ps ∧ ps.length ≤ 1000 ∧ ShortP ps ∧ writM ps [] = some (z :: zs) ∧ ∀ H', Same H H' → Q (.str z) H'
theorem ok_str {f C : Addr} {fd : FuncData} (F : Fun K "__str__" "Expression.__str__" s_Expression___str__ f fd) (T : Cst K mg) (hC : ExC K C) (O_written : Ok P w K mg base 2 "_written" ["parts"] (spWritten K)) : FnOk P w K mg base CX0 3 f fd ["self"] (spStr K C) := by
  refine F.ok sc_Expression___str__ (fun vs H Q E h => ?_) (fun cdv A outer s H vs Q E hr h => ?_)
  · obtain ⟨a, ps, z, zs, rfl, _⟩ := h
    rfl
  · obtain ⟨a, ps, z, zs, rfl, ⟨dx, pp, pss, ha, ⟨⟨rs, h1, h2⟩, h3⟩⟩, n1, sh, hw, k⟩ := h
    refine ⟨_, (pss_one (ps_ret (pe_callTy SkE.call_str_str (by rfl) T.n_str (by decide +kernel) (pa_cons (pe_callO O_written (hr.mono (by decide)) (pa_cons (pe_fld (pv 0) rfl) pa_nil)) pa_nil)))), ?_⟩
    exact ⟨_, rfl, a, C, dx, _, _, rfl, ha, hC.cls, hC.no _ (by simp), ex_parts, pp, rs, ps, z, zs, rfl, h1, h2, n1, sh, hw, fun H' s => ⟨_, rfl, k H' s⟩⟩
end
end K36

namespace K36
open PySem PySem.Spec PyProof.Rows L2 EV
/-! ### the bag of draws -/
/-- what stays of a heap in which the list at b is written -/
def Keep (b : Addr) (H H' : Hp) : Prop := ∀ a u, a ≠ b → H a = some u → H' a = some u
theorem Keep.refl {b : Addr} (H : Hp) : Keep b H H := fun _ _ _ h => h
theorem Keep.trans {b : Addr} {H H1 H2 : Hp} (h : Keep b H H1) (h' : Keep b H1 H2) : Keep b H H2 := fun a u n z => h' a u n (h a u n z)
theorem Keep.of {b : Addr} {H H' : Hp} (s : Same H H') : Keep b H H' := fun a u _ z => s a u z
theorem Keep.upd {b : Addr} {H : Hp} {o : HO} : Keep b H (upd H b o) := fun a u n z => by rw [upd_ne n]; exact z
theorem keep_new {b p : Addr} {H G : Hp} {o : HO} (k : Keep b H G) (np : H p = none) : Keep b H (L2.upd G p o) := fun a u n z => by
  rw [upd_ne (ne_of_none z np)]
  exact k a u n z
/-- the bag at b: digits and a mixed number -/
def BagAt (H : Hp) (b : Addr) : Prop := ∃ d m : Int, H b = some (.lst [.int d, .int m]) ∧ 0 ≤ d ∧ 0 ≤ m ∧ m < 4294967296
theorem BagAt.same {H H' : Hp} {b : Addr} (h : BagAt H b) (s : Same H H') : BagAt H' b := by
  obtain ⟨d, q, h1, h2⟩ := h
  exact ⟨d, q, s _ _ h1, h2⟩
theorem BagAt.ne {H : Hp} {b a : Addr} (h : BagAt H b) (n : H a = none) : a ≠ b := fun e => by
  obtain ⟨_, _, y, _⟩ := h
  rw [e, y] at n
  cases n
theorem BagAt.upd {H : Hp} {b p : Addr} {o : HO} (h : BagAt H b) (n : p ≠ b) : BagAt (L2.upd H p o) b := by
  obtain ⟨d, q, h1, h2⟩ := h
  exact ⟨d, q, (upd_ne (Ne.symm n)).trans h1, h2⟩
def spTake : Sp := fun vs H Q _ => ∃ (b : Addr) (many : Int), vs = [.ref b, .int many] ∧ BagAt H b ∧ 0 < many ∧ many.natAbs < 2 ^ 200 ∧
  ∀ (r : Int) (H' : Hp), 0 ≤ r → r < many → Keep b H H' → BagAt H' b → Q (.int r) H'
section
variable {P : Program} {w : World} {K : Fg} {mg : Str → Option Value} {base : Heap}
theorem ok_law_take {f : Addr} {fd : FuncData} (F : Fun K "_law_take" "_law_take" s_law_take f fd) (T : Txt K mg) : FnOk P w K mg base CX0 1 f fd ["bag", "many"] spTake := by
  refine F.ok sc_law_take (fun vs H Q E h => ?_) (fun cdv A outer s H vs Q E hr h => ?_)
  · obtain ⟨b, many, rfl, _⟩ := h
    rfl
  · obtain ⟨b, many, rfl, ⟨d, m, hb, d0, m0, m1⟩, h0, h200, k⟩ := h
    refine ⟨_, (pss_cons (ps_if (pt_cmpR op_gt (pe_ix ix_list (pv 0) pe_int (fun _ _ => rfl)) pe_int (nomark _)) (pss_cons (ps_set (i := 2) sc_law_take.nd rfl (Or.inl rfl) (pe_op op_mod (pe_callTy call_int1 (by rfl) T.n_int (by decide +kernel) (pa_cons (pe_ix ix_list (pv 0) pe_int (fun _ _ => rfl)) pa_nil)) (pv 1)))
    (pss_cons (ps_asg (pe_op op_fdivW (pe_ix ix_list (pv 0) pe_int (fun _ _ => rfl)) (pv 1)) (pg_sub (pv 0) pe_int set_list))
    (pss_one (ps_ret (pv 2))))) pss_nil)
    (pss_cons (ps_asg (pe_op op_mod (pe_callTy call_int1 (by rfl) T.n_int (by decide +kernel) (pa_cons (pe_op op_add (pe_op op_mul (pe_ix ix_list (pv 0) pe_int (fun _ _ => rfl)) pe_int) pe_int) pa_nil)) pe_int) (pg_sub (pv 0) pe_int set_list))
    (pss_one (ps_ret (pe_op op_mod (pe_op op_fdiv (pe_op op_mod (pe_callTy call_int1 (by rfl) T.n_int (by decide +kernel) (pa_cons (pe_op op_mul (pe_op op_fdiv (pe_ix ix_list (pv 0) pe_int (fun _ _ => rfl)) pe_int) pe_int) pa_nil)) pe_int) pe_int) (pv 1)))))), ?_⟩
    refine ⟨_, rfl, b, _, 0, _, rfl, rfl, SqL.of hb, rfl, _, _, rfl, rfl, _, rfl, ?_⟩
    refine ite2 (fun hd => ?_) (fun hd => ?_)
    · have hd' : 0 < d := of_decide_eq_true hd
      refine ⟨_, rfl, b, _, 0, _, rfl, rfl, SqL.of hb, rfl, .inl ⟨_, rfl, _, rfl, _, _, rfl, rfl, h0, ?_⟩⟩
      refine ⟨_, rfl, b, _, 0, _, rfl, rfl, SqL.of hb, rfl, _, rfl, _, _, rfl, rfl, wide_div h0 h200 (by decide) (by decide), ?_⟩
      refine ⟨_, rfl, b, _, 0, 0, rfl, rfl, hb, rfl, ?_⟩
      refine ⟨_, rfl, k _ _ (Int.emod_nonneg _ (by omega)) (Int.emod_lt_of_pos _ h0) Keep.upd ⟨d / many, m, upd_same, Int.ediv_nonneg d0 (by omega), m0, m1⟩⟩
    · refine ⟨_, rfl, b, _, 1, _, rfl, rfl, SqL.of hb, rfl, _, _, rfl, rfl, .inl ⟨by omega, by omega⟩, _, _, rfl, rfl, .inl ⟨_, rfl, _, _, rfl, rfl, by show (0 : Int) < 2147483647; decide, ?_⟩⟩
      refine ⟨_, rfl, b, _, 1, 1, rfl, rfl, hb, rfl, ?_⟩
      have z0 := Int.emod_nonneg (m * 45991 + 70001) (show (2147483647 : Int) ≠ 0 by decide)
      have z1 := Int.emod_lt_of_pos (m * 45991 + 70001) (show (0 : Int) < 2147483647 by decide)
      have hb1 : upd H b (.lst ([V.int d, .int m].set 1 (.int ((m * 45991 + 70001) % 2147483647)))) b = some (.lst [.int d, .int ((m * 45991 + 70001) % 2147483647)]) := upd_same
      refine ⟨_, rfl, b, _, 1, _, rfl, rfl, SqL.of hb1, rfl, _, _, rfl, rfl, ⟨by decide, by decide⟩, _, _, rfl, rfl, .inl ⟨by omega, by omega⟩,
        .inl ⟨_, rfl, _, _, rfl, rfl, by show (0 : Int) < 2147483579; decide, _, _, rfl, rfl, ⟨by decide, by decide⟩, _, rfl, _, _, rfl, rfl, h0, ?_⟩⟩
      exact k _ _ (Int.emod_nonneg _ (by omega)) (Int.emod_lt_of_pos _ h0) Keep.upd ⟨d, _, upd_same, d0, z0, by omega⟩
def spBag (K : Fg) : Sp := fun vs H Q _ => ∃ (a : Addr) (ns : List Int) (i : Nat), vs = [.ref a, .int (i : Nat)] ∧ SqL K H a (ns.map V.int) ∧ i ≤ 63 ∧ ∀ (b : Addr) (H' : Hp), H b = none → Same H H' → BagAt H' b → Q (.ref b) H'
theorem cut_take (xs : List V) (k : Nat) : cutV xs none (some (k : Int)) = xs.take k := by
  unfold cutV
  rw [HT.sIx_nat, HT.sIx_none, List.drop_zero, Nat.sub_zero]
  rcases Nat.lt_or_ge xs.length k with h | h
  · rw [Nat.min_eq_right (Nat.le_of_lt h), List.take_of_length_le (Nat.le_refl _), List.take_of_length_le (Nat.le_of_lt h)]
  · rw [Nat.min_eq_left h]
theorem at_ints {ns : List Int} {i : Nat} (h : i < ns.length) : ∃ z, atI (ns.map V.int) (i : Int) = some (V.int z) := ⟨ns[i], atI_nat (by rw [List.getElem?_map, List.getElem?_eq_getElem h]; rfl)⟩
theorem ok_law_bag {f : Addr} {fd : FuncData} (F : Fun K "_law_bag" "_law_bag" s_law_bag f fd) (T : Txt K mg) : FnOk P w K mg base CX0 1 f fd ["script", "at"] (spBag K) := by
  refine F.ok sc_law_bag (fun vs H Q E h => ?_) (fun cdv A outer s H vs Q E hr h => ?_)
  · obtain ⟨a, ns, i, rfl, _⟩ := h
    rfl
  · obtain ⟨a, ns, i, rfl, hS, i3, k⟩ := h
    refine ⟨_, (pss_cons (ps_set (i := 2) sc_law_bag.nd rfl (Or.inl rfl) (pe_mid (pe_ifExp (pt_cmpR op_lt (pv 1) (pe_callB call_len_seq (by rfl) T.n_len (by decide +kernel) (pa_cons (pv 0) pa_nil)) (nomark _)) (pe_ix ix_list (pv 0) (pv 1) (fun _ _ => rfl)) pe_int)))
    (pss_cons (ps_set (i := 3) sc_law_bag.nd rfl (Or.inl rfl) (pe_op op_add (pe_op op_mul pe_int (pv 1)) pe_int))
    (pss_cons (ps_for PassesOwn.never rfl (pi_enum (by rfl) T.n_enumerate (pa_cons (pe_slice sl_list (pv 0) po_none (po_some pe_int)) pa_nil)) (pg_tup rfl (pgs_cons (pg_name (i := 4) sc_law_bag.nd rfl (Or.inl rfl)) (pgs_cons (pg_name (i := 5) sc_law_bag.nd rfl (Or.inl rfl)) pgs_nil))) (pss_one (ps_set (i := 3) sc_law_bag.nd rfl (Or.inl rfl) (pe_op op_mod (pe_callTy call_int1 (by rfl) T.n_int (by decide +kernel) (pa_cons (pe_op op_add (pe_op op_add (pe_op op_mul (pv 3) pe_int) (pe_op op_mod (pe_callTy call_int1 (by rfl) T.n_int (by decide +kernel) (pa_cons (pv 5) pa_nil)) pe_int)) (pe_op op_mul pe_int (pv 4))) pa_nil)) pe_int))))
    (pss_one (ps_ret (pe_lst (pa_cons (pe_mid (pe_ifExp (pt_cmpR op_ge (pe_callB call_abs (by rfl) T.n_abs (by decide +kernel) (pa_cons (pv 2) pa_nil)) (pe_op op_pow pe_int pe_int) (nomark _)) (pe_callB call_abs (by rfl) T.n_abs (by decide +kernel) (pa_cons (pv 2) pa_nil)) pe_int)) (pa_cons (pv 3) pa_nil)))))))), ?_⟩
    refine ⟨fun v H1 => (∃ z : Int, v = .int z) ∧ H = H1, ⟨_, rfl, _, rfl, a, _, rfl, .inl hS, _, _, rfl, rfl, _, rfl, ite2 (fun hd => ?_) (fun hd => ⟨⟨_, rfl⟩, rfl⟩)⟩, ?_⟩
    · have hd' := of_decide_eq_true hd
      rw [List.length_map] at hd'
      obtain ⟨z, hz⟩ := at_ints (ns := ns) (i := i) (by omega)
      exact ⟨_, rfl, _, rfl, a, _, _, _, rfl, rfl, hS, hz, ⟨z, rfl⟩, rfl⟩
    · rintro _ _ ⟨⟨z, rfl⟩, rfl⟩
      refine ⟨_, rfl, _, _, rfl, rfl, .inl ⟨by decide, by decide⟩, _, _, rfl, rfl, ?_⟩
      refine ⟨_, rfl, 63, rfl, a, _, rfl, hS, fun c nc => ?_⟩
      have ec : upd H c (.lst (cutV (ns.map V.int) none (some 63))) c = some (.lst ((ns.take 63).map V.int)) := by
        rw [upd_same, show cutV (ns.map V.int) none (some 63) = (ns.map V.int).take 63 from cut_take _ 63, ← List.map_take]
      have s1 : Same H (upd H c (.lst (cutV (ns.map V.int) none (some 63)))) := same_upd nc
      generalize upd H c (.lst (cutV (ns.map V.int) none (some 63))) = G at ec s1
      refine ⟨c, _, rfl, SqL.of ec, for_it walk_enum (fun j σ G' => ∃ (mm : Int) (u1 u2 : Option V), σ = [some (.ref a), some (.int (i : Nat)), some (.int z), some (.int mm), u1, u2] ∧ 0 ≤ mm ∧ mm < 4294967296 ∧ Same G G')
        ⟨_, none, none, rfl, by omega, by omega, Same.refl _⟩ (fun j σ G' _ q => by
          obtain ⟨_, _, _, _, _, _, s⟩ := q
          exact SqL.of (s _ _ ec)) ?_ ?_⟩
      · rintro j x σ G1 G2 hj ⟨mm, u1, u2, rfl, m0, m1, s2⟩ ⟨T', kx, y, rfl, nT, rfl, ek, ey⟩
        have ek' : V.int ((j : Nat) : Int) = kx := by injection ek
        subst ek'
        obtain ⟨e, rfl⟩ : ∃ e, V.int e = y := by
          have ey' : ((ns.take 63).map V.int)[j]? = some y := ey
          rw [List.getElem?_map] at ey'
          cases q : (ns.take 63)[j]? with
          | none => rw [q] at ey'; cases ey'
          | some e => rw [q] at ey'; exact ⟨e, by injection ey'⟩
        refine ⟨T', _, rfl, SqT.of upd_same, rfl, _, _, rfl, _, _, rfl, rfl, _, rfl, _, _, rfl, rfl, .inl ⟨by omega, by omega⟩, _, rfl, .inl ⟨_, rfl, _, _, rfl, rfl, by show (0 : Int) < 2147483399; decide, _, _, rfl, rfl, _, rfl, _, _, rfl, rfl, .inl ⟨by decide, by decide⟩, _, _, rfl, rfl,
          .inl ⟨_, rfl, _, _, rfl, rfl, by show (0 : Int) < 2147483563; decide, _, _, _, rfl, Int.emod_nonneg _ (by decide), ?_, s2.trans (same_upd nT)⟩⟩⟩
        have := Int.emod_lt_of_pos (mm * 40692 + e % 2147483399 + 577 * ((j : Nat) : Int)) (show (0 : Int) < 2147483563 by decide)
        omega
      · rintro σ G1 ⟨mm, u1, u2, rfl, m0, m1, s2⟩
        have z0 : 0 ≤ (if z < 0 then -z else z) := by split <;> omega
        refine ⟨fun v G' => (∃ d : Int, v = .int d ∧ 0 ≤ d) ∧ G1 = G', ⟨_, rfl, _, rfl, _, _, rfl, rfl, ⟨by decide, by decide, by decide⟩, _, _, rfl, rfl, _, rfl, ite2 (fun hd => ⟨_, rfl, _, rfl, ⟨_, rfl, z0⟩, rfl⟩) (fun hd => ⟨⟨_, rfl, by decide⟩, rfl⟩)⟩, ?_⟩
        rintro _ _ ⟨⟨d, rfl, d0⟩, rfl⟩
        refine ⟨_, rfl, by show 2 ≤ sizeLine; decide, fun b nb => ?_⟩
        exact k b _ (s1.free (s2.free nb)) ((s1.trans s2).trans (same_upd nb)) ⟨_, _, upd_same, d0, m0, m1⟩
def spOf : Sp := fun vs H Q _ => ∃ (b l : Addr) (xs : List V), vs = [.ref b, .ref l] ∧ BagAt H b ∧ H l = some (.lst xs) ∧ l ≠ b ∧ 0 < xs.length ∧ xs.length ≤ 1000 ∧ ∀ (x : V) (H' : Hp), x ∈ xs → Keep b H H' → BagAt H' b → Q x H'
theorem small200 {z : Int} (h0 : 0 ≤ z) (h : z ≤ 1000000) : z.natAbs < 2 ^ 200 := Nat.lt_of_le_of_lt (show z.natAbs ≤ 1000000 by omega) (by decide)
end
end K36

namespace K36
open PySem PySem.Spec PyProof.Rows L2 EV
section
variable {P : Program} {w : World} {K : Fg} {mg : Str → Option Value} {base : Heap}
theorem ok_law_of {f : Addr} {fd : FuncData} (F : Fun K "_law_of" "_law_of" s_law_of f fd) (T : Cst K mg) (O_law_take : Ok P w K mg base 1 "_law_take" ["bag", "many"] spTake) :
    FnOk P w K mg base CX0 2 f fd ["bag", "some"] spOf := by
  refine F.ok sc_law_of (fun vs H Q E h => ?_) (fun cdv A outer s H vs Q E hr h => ?_)
  · obtain ⟨b, l, xs, rfl, _⟩ := h
    rfl
  · obtain ⟨b, l, xs, rfl, B, hl, lb, p0, p1, k⟩ := h
    refine ⟨_, (pss_one (ps_ret (pe_ix ix_list (pv 1) (pe_callO O_law_take (hr.mono (by decide)) (pa_cons (pv 0) (pa_cons (pe_callB call_len_seq (by rfl) T.n_len (by decide +kernel) (pa_cons (pv 1) pa_nil)) pa_nil))) (fun _ _ => rfl)))), ?_⟩
    refine ⟨_, rfl, _, rfl, _, rfl, l, xs, rfl, .inl (SqL.of hl), ?_⟩
    refine ⟨b, _, rfl, B, by omega, small200 (by omega) (by omega), fun r H' r0 r1 kp B' => ?_⟩
    obtain ⟨j, rfl⟩ := Int.eq_ofNat_of_zero_le r0
    have hj : j < xs.length := by omega
    exact ⟨l, xs, _, xs[j], rfl, rfl, SqL.of (kp _ _ lb hl), atI_nat (List.getElem?_eq_getElem hj), k _ _ (List.getElem_mem hj) kp B'⟩

end
end K36

/-! expressions that are cut or bent at one place are refused there -/
namespace TR
open PySem PySem.Spec PyProof.Rows L2 EV TL LM PM
/-- no letter of any expression -/
def strangeB (c : Nat) : Bool := !((decide (97 ≤ c) && decide (c ≤ 122)) || (decide (65 ≤ c) && decide (c ≤ 90)) || ([40, 41, 46, 58, 32, 43, 45, 42, 47, 38, 124, 94, 60, 62] : List Nat).contains c)
/-- t' goes as t up to k, and there it ends or has a strange letter -/
structure CutAt (t t' : Str) (k : Nat) : Prop where
  le : k ≤ t.length
  eq : (tl t').take k = (tl t).take k
  bad : ∀ c, (tl t')[k]? = some c → strangeB c = true
section
variable {t t' : Str} {k : Nat}
theorem CutAt.le' (h : CutAt t t' k) : k ≤ t'.length := by
  have := congrArg List.length h.eq
  rw [List.length_take, List.length_take, ← len_tl, ← len_tl, Nat.min_eq_left h.le] at this
  omega
theorem CutAt.get (h : CutAt t t' k) {i : Nat} (hi : i < k) : (tl t')[i]? = (tl t)[i]? := by
  have := congrArg (fun l => l[i]?) h.eq
  simp only [List.getElem?_take, if_pos hi] at this
  exact this
theorem CutAt.no (h : CutAt t t' k) {c : Nat} (hc : strangeB c = false) : (tl t')[k]? ≠ some c := fun e => by
  rw [h.bad c e] at hc
  cases hc
theorem CutAt.nob (h : CutAt t t' k) {lo hi : Nat} (hc : ∀ c, lo ≤ c → c ≤ hi → strangeB c = false) : betw lo hi t' k = false := by
  unfold betw
  cases e : (tl t')[k]? with
  | none => rfl
  | some c =>
    show (decide (lo ≤ c) && decide (c ≤ hi)) = false
    have hb := h.bad c e
    by_cases h1 : lo ≤ c
    · by_cases h2 : c ≤ hi
      · rw [hc c h1 h2] at hb
        cases hb
      · simp [h2]
    · simp [h1]
theorem small_str : ∀ c, 97 ≤ c → c ≤ 122 → strangeB c = false := fun c h1 h2 => by
  unfold strangeB
  simp [h1, h2]
theorem cap_str : ∀ c, 65 ≤ c → c ≤ 90 → strangeB c = false := fun c h1 h2 => by
  unfold strangeB
  simp [h1, h2]
theorem CutAt.betw (h : CutAt t t' k) {lo hi i : Nat} (hi' : i < k) : betw lo hi t' i = betw lo hi t i := by
  unfold PM.betw
  rw [h.get hi']
theorem CutAt.small (h : CutAt t t' k) : ∀ (n i : Nat), i ≤ k → smallN t' i n = min (smallN t i n) (k - i)
  | 0, i, hi => by rw [small_stop (.inr rfl), small_stop (.inr rfl)]; omega
  | n + 1, i, hi => by
    rcases Nat.lt_or_ge i k with z | z
    · cases e : PM.betw 97 122 t i with
      | true =>
        rw [small_step (t := t) e (Nat.succ_pos n), small_step (t := t') (by rw [h.betw z]; exact e) (Nat.succ_pos n), show n.succ - 1 = n from rfl, h.small n (i + 1) z]
        omega
      | false =>
        rw [small_stop (t := t) (.inl e), small_stop (t := t') (.inl (by rw [h.betw z]; exact e))]
        omega
    · obtain rfl : i = k := by omega
      rw [small_stop (t := t') (.inl (h.nob small_str))]
      omega
theorem CutAt.sub (h : CutAt t t' k) {i n : Nat} (hi : i + n ≤ k) : subT t' i n = subT t i n := by
  have e : ∀ l : List Nat, (l.drop i).take n = ((l.take k).drop i).take n := fun l => by
    rw [List.drop_take, List.take_take, Nat.min_eq_left (by omega)]
  unfold subT
  rw [e (tl t'), e (tl t), h.eq]
/-- an operand's start, cut -/
theorem CutAt.start (h : CutAt t t' k) {i o j : Nat} {r : Str ⊕ Part} (hi : i ≤ k) (hs : startM t i o = .ok (j, r)) :
    startM t' i o = .error k ∨ (i < k ∧ (∃ p, startM t' i o = .ok (k, .inr p)) ∧ ∃ q, r = .inr q) ∨ (startM t' i o = .ok (j, r) ∧ j ≤ k) := by
  rcases Nat.lt_or_ge i k with z | z
  · have g0 := h.get z
    unfold startM at hs ⊢
    rw [g0]
    split at hs
    · rename_i e
      rw [if_pos e]
      split at hs
      · cases hs
      · rename_i ho
        rw [if_neg ho]
        injection hs with hs
        injection hs with h1 h2
        subst h1 h2
        exact .inr (.inr ⟨rfl, z⟩)
    · rename_i e
      rw [if_neg e, h.betw z]
      split at hs
      · rename_i hb
        rw [if_pos hb]
        have a1 := h.small 7 (i + 1) z
        generalize ea : smallN t (i + 1) 7 = a at hs a1
        split at hs
        · rename_i e46
          have a2 := h.small 8 (i + (a + 1) + 1)
          split at hs
          · cases hs
          · rename_i hb0
            split at hs
            · cases hs
            · rename_i hun
              injection hs with hs
              injection hs with h1 h2
              rcases Nat.lt_or_ge (i + (a + 1)) k with y | y
              · have ea' : smallN t' (i + 1) 7 = a := by omega
                have a2 := a2 y
                rw [ea', h.get y, if_pos e46]
                generalize eb : smallN t (i + (a + 1) + 1) 8 = b at *
                rcases Nat.lt_or_ge k (i + (a + 1) + 1 + b) with x | x
                · have eb' : smallN t' (i + (a + 1) + 1) 8 = k - (i + (a + 1) + 1) := by omega
                  rw [eb']
                  by_cases q : k - (i + (a + 1) + 1) = 0
                  · rw [if_pos q]
                    exact .inl (by rw [show i + (a + 1) + 1 = k by omega])
                  · rw [if_neg q]
                    split
                    · exact .inl (by rw [show i + (a + 1) + 1 + (k - (i + (a + 1) + 1)) = k by omega])
                    · exact .inr (.inl ⟨z, ⟨_, by rw [show i + (a + 1) + 1 + (k - (i + (a + 1) + 1)) = k by omega]⟩, _, h2.symm⟩)
                · have eb' : smallN t' (i + (a + 1) + 1) 8 = b := by omega
                  rw [eb', if_neg hb0, h.sub (by omega), if_neg hun, h.sub (by omega)]
                  subst h1 h2
                  exact .inr (.inr ⟨rfl, x⟩)
              · have ea' : i + (smallN t' (i + 1) 7 + 1) = k := by omega
                rw [ea', if_neg (h.no (by decide))]
                exact .inl rfl
        · cases hs
      · rename_i hb
        rw [if_neg hb]
        have a1 := h.small 8 i (Nat.le_of_lt z)
        generalize ea : smallN t i 8 = s at hs a1
        split at hs
        · cases hs
        · rename_i hs0
          rw [if_neg (show ¬ smallN t' i 8 = 0 by omega)]
          split at hs
          · rename_i e40
            split at hs
            · cases hs
            · rename_i ho
              injection hs with hs
              injection hs with h1 h2
              rcases Nat.lt_or_ge (i + s) k with y | y
              · have ea' : smallN t' i 8 = s := by omega
                rw [ea', h.get y, h.sub (by omega), if_pos e40, if_neg ho]
                subst h1 h2
                exact .inr (.inr ⟨rfl, y⟩)
              · have ea' : i + smallN t' i 8 = k := by omega
                rw [ea', if_neg (fun q => h.no (by decide) q.1), if_neg (h.no (by decide))]
                exact .inl rfl
          · rename_i e40
            split at hs
            · rename_i e58
              split at hs
              · rename_i hb2
                injection hs with hs
                injection hs with h1 h2
                rcases Nat.lt_or_ge (i + s) k with y | y
                · have ea' : smallN t' i 8 = s := by omega
                  rw [ea', h.get y, if_neg (fun q => by rw [e58] at q; exact absurd (Option.some.inj q.1) (by decide)), if_pos e58]
                  rcases Nat.lt_or_ge (i + s + 1) k with x | x
                  · rw [h.betw x, if_pos hb2]
                    have a3 := h.small 7 (i + s + 1 + 1) x
                    generalize ec : smallN t (i + s + 1 + 1) 7 = c at *
                    rcases Nat.lt_or_ge k (i + s + 1 + (c + 1)) with v | v
                    · have ec' : i + s + 1 + (smallN t' (i + s + 1 + 1) 7 + 1) = k := by omega
                      rw [ec']
                      exact .inr (.inl ⟨z, ⟨_, rfl⟩, _, h2.symm⟩)
                    · have ec' : smallN t' (i + s + 1 + 1) 7 = c := by omega
                      rw [ec', h.sub (by omega), h.sub (by omega)]
                      subst h1 h2
                      exact .inr (.inr ⟨rfl, v⟩)
                  · have ek : i + s + 1 = k := by omega
                    rw [ek, if_neg (by rw [h.nob cap_str]; exact Bool.false_ne_true)]
                    exact .inl rfl
                · have ea' : i + smallN t' i 8 = k := by omega
                  rw [ea', if_neg (fun q => h.no (by decide) q.1), if_neg (h.no (by decide))]
                  exact .inl rfl
              · cases hs
            · cases hs
  · obtain rfl : i = k := by omega
    refine .inl ?_
    unfold startM
    rw [if_neg (h.no (by decide)), if_neg (by rw [h.nob cap_str]; exact Bool.false_ne_true), if_pos (small_stop (.inl (h.nob small_str)))]
theorem CutAt.lits (h : CutAt t t' k) : ∀ {cs : List Nat} {i j : Nat}, i ≤ k → (∀ c ∈ cs, strangeB c = false) → litsM t cs i = .ok j → litsM t' cs i = .error k ∨ (litsM t' cs i = .ok j ∧ j ≤ k)
  | [], i, j, hi, _, e => by
    injection e with e
    subst e
    exact .inr ⟨rfl, hi⟩
  | c :: cs, i, j, hi, hc, e => by
    unfold litsM at e ⊢
    split at e
    · rename_i e1
      rcases Nat.lt_or_ge i k with z | z
      · rw [h.get z, if_pos e1]
        exact h.lits z (fun x hx => hc x (List.mem_cons_of_mem _ hx)) e
      · obtain rfl : i = k := by omega
        rw [if_neg (h.no (hc c List.mem_cons_self))]
        exact .inl rfl
    · cases e
theorem bin_letters : ∀ s ∈ binary, (tl s).all (fun c => !strangeB c) = true ∧ ((tl s)[0]?).any (fun c => decide (letAt s 0 = ⟨#[c]⟩)) = true := by decide +kernel
theorem let_inj {a b : Nat} (h : (⟨#[a]⟩ : Str) = ⟨#[b]⟩) : a = b := by
  injection h with h
  have := congrArg Array.toList h
  injection this
theorem CutAt.sign (h : CutAt t t' k) {i j : Nat} {s : Str} (hi : i ≤ k) (hs : signM t i = .ok (j, s)) : signM t' i = .error k ∨ (signM t' i = .ok (j, s) ∧ j ≤ k) := by
  rcases Nat.lt_or_ge i k with z | z
  · have g0 := h.get z
    unfold signM at hs ⊢
    rw [g0]
    split at hs
    · rename_i e
      rw [if_pos e]
      split at hs
      · cases hs
      · rename_i s' es
        split at hs
        · cases hs
        · rename_i j0 el
          split at hs
          · rename_i e32
            injection hs with hs
            injection hs with h1 h2
            subst h1 h2
            have hb := List.mem_of_find?_eq_some es
            obtain ⟨hl1, hl2⟩ := bin_letters s' hb
            rcases Nat.lt_or_ge (i + 1) k with y | y
            · have el' : letAt t' (i + 1) = letAt t (i + 1) := by
                have e : ∀ l : List Nat, (l.drop (i + 1)).take 1 = ((l.take k).drop (i + 1)).take 1 := fun l => by
                  rw [List.drop_take, List.take_take, Nat.min_eq_left (by omega)]
                unfold letAt
                rw [e (tl t'), e (tl t), h.eq]
              rw [el', es]
              dsimp only
              rcases h.lits (Nat.le_of_lt y) (fun c hc => by have := List.all_eq_true.mp hl1 c hc; simpa using this) el with q | ⟨q, q2⟩
              · rw [q]
                exact .inl rfl
              · rw [q]
                dsimp only
                rcases Nat.lt_or_ge j0 k with x | x
                · rw [h.get x, if_pos e32]
                  exact .inr ⟨rfl, x⟩
                · obtain rfl : j0 = k := by omega
                  rw [if_neg (h.no (by decide))]
                  exact .inl rfl
            · obtain rfl : i + 1 = k := by omega
              have none : binary.find? (fun x => decide (letAt x 0 = letAt t' (i + 1))) = none := by
                rw [List.find?_eq_none]
                intro x hx q
                have q := of_decide_eq_true q
                obtain ⟨m1, m2⟩ := bin_letters x hx
                cases e0 : (tl x)[0]? with
                | none => rw [e0] at m2; cases m2
                | some c =>
                  rw [e0] at m2
                  have m2 : letAt x 0 = ⟨#[c]⟩ := of_decide_eq_true m2
                  have nc : strangeB c = false := by
                    have := List.all_eq_true.mp m1 c (List.mem_of_getElem? e0)
                    simpa using this
                  cases e1 : (tl t')[i + 1]? with
                  | none =>
                    have le : letAt t' (i + 1) = ⟨#[]⟩ := by
                      unfold letAt
                      rw [List.drop_of_length_le (List.getElem?_eq_none_iff.mp e1), List.take_nil]
                    rw [m2, le] at q
                    injection q with q
                    have := congrArg Array.size q
                    cases this
                  | some d =>
                    rw [m2, let_at e1] at q
                    have := let_inj q
                    subst this
                    exact h.no nc e1
              rw [none]
              exact .inl rfl
          · cases hs
    · cases hs
  · obtain rfl : i = k := by omega
    refine .inl ?_
    unfold signM
    rw [if_neg (h.no (by decide))]
/-- nothing goes on at k -/
theorem CutAt.stuck (h : CutAt t t' k) {m : Nat} {us : List Str} {s : Str} {fd : List Part} : loopM t' (m + 1) k false (us ++ [s]) fd = .error k := by
  rw [loop_f]
  by_cases e : s = "("
  · rw [if_pos e]
    have : signM t' k = .error k := by
      unfold signM
      rw [if_neg (h.no (by decide))]
    rw [this]
  · rw [if_neg e, if_neg (h.no (by decide))]
theorem CutAt.loop (h : CutAt t t' k) (hk : k = t.length → k < t'.length) : ∀ (m m2 i : Nat) (op : Bool) (w : List Str) (fd res : List Part), loopM t m2 i op w fd = .ok res → i ≤ k → t'.length + 1 ≤ m + i → (op = true → w ≠ [] ∨ ∃ j s, startM t i 0 = .ok (j, .inl s)) → loopM t' m i op w fd = .error k
  | 0, m2, i, op, w, fd, res, _, hi, hm, _ => by
    have := h.le'
    omega
  | m + 1, 0, i, op, w, fd, res, e, hi, hm, hw => by
    have e : Except.error i = Except.ok res := e
    cases e
  | m + 1, m2 + 1, i, true, w, fd, res, e, hi, hm, hw => by
    have hl := h.le'
    cases es : startM t i w.length with
    | error q => rw [loop_s1 es] at e; cases e
    | ok x =>
      obtain ⟨j, r⟩ := x
      have lij := (start_le (Nat.le_trans hi h.le) es).1
      rcases h.start hi es with q | ⟨q0, ⟨p, q⟩, ⟨q', rfl⟩⟩ | ⟨q, q2⟩
      · exact loop_s1 q
      · rw [loop_s3 q]
        rcases List.eq_nil_or_concat w with rfl | ⟨us, s, rfl⟩
        · rcases hw rfl with y | ⟨j', s', y⟩
          · exact absurd rfl y
          · rw [show startM t i 0 = startM t i ([] : List Str).length from rfl, es] at y
            injection y with y
            injection y with _ y
            cases y
        · rw [List.concat_eq_append]
          obtain ⟨m', rfl⟩ : ∃ m', m = m' + 1 := ⟨m - 1, by omega⟩
          exact h.stuck
      · cases r with
        | inl s =>
          rw [loop_s2 es] at e
          rw [loop_s2 q]
          exact h.loop hk m m2 j true _ fd res e q2 (by omega) fun _ => .inl (by simp)
        | inr p =>
          rw [loop_s3 es] at e
          rw [loop_s3 q]
          exact h.loop hk m m2 j false w _ res e q2 (by omega) fun z => by cases z
  | m + 1, m2 + 1, i, false, w, fd, res, e, hi, hm, hw => by
    have hl := h.le'
    rcases List.eq_nil_or_concat w with rfl | ⟨us, s, rfl⟩
    · rw [loop_end] at e ⊢
      split at e
      · cases e
      · rename_i q
        have := h.le
        obtain rfl : i = k := by omega
        rw [if_pos (hk (by omega))]
    · rw [List.concat_eq_append] at e ⊢
      rw [loop_f] at e ⊢
      by_cases ep : s = "("
      · rw [if_pos ep] at e ⊢
        cases es : signM t i with
        | error q => rw [es] at e; cases e
        | ok x =>
          obtain ⟨j, s'⟩ := x
          rw [es] at e
          have lij := (sign_le es).1
          rcases h.sign hi es with q | ⟨q, q2⟩
          · rw [q]
          · rw [q]
            exact h.loop hk m m2 j true _ fd res e q2 (by omega) fun _ => .inl (by simp)
      · rw [if_neg ep] at e ⊢
        split at e
        · rename_i e41
          rcases Nat.lt_or_ge i k with z | z
          · rw [h.get z, if_pos e41]
            exact h.loop hk m m2 (i + 1) false us _ res e z (by omega) fun q => by cases q
          · obtain rfl : i = k := by omega
            rw [if_neg (h.no (by decide))]
        · cases e
end
/-- a text in brackets that is cut or bent at k is refused at k -/
theorem cut_parse {t t' : Str} {k : Nat} (h : CutAt t t' k) (hk : k = t.length → k < t'.length) {res : List Part} (hp : parseM t = .ok res) (ho : ∃ j s, startM t 0 0 = .ok (j, .inl s)) : parseM t' = .error k :=
  h.loop hk _ _ 0 true [] [] res hp (Nat.zero_le _) (by omega) fun _ => .inr ho
end TR

/-! expressions in brackets, cut, bent and followed -/
namespace TR
open PySem PySem.Spec PyProof.Rows L2 EV TL LM PM
def Tre.top : Tre → Prop
  | .un _ _ => True
  | .bin _ _ _ => True
  | .leaf _ _ => False
  | .ask _ _ => False
theorem at_zero {T : Tre} : At T.text 0 (tl T.text) [] := by
  unfold At
  rw [List.drop_zero, List.append_nil]
theorem start_top : ∀ {T : Tre}, T.ok → T.top → ∃ j s, startM T.text 0 0 = .ok (j, .inl s)
  | .leaf _ _, _, h => h.elim
  | .ask _ _, _, h => h.elim
  | .un sg T, ok, _ => by
    have h : At (Tre.un sg T).text 0 (tl sg) (40 :: (tl T.text ++ [41])) := by
      unfold At
      rw [List.drop_zero, text_un]
      rfl
    exact ⟨_, _, start_un ok.1 (by decide) h⟩
  | .bin sg l r, ok, _ => by
    have h : At (Tre.bin sg l r).text 0 [40] (tl l.text ++ ((32 :: (tl sg ++ [32])) ++ (tl r.text ++ [41]))) := by
      unfold At
      rw [List.drop_zero, text_bin]
    exact ⟨_, _, start_bin (by decide) h⟩
/-- a bracketed tree's text is read, whatever follows -/
theorem parse_top : ∀ {T : Tre}, T.ok → T.top → ∀ {t : Str} {i : Nat} {r : List Nat} (m : Nat) (w : List Str) (fd : List Part), At t i (tl T.text) r → w.length + T.depth ≤ 100 →
    loopM t (m + T.cost) i true w fd = loopM t m (i + (tl T.text).length) false w (fd ++ T.parts)
  | .leaf _ _, _, ht, _, _, _, _, _, _, _, _ => ht.elim
  | .ask _ _, _, ht, _, _, _, _, _, _, _, _ => ht.elim
  | .un sg T, ok, _, t, i, r, m, w, fd, h, hd => by
    rw [text_un] at h ⊢
    have hd : w.length + (T.depth + 1) ≤ 100 := hd
    have h1 : At t i (tl sg) (40 :: ((tl T.text ++ [41]) ++ r)) := by
      have := h.left
      rw [List.append_assoc] at this
      exact this
    have h2 : At t (i + (tl sg).length + 1) (tl T.text ++ [41]) r := At.after (cs := [40]) h.after
    have h3 := h2.left
    have h4 := h2.after
    rw [show m + (Tre.un sg T).cost = m + 1 + T.cost + 1 by show m + (T.cost + 2) = _; omega, loop_s2 (start_un ok.1 (by omega) h1),
      parse_tre ok.2 (m + 1) (w ++ [sg]) fd h3 (stop_of fun q => absurd q.1 (by decide)) (by rw [List.length_append]; show w.length + 1 + T.depth ≤ 100; omega), loop_close (un_open sg ok.1) h4]
    have el : (tl sg ++ ([40] ++ (tl T.text ++ [41])) : List Nat).length = (tl sg).length + 1 + (tl T.text).length + 1 := by
      simp only [List.length_append, List.length_cons, List.length_nil]
      omega
    rw [el, show i + ((tl sg).length + 1 + (tl T.text).length + 1) = i + (tl sg).length + 1 + (tl T.text).length + 1 by omega, List.append_assoc]
    rfl
  | .bin sg l r', ok, _, t, i, r, m, w, fd, h, hd => by
    rw [text_bin] at h ⊢
    have hd : w.length + (max l.depth r'.depth + 1) ≤ 100 := hd
    have h1 := h.left
    have h2 := h.after
    have h3 := h2.left
    have h4 := h2.after
    have h5 := h4.left
    have h6 := h4.after
    have h7 := h6.left
    have h8 := h6.after
    have hs := sign_at ok.1 h5
    have ls : (32 :: (tl sg ++ [32])).length = (tl sg).length + 2 := by simp
    have l1 : ([40] : List Nat).length = 1 := rfl
    rw [ls, l1] at h7 h8
    rw [l1] at h3 hs h5
    rw [show m + (Tre.bin sg l r').cost = m + 1 + r'.cost + 1 + l.cost + 1 by show m + (l.cost + r'.cost + 3) = _; omega, loop_s2 (start_bin (by omega) h1),
      parse_tre ok.2.1 (m + 1 + r'.cost + 1) (w ++ [("(" : Str)]) fd h3 (stop_of fun q => absurd q.1 (by decide)) (by rw [List.length_append]; show w.length + 1 + l.depth ≤ 100; omega), loop_f, if_pos rfl, hs]
    dsimp only
    rw [show i + 1 + (tl l.text).length + 1 + (tl sg).length + 1 = i + 1 + (tl l.text).length + ((tl sg).length + 2) by omega,
      parse_tre ok.2.2 (m + 1) (w ++ [sg]) (fd ++ l.parts) h7 (stop_of fun q => absurd q.1 (by decide)) (by rw [List.length_append]; show w.length + 1 + r'.depth ≤ 100; omega), loop_close (bin_open sg ok.1) h8]
    have el : ([40] ++ (tl l.text ++ ((32 :: (tl sg ++ [32])) ++ (tl r'.text ++ [41]))) : List Nat).length = 1 + (tl l.text).length + ((tl sg).length + 2) + (tl r'.text).length + 1 := by
      simp only [List.length_append, List.length_cons, List.length_nil]
      omega
    rw [el, show i + (1 + (tl l.text).length + ((tl sg).length + 2) + (tl r'.text).length + 1) = i + 1 + (tl l.text).length + ((tl sg).length + 2) + (tl r'.text).length + 1 by omega, List.append_assoc, List.append_assoc]
    rfl
/-- a bracketed text with something behind it is refused at its end -/
theorem more_parse {T : Tre} (ok : T.ok) (ht : T.top) (hd : T.depth ≤ 100) {r : Str} (hr : 0 < r.length) : parseM (T.text ++ r) = .error T.text.length := by
  have hc := cost_le ok
  rw [← len_tl] at hc
  have h : At (T.text ++ r) 0 (tl T.text) (tl r) := by
    unfold At
    rw [List.drop_zero, tl_append]
  have hl := len_app T.text r
  have p := parse_top ok ht ((T.text ++ r).length - T.cost + 1) [] [] h (by rw [List.length_nil]; omega)
  unfold parseM
  rw [show (T.text ++ r).length + 1 = (T.text ++ r).length - T.cost + 1 + T.cost by omega, p, loop_end, ← len_tl, if_pos (by omega), Nat.zero_add]
theorem tl_pre {t : Str} {k : Nat} (hk : k ≤ t.length) : tl (cutS t none (some ((k : Nat) : Int))) = (tl t).take k := by
  show ((tl t).drop (HT.sIx t.length 0 none)).take (HT.sIx t.length t.length (some ((k : Nat) : Int)) - HT.sIx t.length 0 none) = _
  rw [HT.sIx_nat, HT.sIx_none, List.drop_zero, Nat.sub_zero, Nat.min_eq_left hk]
theorem pre_len {t : Str} {k : Nat} (hk : k ≤ t.length) : (cutS t none (some ((k : Nat) : Int))).length = k := by
  rw [len_tl, tl_pre hk, List.length_take, ← len_tl, Nat.min_eq_left hk]
theorem cut_len (t : Str) (lo hi : Option Int) : (cutS t lo hi).length ≤ t.length := by
  rw [len_tl, len_tl t]
  show (((tl t).drop _).take _).length ≤ _
  rw [List.length_take, List.length_drop]
  omega
theorem cut_at {t : Str} {k : Nat} (hk : k < t.length) : CutAt t (cutS t none (some ((k : Nat) : Int))) k := by
  have e := tl_pre (Nat.le_of_lt hk)
  refine ⟨Nat.le_of_lt hk, by rw [e, List.take_take, Nat.min_self], fun c hc => ?_⟩
  rw [e, List.getElem?_take, if_neg (Nat.lt_irrefl k)] at hc
  cases hc
theorem ins_at {t s r : Str} {k c : Nat} (hk : k ≤ t.length) (hs : tl s = [c]) (hc : strangeB c = true) : CutAt t (cutS t none (some ((k : Nat) : Int)) ++ s ++ r) k ∧ k < (cutS t none (some ((k : Nat) : Int)) ++ s ++ r).length := by
  have e := tl_pre hk
  have hl : ((tl t).take k).length = k := by rw [List.length_take, ← len_tl, Nat.min_eq_left hk]
  have ea : tl (cutS t none (some ((k : Nat) : Int)) ++ s ++ r) = (tl t).take k ++ (c :: tl r) := by
    rw [tl_append, tl_append, e, hs, List.append_assoc]
    rfl
  refine ⟨⟨hk, ?_, fun d hd => ?_⟩, ?_⟩
  · rw [ea, List.take_append, hl, Nat.sub_self, List.take_zero, List.append_nil, List.take_take, Nat.min_self]
  · rw [ea, List.getElem?_append_right (by omega), hl, Nat.sub_self] at hd
    injection hd with hd
    rw [← hd]
    exact hc
  · rw [len_app, len_app, pre_len hk, len_tl s, hs]
    show k < k + 1 + _
    omega
/-- cut, at each place -/
theorem cut_no {T : Tre} (ok : T.ok) (ht : T.top) (hd : T.depth ≤ 100) {k : Nat} (hk : k < T.text.length) : parseM (cutS T.text none (some ((k : Nat) : Int))) = .error k :=
  cut_parse (cut_at hk) (fun e => by omega) (parse_text ok hd) (start_top ok ht)
/-- bent, at each place -/
theorem ins_no {T : Tre} (ok : T.ok) (ht : T.top) (hd : T.depth ≤ 100) {k c : Nat} {s r : Str} (hk : k ≤ T.text.length) (hs : tl s = [c]) (hc : strangeB c = true) : parseM (cutS T.text none (some ((k : Nat) : Int)) ++ s ++ r) = .error k :=
  cut_parse (ins_at hk hs hc).1 (fun e => (ins_at hk hs hc).2) (parse_text ok hd) (start_top ok ht)
end TR

/-! nested expressions: frames around a place -/
namespace TR
open PySem PySem.Spec PyProof.Rows L2 EV TL LM PM
inductive Frm where
  | un (sg : Str)
  | lft (sg : Str)
  | rgt (sg : Str)
def Frm.pre : Frm → Str
  | .un sg => sg ++ ("(" : Str)
  | .lft _ => "("
  | .rgt sg => ("(neg:Q " : Str) ++ sg ++ (" " : Str)
def Frm.post : Frm → Str
  | .un _ => ")"
  | .lft sg => (" " : Str) ++ sg ++ (" b:Pair)" : Str)
  | .rgt _ => ")"
def Frm.put : Frm → Tre → Tre
  | .un sg, T => .un sg T
  | .lft sg, T => .bin sg T (.leaf "b" "Pair")
  | .rgt sg, T => .bin sg (.leaf "neg" "Q") T
def Frm.ok : Frm → Prop
  | .un sg => sg ∈ unary
  | .lft sg => sg ∈ binary
  | .rgt sg => sg ∈ binary
def plug : List Frm → Tre → Tre
  | [], T => T
  | f :: fs, T => f.put (plug fs T)
def ahead : List Frm → Str
  | [] => ""
  | f :: fs => f.pre ++ ahead fs
def behind : List Frm → Str
  | [] => ""
  | f :: fs => behind fs ++ f.post
theorem tl_e : tl ("" : Str) = [] := by decide +kernel
theorem ahead_app : ∀ (fs gs : List Frm), ahead (fs ++ gs) = ahead fs ++ ahead gs
  | [], gs => ext_tl (by rw [tl_append]; show _ = tl ("" : Str) ++ _; rw [tl_e]; rfl)
  | f :: fs, gs => ext_tl (by
      show tl (f.pre ++ ahead (fs ++ gs)) = tl ((f.pre ++ ahead fs) ++ ahead gs)
      rw [ahead_app fs gs]
      simp only [tl_append, List.append_assoc])
theorem behind_app : ∀ (fs gs : List Frm), behind (fs ++ gs) = behind gs ++ behind fs
  | [], gs => ext_tl (by rw [tl_append]; show _ = _ ++ tl ("" : Str); rw [tl_e, List.append_nil]; rfl)
  | f :: fs, gs => ext_tl (by
      show tl (behind (fs ++ gs) ++ f.post) = tl (behind gs ++ (behind fs ++ f.post))
      rw [behind_app fs gs]
      simp only [tl_append, List.append_assoc])
theorem ahead_add (fs : List Frm) (f : Frm) : ahead (fs ++ [f]) = ahead fs ++ f.pre := by
  rw [ahead_app]
  refine ext_tl ?_
  show tl (ahead fs ++ (f.pre ++ "")) = _
  rw [tl_append, tl_append, tl_append, tl_e, List.append_nil]
theorem behind_add (fs : List Frm) (f : Frm) : behind (fs ++ [f]) = f.post ++ behind fs := by
  rw [behind_app]
  refine ext_tl ?_
  show tl (("" ++ f.post) ++ behind fs) = _
  rw [tl_append, tl_append, tl_append, tl_e, List.nil_append]
theorem leaf_b : (Tre.leaf "b" "Pair").text = ("b:Pair" : Str) := by decide +kernel
theorem leaf_neg : (Tre.leaf "neg" "Q").text = ("neg:Q" : Str) := by decide +kernel
theorem tl_bp : tl (" b:Pair)" : Str) = [32] ++ (tl ("b:Pair" : Str) ++ [41]) := by decide +kernel
theorem tl_nq : tl ("(neg:Q " : Str) = [40] ++ (tl ("neg:Q" : Str) ++ [32]) := by decide +kernel
theorem plug_text : ∀ (fs : List Frm) (T : Tre), tl (plug fs T).text = tl (ahead fs) ++ (tl T.text ++ tl (behind fs))
  | [], T => by
    show tl T.text = tl ("" : Str) ++ (tl T.text ++ tl ("" : Str))
    rw [tl_e, List.append_nil]
    rfl
  | .un sg :: fs, T => by
    show tl (Tre.un sg (plug fs T)).text = tl ((sg ++ ("(" : Str)) ++ ahead fs) ++ (tl T.text ++ tl (behind fs ++ (")" : Str)))
    rw [text_un, plug_text fs T]
    simp only [tl_append, List.append_assoc, c_open, c_close]
  | .lft sg :: fs, T => by
    show tl (Tre.bin sg (plug fs T) (.leaf "b" "Pair")).text = tl (("(" : Str) ++ ahead fs) ++ (tl T.text ++ tl (behind fs ++ ((" " : Str) ++ sg ++ (" b:Pair)" : Str))))
    rw [text_bin, plug_text fs T, leaf_b]
    simp only [tl_append, List.append_assoc, c_open, c_close, c_sp, tl_bp, List.cons_append, List.nil_append]
  | .rgt sg :: fs, T => by
    show tl (Tre.bin sg (.leaf "neg" "Q") (plug fs T)).text = tl ((("(neg:Q " : Str) ++ sg ++ (" " : Str)) ++ ahead fs) ++ (tl T.text ++ tl (behind fs ++ (")" : Str)))
    rw [text_bin, plug_text fs T, leaf_neg]
    simp only [tl_append, List.append_assoc, c_open, c_close, c_sp, tl_nq, List.cons_append, List.nil_append]
theorem plug_str (fs : List Frm) (T : Tre) : (plug fs T).text = ahead fs ++ (T.text ++ behind fs) := ext_tl (by rw [plug_text, tl_append, tl_append])
theorem sw_neg : SmallW "neg" := un_small (show ("neg" : Str) ∈ unary by decide +kernel)
theorem sw_x (s : Str) (h : s ∈ ([("b" : Str), "x"] : List Str)) : SmallW s := by
  simp only [List.mem_cons, List.not_mem_nil, or_false] at h
  rcases h with rfl | rfl
  · exact ⟨by decide +kernel, by decide +kernel, by unfold Small; decide +kernel⟩
  · exact ⟨by decide +kernel, by decide +kernel, by unfold Small; decide +kernel⟩
theorem cw_Q : ClassW "Q" := ⟨81, [], by decide +kernel, by decide, by decide, by decide, fun c hc => by cases hc⟩
theorem cw_Pr : ClassW "Pair" := ⟨80, [97, 105, 114], by decide +kernel, by decide, by decide, by decide, by unfold Small; decide⟩
theorem plug_ok : ∀ {fs : List Frm} {T : Tre}, (∀ f ∈ fs, f.ok) → T.ok → (plug fs T).ok
  | [], _, _, ok => ok
  | .un sg :: fs, T, h, ok => ⟨h _ List.mem_cons_self, plug_ok (fun f hf => h f (List.mem_cons_of_mem _ hf)) ok⟩
  | .lft sg :: fs, T, h, ok => ⟨h (.lft sg) List.mem_cons_self, plug_ok (fun f hf => h f (List.mem_cons_of_mem _ hf)) ok, sw_x "b" (by simp), cw_Pr⟩
  | .rgt sg :: fs, T, h, ok => ⟨h (.rgt sg) List.mem_cons_self, ⟨sw_neg, cw_Q⟩, plug_ok (fun f hf => h f (List.mem_cons_of_mem _ hf)) ok⟩
theorem plug_depth : ∀ (fs : List Frm) (T : Tre), (plug fs T).depth = fs.length + T.depth
  | [], T => (Nat.zero_add _).symm
  | .un sg :: fs, T => by show (plug fs T).depth + 1 = _; rw [plug_depth fs T, List.length_cons]; omega
  | .lft sg :: fs, T => by show max (plug fs T).depth 0 + 1 = _; rw [plug_depth fs T, List.length_cons]; omega
  | .rgt sg :: fs, T => by show max 0 (plug fs T).depth + 1 = _; rw [plug_depth fs T, List.length_cons]; omega
theorem plug_top {f : Frm} {fs : List Frm} {T : Tre} : (plug (f :: fs) T).top := by
  cases f <;> exact True.intro
/-! ### more brackets than may be open -/
def Frm.cost : Frm → Nat
  | .un _ => 1
  | .lft _ => 1
  | .rgt _ => 3
def costs : List Frm → Nat
  | [] => 0
  | f :: fs => f.cost + costs fs
/-- the frames' text is read: as many are open -/
theorem loop_ahead : ∀ {fs : List Frm}, (∀ f ∈ fs, f.ok) → ∀ {t : Str} {i : Nat} {r : List Nat} (m : Nat) (w : List Str) (fd : List Part), At t i (tl (ahead fs)) r → w.length + fs.length ≤ 100 →
    ∃ (w' : List Str) (fd' : List Part), w'.length = w.length + fs.length ∧ loopM t (m + costs fs) i true w fd = loopM t m (i + (tl (ahead fs)).length) true w' fd'
  | [], _, t, i, r, m, w, fd, h, hd => ⟨w, fd, rfl, by rw [show (tl (ahead [])).length = 0 by show (tl ("" : Str)).length = 0; rw [tl_e]; rfl]; rfl⟩
  | .un sg :: fs, ok, t, i, r, m, w, fd, h, hd => by
    have e : tl (ahead (.un sg :: fs)) = tl sg ++ ([40] ++ tl (ahead fs)) := by
      show tl ((sg ++ ("(" : Str)) ++ ahead fs) = _
      simp only [tl_append, List.append_assoc, c_open]
    rw [e] at h ⊢
    rw [List.length_cons] at hd
    have h1 : At t i (tl sg) (40 :: (tl (ahead fs) ++ r)) := by
      have := h.left
      rw [List.append_assoc] at this
      exact this
    have h2 : At t (i + (tl sg).length + 1) (tl (ahead fs)) r := At.after (cs := [40]) h.after
    obtain ⟨w', fd', l, q⟩ := loop_ahead (fs := fs) (fun f hf => ok f (List.mem_cons_of_mem _ hf)) m (w ++ [sg]) fd h2 (by rw [List.length_append]; show w.length + 1 + _ ≤ _; omega)
    refine ⟨w', fd', by rw [l]; simp only [List.length_append, List.length_cons, List.length_nil]; omega, ?_⟩
    rw [show m + costs (.un sg :: fs) = m + costs fs + 1 by show m + (1 + costs fs) = _; omega, loop_s2 (start_un (ok (.un sg) List.mem_cons_self) (by omega) h1), q]
    have el : (tl sg ++ ([40] ++ tl (ahead fs)) : List Nat).length = (tl sg).length + 1 + (tl (ahead fs)).length := by
      simp only [List.length_append, List.length_cons, List.length_nil]
      omega
    rw [el, show i + ((tl sg).length + 1 + (tl (ahead fs)).length) = i + (tl sg).length + 1 + (tl (ahead fs)).length by omega]
  | .lft sg :: fs, ok, t, i, r, m, w, fd, h, hd => by
    have e : tl (ahead (.lft sg :: fs)) = [40] ++ tl (ahead fs) := by
      show tl (("(" : Str) ++ ahead fs) = _
      rw [tl_append, c_open]
    rw [e] at h ⊢
    rw [List.length_cons] at hd
    have h1 := h.left
    have h2 : At t (i + 1) (tl (ahead fs)) r := h.after
    obtain ⟨w', fd', l, q⟩ := loop_ahead (fs := fs) (fun f hf => ok f (List.mem_cons_of_mem _ hf)) m (w ++ [("(" : Str)]) fd h2 (by rw [List.length_append]; show w.length + 1 + _ ≤ _; omega)
    refine ⟨w', fd', by rw [l]; simp only [List.length_append, List.length_cons, List.length_nil]; omega, ?_⟩
    rw [show m + costs (.lft sg :: fs) = m + costs fs + 1 by show m + (1 + costs fs) = _; omega, loop_s2 (start_bin (by omega) h1), q]
    have el : ([40] ++ tl (ahead fs) : List Nat).length = 1 + (tl (ahead fs)).length := by
      simp only [List.length_append, List.length_cons, List.length_nil]
    rw [el, show i + (1 + (tl (ahead fs)).length) = i + 1 + (tl (ahead fs)).length by omega]
  | .rgt sg :: fs, ok, t, i, r, m, w, fd, h, hd => by
    have e : tl (ahead (.rgt sg :: fs)) = [40] ++ (tl (Tre.leaf "neg" "Q").text ++ ((32 :: (tl sg ++ [32])) ++ tl (ahead fs))) := by
      show tl ((("(neg:Q " : Str) ++ sg ++ (" " : Str)) ++ ahead fs) = _
      rw [leaf_neg]
      simp only [tl_append, List.append_assoc, c_sp, tl_nq, List.cons_append, List.nil_append]
    rw [e] at h ⊢
    rw [List.length_cons] at hd
    have h1 := h.left
    have h2 : At t (i + 1) (tl (Tre.leaf "neg" "Q").text ++ ((32 :: (tl sg ++ [32])) ++ tl (ahead fs))) r := h.after
    have h3 := h2.left
    have h4 := h2.after
    have h5 := h4.left
    have h6 := h4.after
    have hs := sign_at (ok (.rgt sg) List.mem_cons_self) h5
    have ls : (32 :: (tl sg ++ [32])).length = (tl sg).length + 2 := by simp
    rw [ls] at h6
    obtain ⟨w', fd', l, q⟩ := loop_ahead (fs := fs) (fun f hf => ok f (List.mem_cons_of_mem _ hf)) m (w ++ [sg]) (fd ++ (Tre.leaf "neg" "Q").parts) h6 (by rw [List.length_append]; show w.length + 1 + _ ≤ _; omega)
    refine ⟨w', fd', by rw [l]; simp only [List.length_append, List.length_cons, List.length_nil]; omega, ?_⟩
    rw [show m + costs (.rgt sg :: fs) = m + costs fs + 1 + (Tre.leaf "neg" "Q").cost + 1 by show m + (3 + costs fs) = m + costs fs + 1 + 1 + 1; omega, loop_s2 (start_bin (by omega) h1),
      parse_tre (T := .leaf "neg" "Q") ⟨sw_neg, cw_Q⟩ (m + costs fs + 1) (w ++ [("(" : Str)]) fd h3 (stop_of fun q => absurd q.1 (by decide)) (by rw [List.length_append]; show w.length + 1 + 0 ≤ 100; omega), loop_f, if_pos rfl, hs]
    dsimp only
    rw [show i + 1 + (tl (Tre.leaf "neg" "Q").text).length + 1 + (tl sg).length + 1 = i + 1 + (tl (Tre.leaf "neg" "Q").text).length + ((tl sg).length + 2) by omega, q]
    have el : ([40] ++ (tl (Tre.leaf "neg" "Q").text ++ ((32 :: (tl sg ++ [32])) ++ tl (ahead fs))) : List Nat).length = 1 + (tl (Tre.leaf "neg" "Q").text).length + ((tl sg).length + 2) + (tl (ahead fs)).length := by
      simp only [List.length_append, List.length_cons, List.length_nil]
      omega
    rw [el, show i + (1 + (tl (Tre.leaf "neg" "Q").text).length + ((tl sg).length + 2) + (tl (ahead fs)).length) = i + 1 + (tl (Tre.leaf "neg" "Q").text).length + ((tl sg).length + 2) + (tl (ahead fs)).length by omega]
theorem costs_le : ∀ fs : List Frm, costs fs ≤ (tl (ahead fs)).length
  | [] => Nat.zero_le _
  | .un sg :: fs => by
    have := costs_le fs
    show 1 + costs fs ≤ (tl ((sg ++ ("(" : Str)) ++ ahead fs)).length
    rw [tl_append, tl_append, c_open, List.length_append, List.length_append, List.length_singleton]
    omega
  | .lft sg :: fs => by
    have := costs_le fs
    show 1 + costs fs ≤ (tl (("(" : Str) ++ ahead fs)).length
    rw [tl_append, c_open, List.length_append, List.length_singleton]
    omega
  | .rgt sg :: fs => by
    have := costs_le fs
    show 3 + costs fs ≤ (tl ((("(neg:Q " : Str) ++ sg ++ (" " : Str)) ++ ahead fs)).length
    rw [tl_append, tl_append, tl_append, List.length_append, List.length_append, List.length_append, show (tl ("(neg:Q " : Str)).length = 7 by decide +kernel]
    omega
/-- what stands ahead of a frame's bracket -/
def Frm.name : Frm → Str
  | .un sg => sg
  | .lft _ => ""
  | .rgt _ => ""
theorem start_100 {f : Frm} (ok : f.ok) {t : Str} {i : Nat} {r : List Nat} (h : At t i (tl f.name) r) (hr : r = [] ∨ ∃ r', r = 40 :: r') : startM t i 100 = .error (i + (tl f.name).length) := by
  have stop : Stop r := by
    rcases hr with rfl | ⟨r', rfl⟩
    · intro c q; cases q
    · exact stop_of fun q => absurd q.1 (by decide)
  have plain : f.name = "" → startM t i 100 = .error (i + (tl f.name).length) := fun e => by
    rw [e, tl_e] at h ⊢
    have h : (tl t).drop i = r := h
    have g0 : (tl t)[i]? = r[0]? := by rw [← h, List.getElem?_drop]; rfl
    rcases hr with rfl | ⟨r', rfl⟩
    · have g0 : (tl t)[i]? = none := g0
      have hb : ∀ lo hi, PM.betw lo hi t i = false := fun lo hi => by unfold PM.betw; rw [g0]
      unfold startM
      rw [g0, if_neg (by intro q; cases q), if_neg (by rw [hb]; exact Bool.false_ne_true), if_pos (small_stop (.inl (hb _ _)))]
      rfl
    · have g0 : (tl t)[i]? = some 40 := g0
      unfold startM
      rw [if_pos g0, if_pos rfl]
      rfl
  cases f with
  | lft sg => exact plain rfl
  | rgt sg => exact plain rfl
  | un sg =>
    have ok : sg ∈ unary := ok
    have h : At t i (tl sg) r := h
    show startM t i 100 = .error (i + (tl sg).length)
    obtain ⟨l1, l2, l3⟩ := un_small ok
    obtain ⟨a, as, ea⟩ : ∃ a as, tl sg = a :: as := by
      cases e : tl sg with
      | nil => rw [e] at l1; exact absurd l1 (by decide)
      | cons a as => exact ⟨a, as, rfl⟩
    have sa : Small a := l3 a (by rw [ea]; exact List.mem_cons_self)
    have g0 : (tl t)[i]? = some a := by
      have := h.get (j := 0)
      rw [ea] at this
      exact this
    have hn : smallN t i 8 = (tl sg).length := small_eq h l3 l2 stop
    have g1 : (tl t)[i + (tl sg).length]? = r[0]? := by
      have := h.get (j := (tl sg).length)
      rw [this, List.getElem?_append_right (Nat.le_refl _), Nat.sub_self]
    unfold startM
    rw [g0, if_neg (by intro q; injection q with q; rw [q] at sa; exact absurd sa.1 (by decide)), betw_eq g0, if_neg (by
      intro q
      simp only [Bool.and_eq_true, decide_eq_true_eq] at q
      have := sa.1
      omega), hn, if_neg (by omega), g1]
    rcases hr with rfl | ⟨r', rfl⟩
    · rw [if_neg (by rintro ⟨q, _⟩; cases q), if_neg (by intro q; cases q)]
    · rw [sub_eq h, if_pos ⟨rfl, List.contains_iff_mem.mpr ok⟩, if_pos rfl]
/-- a hundred brackets are open: the next is refused, and so is the text that ends ahead of it or at it -/
theorem deep {gs : List Frm} {f : Frm} (hg : gs.length = 100) (okg : ∀ g ∈ gs, g.ok) (ok : f.ok) {t : Str} {r : List Nat} (h : tl t = tl (ahead gs) ++ (tl f.name ++ r)) (hr : r = [] ∨ ∃ r', r = 40 :: r') :
    parseM t = .error ((ahead gs).length + f.name.length) := by
  have h0 : At t 0 (tl (ahead gs)) (tl f.name ++ r) := by
    unfold At
    rw [List.drop_zero, h]
  have hc := costs_le gs
  have hl : (tl t).length = (tl (ahead gs)).length + ((tl f.name).length + r.length) := by rw [h, List.length_append, List.length_append]
  rw [← len_tl] at hl
  obtain ⟨w', fd', l, q⟩ := loop_ahead okg (t.length - costs gs + 1) [] [] h0 (by rw [List.length_nil]; omega)
  have h1 : At t (0 + (tl (ahead gs)).length) (tl f.name) r := by
    have := At.after (cs := tl (ahead gs)) (ds := tl f.name) (r := r) (t := t) (i := 0) (by unfold At; rw [List.drop_zero, h, List.append_assoc])
    exact this
  rw [Nat.zero_add] at h1 q
  unfold parseM
  rw [show t.length + 1 = t.length - costs gs + 1 + costs gs by omega, q, loop_s1 (show startM t (tl (ahead gs)).length w'.length = _ by rw [l, List.length_nil, hg]; exact start_100 ok h1 hr), len_tl (ahead gs), len_tl f.name]
/-- brackets in a frame's text: one, behind its name -/
theorem count_pre : ∀ {f : Frm}, f.ok → ∃ b : List Nat, tl f.pre = tl f.name ++ (40 :: b) ∧ (tl f.name).count 40 = 0 ∧ b.count 40 = 0
  | .un sg, ok => by
    refine ⟨[], ?_, ?_, rfl⟩
    · show tl (sg ++ ("(" : Str)) = tl sg ++ [40]
      rw [tl_append, c_open]
    · refine List.count_eq_zero.mpr fun h => ?_
      have := (un_small ok).2.2 40 h
      exact absurd this.1 (by decide)
  | .lft sg, ok => ⟨[], by show tl ("(" : Str) = tl ("" : Str) ++ [40]; rw [tl_e, c_open]; rfl, by show (tl ("" : Str)).count 40 = 0; rw [tl_e]; rfl, rfl⟩
  | .rgt sg, ok => by
    have hs : ∀ s ∈ binary, (tl s).count 40 = 0 := by decide +kernel
    refine ⟨tl ("neg:Q " : Str) ++ (tl sg ++ [32]), ?_, by show (tl ("" : Str)).count 40 = 0; rw [tl_e]; rfl, ?_⟩
    · show tl (("(neg:Q " : Str) ++ sg ++ (" " : Str)) = tl ("" : Str) ++ _
      rw [tl_append, tl_append, tl_e, c_sp, show tl ("(neg:Q " : Str) = 40 :: tl ("neg:Q " : Str) by decide +kernel, List.append_assoc]
      rfl
    · rw [List.count_append, List.count_append, show (tl ("neg:Q " : Str)).count 40 = 0 by decide +kernel, hs sg ok]
      rfl
theorem count_ahead : ∀ {fs : List Frm}, (∀ f ∈ fs, f.ok) → (tl (ahead fs)).count 40 = fs.length
  | [], _ => by show (tl ("" : Str)).count 40 = 0; rw [tl_e]; rfl
  | f :: fs, h => by
    obtain ⟨b, e, c1, c2⟩ := count_pre (h f List.mem_cons_self)
    show (tl (f.pre ++ ahead fs)).count 40 = _
    rw [tl_append, e, List.count_append, List.count_append, List.count_cons, c1, c2, count_ahead fun g hg => h g (List.mem_cons_of_mem _ hg), List.length_cons]
    simp
    omega
end TR

/-! a plain value compared with an object of an own class: the value declines, the object answers -/
namespace EV
open PySem PySem.Spec PyProof.Rows L2
theorem int_eq_ins_bool (b : Bool) (l C dx : Addr) : Meets (Builtin.«int.__eq__» ⟨[.bool b, .ref l], []⟩) (fun _ R s => s.heap.get? l = some (PySem.W.instObj C dx) ∧ R (.ok (.ret .notImplemented)) s) :=
  .of_wp fun prog w A R s h => by obtain ⟨hp, g, d, tk, os⟩ := s; obtain ⟨hl, h⟩ := h; wp_walk using wpAny_loadPart' hl, wpAny_load hl; exact ⟨_, rfl, h⟩
theorem int_eq_ins_int (b : Int) (u : Tok) (l C dx : Addr) : Meets (Builtin.«int.__eq__» ⟨[.int b u, .ref l], []⟩) (fun _ R s => s.heap.get? l = some (PySem.W.instObj C dx) ∧ R (.ok (.ret .notImplemented)) s) :=
  .of_wp fun prog w A R s h => by obtain ⟨hp, g, d, tk, os⟩ := s; obtain ⟨hl, h⟩ := h; wp_walk using wpAny_loadPart' hl, wpAny_load hl; exact ⟨_, rfl, h⟩
theorem str_eq_ins (b : Str) (u : Tok) (l C dx : Addr) : Meets (Builtin.«str.__eq__» ⟨[.str b u, .ref l], []⟩) (fun _ R s => s.heap.get? l = some (PySem.W.instObj C dx) ∧ R (.ok (.ret .notImplemented)) s) :=
  .of_wp fun prog w A R s h => by obtain ⟨hp, g, d, tk, os⟩ := s; obtain ⟨hl, h⟩ := h; wp_walk using wpAny_loadPart' hl, wpAny_load hl; exact ⟨_, rfl, h⟩
theorem list_eq_ins (K : Fg) (l b C dx : Addr) (items : Array Value) (n : Nat) (dd : Option Addr) (sl : Array (Option Value)) (e : PySem.W.subIn K (.ref C) (.type "list") = some false) :
    Meets (Builtin.«list.__eq__» ⟨[.ref l, .ref b], []⟩) (fun _ R s => s.heap.get? l = some { cls := .type "list", dict := dd, data := .seq items n, slots := sl } ∧ s.heap.get? b = some (PySem.W.instObj C dx) ∧ K.In s.heap ∧ R (.ok (.ret .notImplemented)) s) :=
  .of_wp fun prog w A R s h => by
    obtain ⟨hp, g, d, tk, os⟩ := s
    obtain ⟨hl, hb, kin, h⟩ := h
    wp_walk using wpAny_loadPart' hl, wpAny_loadPart' hb
    refine (PySem.W.looks_subIn kin e).here ?_
    simp only [Bool.not_false, if_true]
    wp_walk
    exact ⟨_, rfl, h⟩
theorem tuple_eq_ins (K : Fg) (l b C dx : Addr) (items : Array Value) (n : Nat) (dd : Option Addr) (sl : Array (Option Value)) (e : PySem.W.subIn K (.ref C) (.type "tuple") = some false) :
    Meets (Builtin.«tuple.__eq__» ⟨[.ref l, .ref b], []⟩) (fun _ R s => s.heap.get? l = some { cls := .type "tuple", dict := dd, data := .seq items n, slots := sl } ∧ s.heap.get? b = some (PySem.W.instObj C dx) ∧ K.In s.heap ∧ R (.ok (.ret .notImplemented)) s) :=
  .of_wp fun prog w A R s h => by
    obtain ⟨hp, g, d, tk, os⟩ := s
    obtain ⟨hl, hb, kin, h⟩ := h
    wp_walk using wpAny_loadPart' hl, wpAny_loadPart' hb
    refine (PySem.W.looks_subIn kin e).here ?_
    simp only [Bool.not_false, if_true]
    wp_walk
    exact ⟨_, rfl, h⟩
section
variable {X : Cx} {k : Nat} {C : Addr} {ps : List Str} {sp : Sp} {pins : List (Addr × Obj)} {σ : L2.St} {H : Hp} {s : Shared}
/-- the class is under no built-in kind -/
def NoKind (K : Fg) (C : Addr) : Prop := ∀ T ∈ plainTys, PySem.W.subIn K (.ref C) (.type T) = some false
theorem noKind_of {K : Fg} {C : Addr} (h1 : PySem.W.subIn K (.ref C) (.type "NoneType") = some false) (h2 : PySem.W.subIn K (.ref C) (.type "bool") = some false) (h3 : PySem.W.subIn K (.ref C) (.type "int") = some false) (h4 : PySem.W.subIn K (.ref C) (.type "str") = some false)
    (h5 : PySem.W.subIn K (.ref C) (.type "list") = some false) (h6 : PySem.W.subIn K (.ref C) (.type "tuple") = some false) : NoKind K C := by
  intro T hT
  simp only [plainTys, List.mem_cons, List.not_mem_nil, or_false] at hT
  rcases hT with rfl | rfl | rfl | rfl | rfl | rfl
  · exact h1
  · exact h2
  · exact h3
  · exact h4
  · exact h5
  · exact h6
/-- a plain kind of value, with its own == -/
theorem declines {A : Around} {E : Value → Shared → Prop} {x : V} {v : Value} {T : String} {a dx : Addr} {Q : Option Value → Shared → Prop} (I : Inv X pins σ H s) (hA : A.units < cLine) (nk : NoKind X.K C) (hT : T ∈ plainTys) (t : TyN H x (.type T)) (r : RelV x v)
    (ha : s.heap.get? a = some (PySem.W.instObj C dx)) (q : Q none s) : s.TypeIs v T ∧ wpAny (model X.prog X.w) A (tryCompare v (cmpInfo .Eq).2.1 (.ref a)) Q E s := by
  cases t with
  | non =>
    cases (show v = Value.none from r)
    exact ⟨rfl, wpAny_tryCompare_declines rfl F.slot_NoneType_eq (call_gives F.slot_NoneType_eq rfl F.entry_NoneType_eq (F.args_NoneType_eq_2 _ _) (SeqAt.NoneType___eq___none_ref_0 a) ⟨rfl, q⟩)⟩
  | bl b =>
    cases (show v = Value.bool b from r)
    exact ⟨rfl, wpAny_tryCompare_declines rfl F.slot_bool_eq (call_meets F.slot_bool_eq rfl F.entry_int_eq (F.args_int_eq_2 _ _) (int_eq_ins_bool b a C dx) ⟨ha, ⟨rfl, q⟩⟩)⟩
  | int i =>
    obtain ⟨u, q2⟩ := (show ∃ t, v = Value.int i t from r)
    cases q2
    exact ⟨rfl, wpAny_tryCompare_declines rfl F.slot_int_eq (call_meets F.slot_int_eq rfl F.entry_int_eq (F.args_int_eq_2 _ _) (int_eq_ins_int i u a C dx) ⟨ha, ⟨rfl, q⟩⟩)⟩
  | str z =>
    obtain ⟨u, q2⟩ := (show ∃ t, v = Value.str z t from r)
    cases q2
    exact ⟨typeIs_str s z u, wpAny_tryCompare_declines (typeIs_str s z u) F.slot_str_eq (call_meets F.slot_str_eq (typeIs_str s z u) F.entry_str_eq (F.args_str_eq_2 _ _) (str_eq_ins z u a C dx) ⟨ha, ⟨rfl, q⟩⟩)⟩
  | lst e =>
    cases (show v = Value.ref _ from r)
    obtain ⟨its, rv, ⟨⟨cls, dd, data, sls⟩, n, ho, hc, hdn, hdt⟩, hlen⟩ := I.list (SqL.of (K := X.K) e)
    simp only at hc hdt
    subst hc hdt
    exact ⟨⟨_, ho, rfl⟩, wpAny_tryCompare_declines ⟨_, ho, rfl⟩ F.slot_list_eq (call_meets F.slot_list_eq ⟨_, ho, rfl⟩ F.entry_list_eq (F.args_list_eq_2 _ _) (list_eq_ins X.K _ a C dx _ n dd sls (nk _ hT)) ⟨ho, ha, I.kIn, ⟨rfl, q⟩⟩)⟩
  | tup e =>
    cases (show v = Value.ref _ from r)
    obtain ⟨its, rv, ⟨⟨cls, dd, data, sls⟩, ho, hc, n, hdt⟩, hlen⟩ := I.tuple (SqT.of (K := X.K) e)
    simp only at hc hdt
    subst hc hdt
    exact ⟨⟨_, ho, rfl⟩, wpAny_tryCompare_declines ⟨_, ho, rfl⟩ F.slot_tuple_eq (call_meets F.slot_tuple_eq ⟨_, ho, rfl⟩ F.entry_tuple_eq (F.args_tuple_eq_2 _ _) (tuple_eq_ins X.K _ a C dx _ n dd sls (nk _ hT)) ⟨ho, ha, I.kIn, ⟨rfl, q⟩⟩)⟩
/-- x == y, x of a plain kind, y of the class at C -/
def rEqR (C : Addr) (sp : Sp) : R2 := fun x y H Q => ∃ (a dx : Addr) (fs : List (Str × V)) (T : String), y = .ref a ∧ H a = some (.ins C dx fs) ∧ T ∈ plainTys ∧ TyN H x (.type T) ∧ sp [.ref a, x] H (fun v H2 => ∃ c : Bool, v = .bl c ∧ Q (.bl c) H2) E0
theorem op_eqR (O : OkM CX0 X.prog X.w X.K X.mg X.base k C "__eq__" ps sp) (nk : NoKind X.K C) (hr : Room k X.A) : OpR X (compareOp .Eq) (rEqR C sp) := by
  intro pins s σ H x y v u Q I rx ry want
  obtain ⟨a, dx, fs, T, rfl, ea, hT, ty, q⟩ := want
  cases (show u = Value.ref a from ry)
  obtain ⟨f, fd, F, hm, hb⟩ := O.ex
  obtain ⟨ox, od, J⟩ := ins_inst I ea
  obtain ⟨_, fr⟩ := I.fr
  have kin := I.kIn
  obtain ⟨mA, ob, _⟩ := ins_get I.hok ea
  have ha : s.heap.get? a = some (PySem.W.instObj C dx) := ob.1
  have last : wpAny (model X.prog X.w) X.A (tryCompare (.ref a) (cmpInfo .Eq).2.2 v) (fun r s' => ∃ z, r = some z ∧ EP X pins σ Q z s') X.xe s := by
    unfold tryCompare
    refine wpAny_bind (PySem.W.ifBound_K kin J hm.at_ hm.fn (wpAny_mono (run_fn (us := [.ref a, v]) (vs := [.ref a, x]) (dvs := []) F hr hb .nil pass0 I (.cons rfl (.cons rx .nil)) q) (fun r s1 hz => ?_) fun _ _ e => e))
    obtain ⟨z, H2, I2, rz, c, rfl, q2⟩ := hz
    cases (show r = Value.bool c from rz)
    exact wpAny_pure ⟨_, rfl, .bl c, H2, I2, rfl, q2⟩
  have first : ∀ {R : Option Value → Shared → Prop}, R none s → s.TypeIs v T ∧ wpAny (model X.prog X.w) X.A (tryCompare v (cmpInfo .Eq).2.1 (.ref a)) R X.xe s := fun q => declines I hr.units0 nk hT ty rx ha q
  have tv : s.TypeIs v T := (first (R := fun _ _ => True) trivial).1
  show wpAny (model X.prog X.w) X.A (richCompare .Eq v (.ref a)) (EP X pins σ Q) X.xe s
  unfold richCompare
  rw [tv.oneThing_none]
  refine wpAny_holding (wpAny_bind (wpAny_cRoomFor hr.units0 ?_))
  refine wpAny_bind (wpAny_typeOf tv (wpAny_bind (J.type.here ?_)))
  rw [if_pos (by simp)]
  refine wpAny_bind ((PySem.W.looks_subIn kin (nk T hT)).here ?_)
  simp only [Bool.false_eq_true, if_false, Bool.not_false, if_true]
  refine wpAny_bind (first ?_).2
  refine wpAny_bind (wpAny_mono last (fun r s' z => ?_) fun _ _ e => e)
  obtain ⟨v, rfl, hq⟩ := z
  exact wpAny_pure hq
end
end EV

/-! an int times an object of an own class; an object to the power of an int -/
namespace EV
open PySem PySem.Spec PyProof.Rows L2
theorem int_mul_ins (i : Int) (u : Tok) (l C dx : Addr) : Meets (Builtin.«int.__mul__» ⟨[.int i u, .ref l], []⟩) (fun _ R s => s.heap.get? l = some (PySem.W.instObj C dx) ∧ R (.ok (.ret .notImplemented)) s) :=
  .of_wp fun prog w A R s h => by obtain ⟨hp, g, d, tk, os⟩ := s; obtain ⟨hl, h⟩ := h; wp_walk using wpAny_loadPart' hl, wpAny_load hl; exact ⟨_, rfl, h⟩
theorem d_mul : PySem.dunder "mul" = ("__mul__" : Str) := by decide +kernel
theorem d_rmul : PySem.dunderR "mul" = ("__rmul__" : Str) := by decide +kernel
theorem d_pow : PySem.dunder "pow" = ("__pow__" : Str) := by decide +kernel
theorem d_rpow : PySem.dunderR "pow" = ("__rpow__" : Str) := by decide +kernel
theorem mul_declines {prog : Program} {w : World} {A : Around} {E : Value → Shared → Prop} {i : Int} {tk : Tok} {a C dx : Addr} {s : Shared} {R : Option Value → Shared → Prop} (ha : s.heap.get? a = some (PySem.W.instObj C dx)) (q : R none s) :
    wpAny (model prog w) A (tryMethod (.int i tk) (PySem.dunder "mul") (.ref a)) R E s := by
  have h4 := typeIs_int s i tk
  have h5 : Slot "int" (PySem.dunder "mul") "int.__mul__" := PySem.F.slot_int_mul
  refine @wpAny_tryMethod_declines (model prog w) A E s (.int i tk) (.ref a) "int" (PySem.dunder "mul") "int.__mul__" R h4 h5 ?_
  exact @call_meets prog w A E s "int" (PySem.dunder "mul") "int.__mul__" _ (.int i tk) [.ref a] _ _ h5 h4 F.entry_int_mul (F.args_int_mul_2 _ _) (int_mul_ins i tk a C dx) ⟨ha, rfl, q⟩
section
variable {X : Cx} {k : Nat} {C : Addr} {ps : List Str} {sp : Sp}
/-- what the start must hold for `int * object` -/
structure MulC (K : Fg) (C : Addr) : Prop where
  first : PySem.W.selfFirst K C = true
  mul : ∃ g, PySem.W.findIn K (.ref C) "__mul__" = some (some (.ref g))
  sub : PySem.W.subIn K (.ref C) (.type "int") = some false
  fo : PySem.W.findIn K (.type "int") "__mul__" = some (some (.builtin "int.__mul__"))
  ro : PySem.W.findIn K (.type "int") "__rmul__" = some (some (.builtin "int.__rmul__"))
def rMulR (C : Addr) (sp : Sp) : R2 := fun x y H Q => ∃ (i : Int) (a dx : Addr) (fs : List (Str × V)), x = .int i ∧ y = .ref a ∧ H a = some (.ins C dx fs) ∧ sp [.ref a, .int i] H Q EN
theorem op_mulR (O : OkM (L2.CX X.prog X.w) X.prog X.w X.K X.mg X.base k C "__rmul__" ps sp) (mc : MulC X.K C) (hr : Room k X.A) : OpR X (binaryOp .Mult) (rMulR C sp) := by
  intro pins s σ H x y v u Q I rx ry want
  obtain ⟨i, a, dx, fs, rfl, rfl, ea, q⟩ := want
  obtain ⟨tk, rfl⟩ := (show ∃ t, v = Value.int i t from rx)
  cases (show u = Value.ref a from ry)
  obtain ⟨f, fd, Fo, at_, hb⟩ := O.ex
  obtain ⟨ox, od, J⟩ := ins_inst I ea
  have kin := I.kIn
  obtain ⟨mA, ob, _⟩ := ins_get I.hok ea
  have ha : s.heap.get? a = some (PySem.W.instObj C dx) := ob.1
  obtain ⟨cd, rest, hcd, hm⟩ := PySem.W.ksp_first mc.first
  obtain ⟨g, hg⟩ := mc.mul
  have hg : PySem.W.findIn X.K (.ref C) (PySem.dunder "mul") = some (some (.ref g)) := by rw [d_mul]; exact hg
  have hat : PySem.W.findIn X.K (.ref C) (PySem.dunderR "mul") = some (some (.ref f)) := by rw [d_rmul]; exact at_.at_
  have hfo : PySem.W.findIn X.K (.type "int") (PySem.dunder "mul") = some (some (.builtin "int.__mul__")) := by rw [d_mul]; exact mc.fo
  have hro : PySem.W.findIn X.K (.type "int") (PySem.dunderR "mul") = some (some (.builtin "int.__rmul__")) := by rw [d_rmul]; exact mc.ro
  have one : wpAny (model X.prog X.w) X.A (tryMethod (.ref a) (PySem.dunderR "mul") (.int i tk)) (fun r s' => ∃ v, r = some v ∧ EP X pins σ Q v s') X.xe s :=
    PySem.W.ksp_try kin J hat at_.fn (thn (run_fnS (us := [.ref a, .int i tk]) (vs := [.ref a, .int i]) (E := fun _ => EN) Fo hr hb (passN σ) I (.cons rfl (.cons ⟨tk, rfl⟩ .nil)) q) (by
      rintro r s1 ⟨z, H2, I2, rz, q2⟩
      exact back_of rz ⟨z, H2, I2, rz, q2⟩))
  have zero : ∀ {R : Option Value → Shared → Prop}, R none s → wpAny (model X.prog X.w) X.A (tryMethod (.int i tk) (PySem.dunder "mul") (.ref a)) R X.xe s := fun q => mul_declines ha q
  obtain ⟨hh, gg, dd, tt, os⟩ := s
  have L1 : PySem.W.Looks (model X.prog X.w) hh (typeOf (.int i tk)) (.type "int") := PySem.W.Looks.of_pure rfl
  have L2 : PySem.W.Looks (model X.prog X.w) hh (typeOf (.ref a)) (.ref C) := J.type
  have L3 : PySem.W.Looks (model X.prog X.w) hh (fillsNumberSlot (.ref C) "mul") true := PySem.W.fills_K kin hcd hm hg
  have L4 : PySem.W.Looks (model X.prog X.w) hh (fillsNumberSlot (.type "int") "mul") true := PySem.W.ksp_fillsT kin hfo hro
  have L5 : PySem.W.Looks (model X.prog X.w) hh (isSubtype (.ref C) (.type "int")) false := PySem.W.looks_subIn kin mc.sub
  have L7 : PySem.W.Looks (model X.prog X.w) hh (numberSlotInPython (.type "int") "mul") false := PySem.W.Looks.of_pure rfl
  have hne : (Value.type "int" == Value.ref C) = false := Bool.eq_false_iff.mpr fun q => by cases beq_iff_eq.mp q
  show wpAny _ _ (binaryOp .Mult (.int i tk) (.ref a)) _ _ _
  simp only [binaryOp, show Operator.Mult.info = ("*", "mul") from rfl]
  refine wpAny_holding (wpAny_bind ?_)
  unfold binaryOp1
  refine wpAny_bind (L1.at (wpAny_bind (L2.at (wpAny_bind (L4.at ?_)))))
  simp only [hne, Bool.false_eq_true, if_false]
  ksp_lk
  refine zero ?_
  ksp_lk
  refine wpAny_mono one (fun r s' hr' => ?_) fun _ _ e => e
  obtain ⟨v, rfl, hq⟩ := hr'
  ksp_lk
  exact hq
/-- what the start must hold for `object ** int` -/
structure PowC (K : Fg) (C : Addr) : Prop where
  first : PySem.W.selfFirst K C = true
  rc : PySem.W.findIn K (.ref C) "__rpow__" = some none
  fo : PySem.W.findIn K (.type "int") "__pow__" = some (some (.builtin "int.__pow__"))
  ro : PySem.W.findIn K (.type "int") "__rpow__" = some (some (.builtin "int.__rpow__"))
def rPowT (C : Addr) (sp : Sp) : R2 := fun x y H Q => ∃ (i : Int) (a dx : Addr) (fs : List (Str × V)), x = .ref a ∧ y = .int i ∧ H a = some (.ins C dx fs) ∧ sp [.ref a, .int i] H Q EN
theorem op_powT (O : OkM (L2.CX X.prog X.w) X.prog X.w X.K X.mg X.base k C "__pow__" ps sp) (pc : PowC X.K C) (hr : Room k X.A) : OpR X (binaryOp .Pow) (rPowT C sp) := by
  intro pins s σ H x y v u Q I rx ry want
  obtain ⟨i, a, dx, fs, rfl, rfl, ea, q⟩ := want
  obtain ⟨tk, rfl⟩ := (show ∃ t, u = Value.int i t from ry)
  cases (show v = Value.ref a from rx)
  obtain ⟨f, fd, Fo, at_, hb⟩ := O.ex
  obtain ⟨ox, od, J⟩ := ins_inst I ea
  obtain ⟨_, fr⟩ := I.fr
  have hat : PySem.W.findIn X.K (.ref C) (PySem.dunder (Operator.Pow.info).2) = some (some (.ref f)) := by rw [show (Operator.Pow.info).2 = "pow" from rfl, d_pow]; exact at_.at_
  have hrc : PySem.W.findIn X.K (.ref C) (PySem.dunderR (Operator.Pow.info).2) = some none := by rw [show (Operator.Pow.info).2 = "pow" from rfl, d_rpow]; exact pc.rc
  have hfo : PySem.W.findIn X.K (.type "int") (PySem.dunder (Operator.Pow.info).2) = some (some (.builtin "int.__pow__")) := by rw [show (Operator.Pow.info).2 = "pow" from rfl, d_pow]; exact pc.fo
  have hro : PySem.W.findIn X.K (.type "int") (PySem.dunderR (Operator.Pow.info).2) = some (some (.builtin "int.__rpow__")) := by rw [show (Operator.Pow.info).2 = "pow" from rfl, d_rpow]; exact pc.ro
  refine PySem.W.ksp_binT fr I.ok.mod.kin J rfl pc.first hat at_.fn hrc (.inl rfl) hfo hro (plain_sub "int" (by decide)) (thn (run_fnS (us := [.ref a, .int i tk]) (vs := [.ref a, .int i]) (E := fun _ => EN) Fo hr hb (passN σ) I (.cons rfl (.cons ⟨tk, rfl⟩ .nil)) q) ?_)
  rintro r s1 ⟨z, H2, I2, rz, q2⟩
  exact back_of rz ⟨z, H2, I2, rz, q2⟩
end
end EV

/-! operators of own classes that may raise: the error is taken as the place takes it -/
namespace EV
open PySem PySem.Spec PyProof.Rows L2
section
variable {X : Cx} {k : Nat} {C : Addr} {ps : List Str} {sp : Sp}
def OpRE (X : Cx) (f : Value → Value → Sem Value) (r : L2.St → R2) : Prop :=
  ∀ (pins : List (Addr × Obj)) (s : Shared) (σ : L2.St) (H : Hp) (x y : V) (v u : Value) (Q : VK), Inv X pins σ H s → RelV x v → RelV y u → r σ x y H Q → wpAny (model X.prog X.w) X.A (f v u) (EP X pins σ Q) X.xe s
def UnRE (X : Cx) (f : Value → Sem Value) (r : L2.St → V → Hp → VK → Prop) : Prop :=
  ∀ (pins : List (Addr × Obj)) (s : Shared) (σ : L2.St) (H : Hp) (x : V) (v : Value) (Q : VK), Inv X pins σ H s → RelV x v → r σ x H Q → wpAny (model X.prog X.w) X.A (f v) (EP X pins σ Q) X.xe s
def CallRE (X : Cx) (f : Value) (r : L2.St → List V → Hp → VK → Prop) : Prop :=
  ∀ (pins : List (Addr × Obj)) (s : Shared) (σ : L2.St) (H : Hp) (xs : List V) (us : List Value) (Q : VK), Inv X pins σ H s → Vals xs us → r σ xs H Q → wpAny (model X.prog X.w) X.A (call f us) (EP X pins σ Q) X.xe s
theorem pe_opE {op : Operator} {a b : Expr} {ta tb : TE} {pos : Pos} {r : L2.St → R2} (ho : OpRE X (binaryOp op) r) (ha : PE X a ta) (hb : PE X b tb) : PE X (.BinOp a op b pos) (fun σ H Q => ta σ H fun x H1 => tb σ H1 fun y H2 => r σ x y H2 Q) := by
  refine ⟨fun pins s σ H Q I h => ?_⟩
  exact wpAny_BinOp (binT ha hb I h fun v u s2 x y H2 I2 rx ry q => ho pins s2 σ H2 x y v u Q I2 rx ry q)
theorem pe_unE {op : UnaryOp} {a : Expr} {ta : TE} {pos : Pos} {r : L2.St → V → Hp → VK → Prop} (ho : UnRE X (unaryOp op) r) (ha : PE X a ta) : PE X (.UnaryOp op a pos) (fun σ H Q => ta σ H fun x H1 => r σ x H1 Q) := by
  refine ⟨fun pins s σ H Q I h => ?_⟩
  exact UnaryOp_ (thn (ha.run pins s σ H _ I h) fun v s1 ⟨x, H1, I1, r1, q1⟩ => ho pins s1 σ H1 x v Q I1 r1 q1)
theorem pe_callBE {id : String} {x : Str} {p pos : Pos} {e : Expr} {es : List Expr} {t : TA} {r : L2.St → List V → Hp → VK → Prop} (hc : CallRE X (.builtin id) r) (hg : Gl X x) (hm : X.mg x = none) (hv : bootBuiltins x = some (.builtin id)) (ha : PA X (e :: es) t) (hn : x ≠ "__name__" := by decide) (hdb : (x == ("__debug__" : Str)) = false := by decide)
    (he : starEach (e :: es) X.env = (false, eval e X.env) :: starEach es X.env := by rfl) (hpl : (backTo pos (starEach es X.env)).any (·.1) = false := by rfl) : PE X (.Call (.Name x p) (e :: es) [] pos) (fun σ H Q => t σ H fun vs H1 => r σ vs H1 Q) := by
  refine ⟨fun pins s σ H Q I h => ?_⟩
  refine wpAny_Call_Name_kw (ld_blt I hg hm hv ?_ hn hdb)
  exact PyProof.Rows.callWith_builtin1 (thn (ha.run pos pins s σ H _ I h) fun us s1 ⟨vs, H1, I1, r1, q1⟩ => hc pins s1 σ H1 vs us Q I1 r1 q1) he hpl
def rBinE (C : Addr) (sp : Sp) (E : XK) : R2 := fun x y H Q => ∃ a b dx dy fs gs, x = .ref a ∧ y = .ref b ∧ H a = some (.ins C dx fs) ∧ H b = some (.ins C dy gs) ∧ sp [.ref a, .ref b] H Q E
theorem op_binE {cx : CXT} {E : L2.St → XK} (hx : ∀ σ, PassesAt cx X σ (E σ)) {op : Operator} {m : Str} (O : OkM cx X.prog X.w X.K X.mg X.base k C m ps sp) (first : PySem.W.selfFirst X.K C = true) (hr : Room k X.A) (hm : m = PySem.dunder op.info.2 := by rfl) : OpRE X (binaryOp op) (fun σ => rBinE C sp (E σ)) := by
  subst hm
  intro pins s σ H x y v u Q I rx ry want
  obtain ⟨a, b, dx, dy, fs, gs, rfl, rfl, ea, eb, q⟩ := want
  cases (show v = Value.ref a from rx)
  cases (show u = Value.ref b from ry)
  obtain ⟨f, fd, F, at_, hb⟩ := O.ex
  obtain ⟨_, _, J⟩ := ins_inst I ea
  obtain ⟨_, _, J'⟩ := ins_inst I eb
  obtain ⟨_, fr⟩ := I.fr
  refine PySem.W.binop_K fr I.ok.mod.kin J J'.type first at_.at_ at_.fn (thn (run_fnS (us := [.ref a, .ref b]) (vs := [.ref a, .ref b]) (E := E) F hr hb (hx σ) I (.cons rfl (.cons rfl .nil)) q) ?_)
  rintro r s1 ⟨z, H2, I2, rz, q2⟩
  exact back_of rz ⟨z, H2, I2, rz, q2⟩
def rUnE (C : Addr) (sp : Sp) (E : XK) : V → Hp → VK → Prop := fun x H Q => ∃ a dx fs, x = .ref a ∧ H a = some (.ins C dx fs) ∧ sp [.ref a] H Q E
theorem un_runE {cx : CXT} {E : L2.St → XK} (hx : ∀ σ, PassesAt cx X σ (E σ)) {m : Str} (O : OkM cx X.prog X.w X.K X.mg X.base k C m ps sp) (hr : Room k X.A) {pins : List (Addr × Obj)} {σ : L2.St} {H : Hp} {s : Shared} {a : Addr} {Q : VK} (I : Inv X pins σ H s) (q : sp [.ref a] H Q (E σ)) :
    ∃ f, PySem.W.findIn X.K (.ref C) m = some (some (.ref f)) ∧ PySem.W.isFn X.K (.ref f) = true ∧ wpAny (model X.prog X.w) X.A (call (.ref f) [.ref a]) (EP X pins σ Q) X.xe s := by
  obtain ⟨f, fd, F, at_, hb⟩ := O.ex
  exact ⟨f, at_.at_, at_.fn, run_fnS (us := [.ref a]) (vs := [.ref a]) (E := E) F hr hb (hx σ) I (.cons rfl .nil) q⟩
theorem un_negE {cx : CXT} {E : L2.St → XK} (hx : ∀ σ, PassesAt cx X σ (E σ)) (O : OkM cx X.prog X.w X.K X.mg X.base k C "__neg__" ps sp) (hr : Room k X.A) : UnRE X (unaryOp .USub) (fun σ => rUnE C sp (E σ)) := by
  rintro pins s σ H x v Q I rx ⟨a, dx, fs, rfl, ea, q⟩
  cases (show v = Value.ref a from rx)
  obtain ⟨f, h1, h2, h3⟩ := un_runE hx O hr I q
  obtain ⟨_, _, J⟩ := ins_inst I ea
  obtain ⟨_, fr⟩ := I.fr
  exact PySem.W.ksp_neg fr I.ok.mod.kin J h1 h2 h3
theorem un_posE {cx : CXT} {E : L2.St → XK} (hx : ∀ σ, PassesAt cx X σ (E σ)) (O : OkM cx X.prog X.w X.K X.mg X.base k C "__pos__" ps sp) (hr : Room k X.A) : UnRE X (unaryOp .UAdd) (fun σ => rUnE C sp (E σ)) := by
  rintro pins s σ H x v Q I rx ⟨a, dx, fs, rfl, ea, q⟩
  cases (show v = Value.ref a from rx)
  obtain ⟨f, h1, h2, h3⟩ := un_runE hx O hr I q
  obtain ⟨_, _, J⟩ := ins_inst I ea
  obtain ⟨_, fr⟩ := I.fr
  exact PySem.W.ksp_pos fr I.ok.mod.kin J h1 h2 h3
theorem un_invE {cx : CXT} {E : L2.St → XK} (hx : ∀ σ, PassesAt cx X σ (E σ)) (O : OkM cx X.prog X.w X.K X.mg X.base k C "__invert__" ps sp) (hr : Room k X.A) : UnRE X (unaryOp .Invert) (fun σ => rUnE C sp (E σ)) := by
  rintro pins s σ H x v Q I rx ⟨a, dx, fs, rfl, ea, q⟩
  cases (show v = Value.ref a from rx)
  obtain ⟨f, h1, h2, h3⟩ := un_runE hx O hr I q
  obtain ⟨_, _, J⟩ := ins_inst I ea
  obtain ⟨_, fr⟩ := I.fr
  exact PySem.W.ksp_inv fr I.ok.mod.kin J h1 h2 h3
/-- abs(x) -/
theorem call_absE {cx : CXT} {E : L2.St → XK} (hx : ∀ σ, PassesAt cx X σ (E σ)) (O : OkM cx X.prog X.w X.K X.mg X.base k C "__abs__" ps sp) (hr : Room (k + 1) X.A) : CallRE X (.builtin "abs") (fun σ xs H Q => ∃ a dx fs, xs = [.ref a] ∧ H a = some (.ins C dx fs) ∧ sp [.ref a] H Q (E σ)) := by
  intro pins s σ H xs us Q I r want
  obtain ⟨a, dx, fs, rfl, ea, q⟩ := want
  obtain ⟨u, rfl, ru⟩ := vals1 r
  cases (show u = Value.ref a from ru)
  obtain ⟨f, fd, F, at_, hb⟩ := O.ex
  obtain ⟨_, _, J⟩ := ins_inst I ea
  have h1 : Room k X.A.in1 := Room.in1 hr
  have hl : ([.ref a] : List Value).length = ps.length := F.len _ _ _ _ q
  have bb := hb s [.ref a] I.kIn (by rw [List.append_nil]; exact hl)
  rw [List.append_nil] at bb
  have run : wpAny (model X.prog X.w) X.A.in1 (call (.ref f) [.ref a]) (EP X pins σ Q) X.xe s := by
    have e0 := I.env0
    refine wpAny_call (codeAny_mono (F.run X.A.in1 X.stack s H ⟨[.ref a], []⟩ [.ref a] [.ref a] Q (E σ) h1 { e0 with frames := e0.frames } bb (.cons rfl .nil) q) fun z s' hq => ?_)
    have hh := ret_of I (fun er hq => hx σ _ _ _ _ _ I hq) hq
    rcases z with er | fl
    · exact hh
    · cases fl with
      | ret u => exact hh
      | next => exact hh
      | brk => exact hh
      | cont => exact hh
  refine PySem.Calls.call_function_entry kind_abs plain_abs entry_abs (args_abs _) ?_
  unfold Builtin.«abs»
  refine wpAny_bind (m := oneArg "abs" _) (wpAny_pure ?_)
  refine wpAny_bind (m := callSpecial? (.ref a) (Str.ofString "__abs__")) (PySem.W.special_fn I.kIn J at_.at_ (beq_iff_eq.mp at_.fn) (wpAny_mono run ?_ fun _ _ y => y))
  intro v s' hv
  exact wpAny_pure ⟨v, rfl, hv⟩
def rMulE (C : Addr) (sp : Sp) (E : XK) : R2 := fun x y H Q => ∃ (i : Int) (a dx : Addr) (fs : List (Str × V)), x = .int i ∧ y = .ref a ∧ H a = some (.ins C dx fs) ∧ sp [.ref a, .int i] H Q E
theorem op_mulE {cx : CXT} {E : L2.St → XK} (hx : ∀ σ, PassesAt cx X σ (E σ)) (O : OkM cx X.prog X.w X.K X.mg X.base k C "__rmul__" ps sp) (mc : MulC X.K C) (hr : Room k X.A) : OpRE X (binaryOp .Mult) (fun σ => rMulE C sp (E σ)) := by
  intro pins s σ H x y v u Q I rx ry want
  obtain ⟨i, a, dx, fs, rfl, rfl, ea, q⟩ := want
  obtain ⟨tk, rfl⟩ := (show ∃ t, v = Value.int i t from rx)
  cases (show u = Value.ref a from ry)
  obtain ⟨f, fd, Fo, at_, hb⟩ := O.ex
  obtain ⟨ox, od, J⟩ := ins_inst I ea
  have kin := I.kIn
  obtain ⟨mA, ob, _⟩ := ins_get I.hok ea
  have ha : s.heap.get? a = some (PySem.W.instObj C dx) := ob.1
  obtain ⟨cd, rest, hcd, hm⟩ := PySem.W.ksp_first mc.first
  obtain ⟨g, hg⟩ := mc.mul
  have hg : PySem.W.findIn X.K (.ref C) (PySem.dunder "mul") = some (some (.ref g)) := by rw [d_mul]; exact hg
  have hat : PySem.W.findIn X.K (.ref C) (PySem.dunderR "mul") = some (some (.ref f)) := by rw [d_rmul]; exact at_.at_
  have hfo : PySem.W.findIn X.K (.type "int") (PySem.dunder "mul") = some (some (.builtin "int.__mul__")) := by rw [d_mul]; exact mc.fo
  have hro : PySem.W.findIn X.K (.type "int") (PySem.dunderR "mul") = some (some (.builtin "int.__rmul__")) := by rw [d_rmul]; exact mc.ro
  have one : wpAny (model X.prog X.w) X.A (tryMethod (.ref a) (PySem.dunderR "mul") (.int i tk)) (fun r s' => ∃ v, r = some v ∧ EP X pins σ Q v s') X.xe s :=
    PySem.W.ksp_try kin J hat at_.fn (thn (run_fnS (us := [.ref a, .int i tk]) (vs := [.ref a, .int i]) (E := E) Fo hr hb (hx σ) I (.cons rfl (.cons ⟨tk, rfl⟩ .nil)) q) (by
      rintro r s1 ⟨z, H2, I2, rz, q2⟩
      exact back_of rz ⟨z, H2, I2, rz, q2⟩))
  have zero : ∀ {R : Option Value → Shared → Prop}, R none s → wpAny (model X.prog X.w) X.A (tryMethod (.int i tk) (PySem.dunder "mul") (.ref a)) R X.xe s := fun q => mul_declines ha q
  obtain ⟨hh, gg, dd, tt, os⟩ := s
  have L1 : PySem.W.Looks (model X.prog X.w) hh (typeOf (.int i tk)) (.type "int") := PySem.W.Looks.of_pure rfl
  have L2 : PySem.W.Looks (model X.prog X.w) hh (typeOf (.ref a)) (.ref C) := J.type
  have L3 : PySem.W.Looks (model X.prog X.w) hh (fillsNumberSlot (.ref C) "mul") true := PySem.W.fills_K kin hcd hm hg
  have L4 : PySem.W.Looks (model X.prog X.w) hh (fillsNumberSlot (.type "int") "mul") true := PySem.W.ksp_fillsT kin hfo hro
  have L5 : PySem.W.Looks (model X.prog X.w) hh (isSubtype (.ref C) (.type "int")) false := PySem.W.looks_subIn kin mc.sub
  have L7 : PySem.W.Looks (model X.prog X.w) hh (numberSlotInPython (.type "int") "mul") false := PySem.W.Looks.of_pure rfl
  have hne : (Value.type "int" == Value.ref C) = false := Bool.eq_false_iff.mpr fun q => by cases beq_iff_eq.mp q
  show wpAny _ _ (binaryOp .Mult (.int i tk) (.ref a)) _ _ _
  simp only [binaryOp, show Operator.Mult.info = ("*", "mul") from rfl]
  refine wpAny_holding (wpAny_bind ?_)
  unfold binaryOp1
  refine wpAny_bind (L1.at (wpAny_bind (L2.at (wpAny_bind (L4.at ?_)))))
  simp only [hne, Bool.false_eq_true, if_false]
  ksp_lk
  refine zero ?_
  ksp_lk
  refine wpAny_mono one (fun r s' hr' => ?_) fun _ _ e => e
  obtain ⟨v, rfl, hq⟩ := hr'
  ksp_lk
  exact hq
def rPowE (C : Addr) (sp : Sp) (E : XK) : R2 := fun x y H Q => ∃ (i : Int) (a dx : Addr) (fs : List (Str × V)), x = .ref a ∧ y = .int i ∧ H a = some (.ins C dx fs) ∧ sp [.ref a, .int i] H Q E
theorem op_powE {cx : CXT} {E : L2.St → XK} (hx : ∀ σ, PassesAt cx X σ (E σ)) (O : OkM cx X.prog X.w X.K X.mg X.base k C "__pow__" ps sp) (pc : PowC X.K C) (hr : Room k X.A) : OpRE X (binaryOp .Pow) (fun σ => rPowE C sp (E σ)) := by
  intro pins s σ H x y v u Q I rx ry want
  obtain ⟨i, a, dx, fs, rfl, rfl, ea, q⟩ := want
  obtain ⟨tk, rfl⟩ := (show ∃ t, u = Value.int i t from ry)
  cases (show v = Value.ref a from rx)
  obtain ⟨f, fd, Fo, at_, hb⟩ := O.ex
  obtain ⟨ox, od, J⟩ := ins_inst I ea
  obtain ⟨_, fr⟩ := I.fr
  have hat : PySem.W.findIn X.K (.ref C) (PySem.dunder (Operator.Pow.info).2) = some (some (.ref f)) := by rw [show (Operator.Pow.info).2 = "pow" from rfl, d_pow]; exact at_.at_
  have hrc : PySem.W.findIn X.K (.ref C) (PySem.dunderR (Operator.Pow.info).2) = some none := by rw [show (Operator.Pow.info).2 = "pow" from rfl, d_rpow]; exact pc.rc
  have hfo : PySem.W.findIn X.K (.type "int") (PySem.dunder (Operator.Pow.info).2) = some (some (.builtin "int.__pow__")) := by rw [show (Operator.Pow.info).2 = "pow" from rfl, d_pow]; exact pc.fo
  have hro : PySem.W.findIn X.K (.type "int") (PySem.dunderR (Operator.Pow.info).2) = some (some (.builtin "int.__rpow__")) := by rw [show (Operator.Pow.info).2 = "pow" from rfl, d_rpow]; exact pc.ro
  refine PySem.W.ksp_binT fr I.ok.mod.kin J rfl pc.first hat at_.fn hrc (.inl rfl) hfo hro (plain_sub "int" (by decide)) (thn (run_fnS (us := [.ref a, .int i tk]) (vs := [.ref a, .int i]) (E := E) Fo hr hb (hx σ) I (.cons rfl (.cons ⟨tk, rfl⟩ .nil)) q) ?_)
  rintro r s1 ⟨z, H2, I2, rz, q2⟩
  exact back_of rz ⟨z, H2, I2, rz, q2⟩
end
end EV

namespace K36
open PySem PySem.Spec PyProof.Rows L2 EV TL LM PM TR
theorem ExAt.at {K : Fg} {H : Hp} {C a : Addr} {ps : List Part} (h : ExAt K H C a ps) : ∃ dx pp pss, H a = some (.ins C dx (exF pp pss)) := let ⟨dx, pp, pss, e, _⟩ := h; ⟨dx, pp, pss, e⟩
theorem kit_sub {K : Fg} {D : Value} {C : Addr} {b : Bool} (hd : PySem.W.hasDictIn K C = true) (ty : PySem.W.typeIn K (.ref C) = some (.type "type")) (s : PySem.W.subIn K D (.ref C) = some b) (ne : D = .ref C → b = true) : PySem.W.kitOne K D (.ref C) = some b := by
  unfold PySem.W.kitOne PySem.W.kitCls
  by_cases e : (D == Value.ref C) = true
  · rw [if_pos e, ne (beq_iff_eq.mp e)]
  · rw [if_neg e]
    dsimp only
    obtain ⟨cd, hc, _⟩ := PySem.W.any_some hd
    rw [hc, ty]
    show (if (true && (some (Value.type "type") == some (Value.type "type"))) = true then PySem.W.subIn K D (.ref C) else none) = some b
    rw [if_pos (by decide +kernel)]
    exact s
theorem kit_subT {K : Fg} {D : Addr} {T : String} {b : Bool} (m : PySem.W.kitMeta T = true) (s : PySem.W.subIn K (.ref D) (.type T) = some b) : PySem.W.kitOne K (.ref D) (.type T) = some b := by
  unfold PySem.W.kitOne PySem.W.kitCls
  rw [if_neg (by simp)]
  dsimp only
  rw [if_pos m]
  exact s

/-- what the text says of the error's class where it is caught -/
structure CatchC (K : Fg) (mg : Str → Option Value) (x : Str) (C : Addr) : Prop where
  nm : mg x = some (.ref C)
  te : PySem.W.exmOne K (.ref C) (.ref C) = some true
theorem look1 {f : Str} {v : V} : List.lookup f [(f, v)] = some v := by simp [List.lookup]
theorem sc_law_readE : FnScope ["text", "made", "e"] ["text"] (defScope s_law_read) := ⟨rfl, rfl, rfl, by decide +kernel, rfl, by decide +kernel, by decide +kernel⟩
section
variable {X : Cx}
/-- isinstance of the own error that an except suite holds -/
def rIsS (K : PySem.W.Frag) (a C : Addr) (cls : Value) (d : Option Addr) : List V → Hp → VK → Prop := fun xs H Q => ∃ (c : V) (u : Value) (b : Bool) (dd : Addr) (fs : List (Str × V)), xs = [.ref a, c] ∧ ClsV c u ∧ cls = .ref C ∧ d = some dd ∧ H dd = some (.xd fs) ∧
  PySem.W.kitOne K (.ref C) u = some b ∧ Q (.bl b) H
theorem call_isS {C a : Addr} {oe : Obj} {cls : Value} {d : Option Addr} {pn : List (Addr × Obj)} (T : XCls X.K C) (hz : Zc cls d oe) (hf : ∃ vs, oe.data = .fields vs) : CallR (X.suite a ((a, oe) :: pn)) (.builtin "isinstance") (rIsS X.K a C cls d) := by
  intro pins s σ H xs us Q I r h
  obtain ⟨c, u, b, dd, fs, rfl, hc, rfl, rfl, ea, ek, q⟩ := h
  obtain ⟨u1, u2, rfl, r1, r2⟩ := vals2 r
  obtain rfl : u1 = Value.ref a := r1
  have e2 := hc.eq r2
  subst e2
  have ha := (I.pin (a, oe) (List.mem_append_left _ List.mem_cons_self)).1
  obtain ⟨vs, hd⟩ := hf
  obtain ⟨mA, hns, hr⟩ := (I.hok dd _ ea : ObjOk X.prog X.w H s.heap dd (.xd fs))
  obtain ⟨od, ho, hl⟩ := lookIn_ns hns
  have J : PySem.W.InstAt s.heap a oe C (some od) := ⟨ha, hz.1, by unfold PySem.W.notCls; rw [hd] <;> rfl, by rw [hz.2]; exact ho⟩
  exact PySem.W.kia_one (PySem.W.kitx_exc (by obtain ⟨cd, hc, _⟩ := PySem.W.any_some T.ex.hd; rw [hc]; rfl) T.ex.hg T.ex.hk T.ex.hs T.ex.ha T.ex.hn T.ex.ht T.ex.hm) I.kIn J ek (fun z => nomatch z)
    fun tk => ⟨.bl b, H, I.kept (t' := tk) fun _ _ z => z, rfl, q⟩
end
section
variable {P : Program} {w : World} {K : Fg} {mg : Str → Option Value} {base : Heap}
/-- what comes of a text -/
def spReadL : Sp := fun vs H Q _ => ∃ t : Str, vs = [.str t] ∧ t.length ≤ 1000000 ∧ (∀ k, parseM t = .error k → ∀ a G, Same H G → H a = none → G a = some (.lst [.str "wrong", .int (k : Nat)]) → Q (.ref a) G) ∧
  (∀ ps, parseM t = .ok ps → (100 < (signsP ps).length → ∀ a G, Same H G → H a = none → G a = some (.lst [.str "many", .str "steps", .bl true]) → Q (.ref a) G) ∧ (ps.length ≤ 1000000 ∧ ((signsP ps).length ≤ 100 → ∀ G, Same H G → Q (.int ((signsP ps).length : Nat)) G)))
theorem ok_law_read {f C CB CT CH : Addr} {fd : FuncData} (F : Fun K "_law_read" "_law_read" s_law_read f fd) (T : Cst K mg) (gL : mg "Expression" = some (.ref C)) (cB : CatchC K mg "BadExpression" CB) (cT : CatchC K mg "TooMany" CT) (xB : XCls K CB) (nB : NoAttr K CB "at") (xT : XCls K CT) (nT : NoAttr K CT "what")
    (gH : mg "HeirsbackError" = some (.ref CH)) (eTB : PySem.W.exmOne K (.ref CT) (.ref CB) = some false) (hT : PySem.W.kitOne K (.ref CT) (.ref CH) = some true) (Ol : OkM CX0 P w K mg base 1 C "__len__" ["self"] (spLenE K C))
    (Cr : OkCM P w K mg base 8 C "read" ["cls", "text"] (spRead K C CB CT)) : FnOk P w K mg base CX0 9 f fd ["text"] spReadL := by
  refine F.ok sc_law_readE (fun vs H Q E h => ?_) (fun cdv A outer s H vs Q E hr h => ?_)
  · obtain ⟨t, rfl, _⟩ := h
    rfl
  · obtain ⟨t, rfl, hl, k1, k2⟩ := h
    refine ⟨_, (pss_cons (ps_try_asMany rfl rfl sc_law_readE.nd takes0 (fun W pn xe tk _ => pss_one (ps_set (i := 1) sc_law_readE.nd rfl (Or.inl rfl) (pe_cmethX tk (pe_glob (v := .ref C) rfl gL rfl) Cr (hr.mono (by decide)) (pa_cons (pv 0) pa_nil))))
      (.cons (i := 2) rfl rfl ⟨rfl, by decide, .inl cB.nm⟩ (fun a oe cls d pn hz hv => pss_one (ps_ret (pe_lst (pa_cons pe_str (pa_cons (pe_byX xB nB hz hv (pv 2)) pa_nil))))) (.cons (i := 2) rfl rfl ⟨rfl, by decide, .inl cT.nm⟩ (fun a oe cls d pn hz hv => pss_one (ps_ret (pe_lst (pa_cons pe_str (pa_cons (pe_byX xT nT hz hv (pv 2)) (pa_cons (pe_callB (call_isS xT hz hv) (by rfl) T.n_isinstance (by decide +kernel) (pa_cons (pv 2) (pa_cons (pe_glob (v := .ref CH) rfl gH rfl) pa_nil))) pa_nil)))))) .nil)))
      (pss_one (ps_ret (pe_callB (call_lenO Ol (hr.mono (by decide))) (by rfl) T.n_len (by decide +kernel) (pa_cons (pv 1) pa_nil))))), ?_⟩
    refine ⟨rfl, _, rfl, _, _, rfl, .inl ⟨t, rfl, hl, fun k e d H' s1 hd => ?_, fun ps e => ⟨fun q d H' s1 hd => ?_, fun q a H' s1 na ha => ?_⟩⟩⟩
    · refine ⟨true, cB.te, fun _ a9 na => ?_, fun q => by cases q⟩
      refine ⟨_, rfl, rfl, rfl, d, _, _, rfl, hd, look1, ?_⟩
      refine ⟨by show 2 ≤ sizeLine; decide, fun l nl => ?_⟩
      exact k1 k e l _ (s1.trans (same_upd nl)) (s1.free nl) upd_same
    · refine ⟨false, eTB, (fun q => by cases q), fun _ => ⟨true, cT.te, fun _ a9 na => ?_, fun q => by cases q⟩⟩
      refine ⟨_, rfl, rfl, rfl, d, _, _, rfl, hd, look1, ?_⟩
      refine ⟨_, rfl, _, _, true, d, _, rfl, .own CH, rfl, rfl, hd, hT, ?_⟩
      refine ⟨by show 3 ≤ sizeLine; decide, fun l nl => ?_⟩
      exact (k2 ps e).1 q l _ (s1.trans (same_upd nl)) (s1.free nl) upd_same
    · obtain ⟨dx, pp, pss, e1⟩ := ha.at
      have kk := (k2 ps e).2
      exact ⟨_, rfl, a, dx, _, rfl, e1, a, ps, rfl, ha, _, rfl, by omega, by omega, kk.2 q H' s1⟩
end
end K36

namespace K36
open PySem PySem.Spec PyProof.Rows L2 EV TL LM PM TR
theorem app_assoc (a b c : Str) : a ++ b ++ c = a ++ (b ++ c) := ext_tl (by simp only [tl_append, List.append_assoc])
theorem pre_len : ∀ {f : Frm}, f.ok → f.pre.length ≤ 12 ∧ f.post.length ≤ 12
  | .un sg, ok => by
    have h := (un_small ok).2.1
    rw [← len_tl] at h
    refine ⟨?_, by show (")" : Str).length ≤ 12; decide +kernel⟩
    show (sg ++ ("(" : Str)).length ≤ 12
    rw [TR.len_app, show ("(" : Str).length = 1 by decide +kernel]
    omega
  | .lft sg, ok => by
    have h := (bin_word sg ok).2.2
    rw [← len_tl] at h
    refine ⟨by show ("(" : Str).length ≤ 12; decide +kernel, ?_⟩
    show ((" " : Str) ++ sg ++ (" b:Pair)" : Str)).length ≤ 12
    rw [TR.len_app, TR.len_app, show (" " : Str).length = 1 by decide +kernel, show (" b:Pair)" : Str).length = 8 by decide +kernel]
    omega
  | .rgt sg, ok => by
    have h := (bin_word sg ok).2.2
    rw [← len_tl] at h
    refine ⟨?_, by show (")" : Str).length ≤ 12; decide +kernel⟩
    show (("(neg:Q " : Str) ++ sg ++ (" " : Str)).length ≤ 12
    rw [TR.len_app, TR.len_app, show (" " : Str).length = 1 by decide +kernel, show ("(neg:Q " : Str).length = 7 by decide +kernel]
    omega
theorem ahead_len : ∀ {fs : List Frm}, (∀ f ∈ fs, f.ok) → (ahead fs).length ≤ 12 * fs.length ∧ (behind fs).length ≤ 12 * fs.length
  | [], _ => ⟨by show ("" : Str).length ≤ 0; decide +kernel, by show ("" : Str).length ≤ 0; decide +kernel⟩
  | f :: fs, h => by
    obtain ⟨h1, h2⟩ := pre_len (h f List.mem_cons_self)
    obtain ⟨h3, h4⟩ := ahead_len fun g hg => h g (List.mem_cons_of_mem _ hg)
    refine ⟨?_, ?_⟩
    · show (f.pre ++ ahead fs).length ≤ _
      rw [TR.len_app, List.length_cons]
      omega
    · show (behind fs ++ f.post).length ≤ _
      rw [TR.len_app, List.length_cons]
      omega
section
variable {P : Program} {w : World} {K : Fg} {mg : Str → Option Value} {base : Heap}
/-- a nested text: what stands ahead of its place, what behind, how many signs -/
def spNested : Sp := fun vs H Q _ => ∃ (b : Addr) (many : Nat), vs = [.ref b, .int (many : Nat)] ∧ BagAt H b ∧ many ≤ 200 ∧
  ∀ (t : Addr) (fs : List Frm) (H' : Hp), Keep b H H' → BagAt H' b → H' t = some (.tup [.str (ahead fs), .str (("x:Pair" : Str) ++ behind fs), .int (many : Nat)]) → fs.length = many → (∀ f ∈ fs, f.ok) → Q (.ref t) H'
theorem ok_law_nested {f : Addr} {fd : FuncData} (F : Fun K "_law_nested" "_law_nested" s_law_nested f fd) (T : Cst K mg) (O_law_take : Ok P w K mg base 1 "_law_take" ["bag", "many"] spTake) (O_law_of : Ok P w K mg base 2 "_law_of" ["bag", "some"] spOf) :
    FnOk P w K mg base CX0 3 f fd ["bag", "many"] spNested := by
  refine F.ok sc_law_nested (fun vs H Q E h => ?_) (fun cdv A outer s H vs Q E hr h => ?_)
  · obtain ⟨b, many, rfl, _⟩ := h
    rfl
  · obtain ⟨b, many, rfl, B, m200, k⟩ := h
    refine ⟨_, (pss_cons (ps_asg (pe_tup (pa_cons pe_str (pa_cons pe_str (pa_cons pe_int pa_nil)))) (pg_tup rfl (pgs_cons (pg_name (i := 2) sc_law_nested.nd rfl (Or.inl rfl)) (pgs_cons (pg_name (i := 3) sc_law_nested.nd rfl (Or.inl rfl)) (pgs_cons (pg_name (i := 4) sc_law_nested.nd rfl (Or.inl rfl)) pgs_nil)))))
    (pss_cons (ps_for PassesOwn.never rfl (pi_range1 rfl T.n_range (pa_cons (pv 1) pa_nil)) (pg_name (i := 5) sc_law_nested.nd rfl (Or.inl rfl)) (pss_cons (ps_set (i := 6) sc_law_nested.nd rfl (Or.inl rfl) (pe_callO O_law_take (hr.mono (by decide)) (pa_cons (pv 0) (pa_cons pe_int pa_nil))))
    (pss_cons (ps_set (i := 7) sc_law_nested.nd rfl (Or.inl rfl) (pe_callO O_law_of (hr.mono (by decide)) (pa_cons (pv 0) (pa_cons (pe_lst (pa_cons pe_str (pa_cons pe_str (pa_cons pe_str (pa_cons pe_str pa_nil))))) pa_nil))))
    (pss_cons (ps_if (pt_cmpR op_gt (pv 6) pe_int (nomark _)) (pss_one (ps_set (i := 7) sc_law_nested.nd rfl (Or.inl rfl) (pe_callO O_law_of (hr.mono (by decide)) (pa_cons (pv 0) (pa_cons (pe_lst (pa_cons pe_str (pa_cons pe_str (pa_cons pe_str (pa_cons pe_str (pa_cons pe_str (pa_cons pe_str (pa_cons pe_str (pa_cons pe_str (pa_cons pe_str pa_nil)))))))))) pa_nil))))) pss_nil)
    (pss_cons (ps_if (pt_cmpR op_eq (pv 6) pe_int (nomark _)) (pss_one (ps_par (i := 2) (j := 3) (by rfl) sc_law_nested.nd rfl rfl (by decide) rfl rfl (pa_cons (pe_op op_add_str (pe_op op_add_str (pv 2) (pv 7)) pe_str) (pa_cons (pe_op op_add_str pe_str (pv 3)) pa_nil)) (by rfl))) (pss_one (ps_if (pt_cmpR op_eq (pv 6) pe_int (nomark _)) (pss_one (ps_par (i := 2) (j := 3) (by rfl) sc_law_nested.nd rfl rfl (by decide) rfl rfl (pa_cons (pe_op op_add_str (pv 2) pe_str) (pa_cons (pe_op op_add_str (pe_op op_add_str (pe_op op_add_str pe_str (pv 7)) pe_str) (pv 3)) pa_nil)) (by rfl))) (pss_one (ps_par (i := 2) (j := 3) (by rfl) sc_law_nested.nd rfl rfl (by decide) rfl rfl (pa_cons (pe_op op_add_str (pe_op op_add_str (pe_op op_add_str (pv 2) pe_str) (pv 7)) pe_str) (pa_cons (pe_op op_add_str pe_str (pv 3)) pa_nil)) (by rfl))))))
    (pss_one (ps_aug (i := 4) sc_law_nested.nd rfl (Or.inl rfl) pe_int ip_add)))))))
    (pss_one (ps_ret (pe_tup (pa_cons (pv 2) (pa_cons (pe_op op_add_str pe_str (pv 3)) (pa_cons (pv 4) pa_nil)))))))), ?_⟩
    refine ⟨by show 3 ≤ sizeLine; decide, fun t0 nt0 => ⟨_, _, rfl, SqT.of upd_same, rfl, _, _, rfl, _, _, rfl, _, _, rfl, rfl, _, rfl, _, rfl, by omega, by omega, ?_⟩⟩
    have zl : ∀ {n : Nat}, n ≤ 100000 → n ≤ sizeLine := fun h => by rw [sizeLine_eq]; omega
    have l1 : ("(" : Str).length = 1 := by decide +kernel
    have l2 : (")" : Str).length = 1 := by decide +kernel
    have l3 : (" " : Str).length = 1 := by decide +kernel
    have l4 : (" b:Pair)" : Str).length = 8 := by decide +kernel
    have l5 : ("(neg:Q " : Str).length = 7 := by decide +kernel
    have l6 : ("x:Pair" : Str).length = 6 := by decide +kernel
    refine for_range (lo := 0) (n := ((many : Nat) : Int).toNat) (fun i σ G => ∃ (fs : List Frm) (u5 u6 u7 : Option V), σ = [some (.ref b), some (.int (many : Nat)), some (.str (ahead fs)), some (.str (behind fs)), some (.int (i : Nat)), u5, u6, u7] ∧ Keep b H G ∧ BagAt G b ∧ fs.length = i ∧ ∀ f ∈ fs, f.ok)
      ⟨[], none, none, none, rfl, Keep.of (same_upd nt0), B.same (same_upd nt0), rfl, fun f hf => by cases hf⟩ ?_ ?_
    · rintro i σ G hi ⟨fs, u5, u6, u7, rfl, K1, B1, lf, okf⟩
      have hi : i < many := by omega
      obtain ⟨a1, a2⟩ := ahead_len okf
      have fin : ∀ (f : Frm) (v5 v6 v7 : Option V) (x y : Str) (G' : Hp), f.ok → Keep b H G' → BagAt G' b → x = ahead fs ++ f.pre → y = f.post ++ behind fs →
          ∃ (gs : List Frm) (u5 u6 u7 : Option V), [some (V.ref b), some (.int (many : Nat)), some (.str x), some (.str y), some (.int ((i : Int) + 1)), v5, v6, v7] = [some (V.ref b), some (.int (many : Nat)), some (.str (ahead gs)), some (.str (behind gs)), some (.int ((i + 1 : Nat) : Int)), u5, u6, u7] ∧ Keep b H G' ∧ BagAt G' b ∧ gs.length = i + 1 ∧ ∀ f ∈ gs, f.ok := by
        intro f v5 v6 v7 x y G' of k' B' ex ey
        refine ⟨fs ++ [f], v5, v6, v7, ?_, k', B', by rw [List.length_append, lf]; rfl, fun g hg => ?_⟩
        · rw [ahead_add, behind_add, ex, ey]
          rfl
        · rcases List.mem_append.mp hg with h | h
          · exact okf g h
          · rw [List.mem_singleton.mp h]; exact of
      refine ⟨_, rfl, b, 3, rfl, B1, by decide, by decide, fun r G2 r0 r1 k2 B2 => ?_⟩
      refine ⟨_, rfl, by show 4 ≤ sizeLine; decide, fun l nl => ⟨b, l, _, rfl, B2.same (same_upd nl), upd_same, B2.ne nl, by decide, by decide, fun x G3 hx k3 B3 => ?_⟩⟩
      obtain ⟨sg, hsg, rfl⟩ : ∃ sg ∈ unary, V.str sg = x := List.mem_map.mp hx
      have K3 : Keep b H G3 := K1.trans (k2.trans ((Keep.of (same_upd (o := .lst _) nl)).trans k3))
      have s8 : sg.length ≤ 8 := by rw [len_tl]; exact (un_small hsg).2.1
      clear k2 k3 nl hx B2 B1 K1
      refine ⟨_, rfl, _, _, rfl, rfl, _, rfl, ?_⟩
      by_cases h0 : r = 0
      · subst h0
        refine iteF ⟨_, rfl, rfl, _, rfl, ?_⟩
        rw [decide_eq_true rfl]
        refine iteT ⟨_, rfl, _, rfl, _, _, rfl, rfl, zl (by omega), _, _, rfl, rfl, zl (by rw [TR.len_app]; omega), _, rfl, _, _, rfl, rfl, zl (by omega), _, _, rfl, ?_⟩
        refine ⟨_, rfl, _, _, rfl, rfl, ?_⟩
        exact fin (.un sg) _ _ _ _ _ _ hsg K3 B3 (app_assoc _ _ _) rfl
      · rw [decide_eq_true (show r > 0 by omega)]
        refine iteT ⟨_, rfl, by show 9 ≤ sizeLine; decide, fun l nl => ⟨b, l, _, rfl, B3.same (same_upd nl), upd_same, B3.ne nl, by decide, by decide, fun x G4 hx k4 B4 => ?_⟩⟩
        obtain ⟨sb, hsb, rfl⟩ : ∃ sb ∈ binary, V.str sb = x := List.mem_map.mp hx
        have K4 : Keep b H G4 := K3.trans ((Keep.of (same_upd (o := .lst _) nl)).trans k4)
        have s2 : sb.length ≤ 2 := by rw [len_tl]; exact (bin_word sb hsb).2.2
        clear k4 nl hx
        refine ⟨_, rfl, rfl, _, rfl, ?_⟩
        rw [decide_eq_false (show ¬ V.int r = V.int 0 from fun q => h0 (by injection q))]
        refine iteF ⟨_, rfl, rfl, _, rfl, ?_⟩
        by_cases h1 : r = 1
        · subst h1
          rw [decide_eq_true rfl]
          refine iteT ⟨_, rfl, _, _, rfl, rfl, zl (by omega), _, rfl, _, _, rfl, rfl, zl (by omega), _, _, rfl, rfl, zl (by rw [TR.len_app]; omega), _, rfl, _, _, rfl, rfl, zl (by rw [TR.len_app, TR.len_app]; omega), _, _, rfl, ?_⟩
          refine ⟨_, rfl, _, _, rfl, rfl, ?_⟩
          exact fin (.lft sb) _ _ _ _ _ _ hsb K4 B4 rfl rfl
        · rw [decide_eq_false (show ¬ V.int r = V.int 1 from fun q => h1 (by injection q))]
          refine iteF ⟨_, rfl, _, _, rfl, rfl, zl (by omega), _, rfl, _, _, rfl, rfl, zl (by rw [TR.len_app]; omega), _, _, rfl, rfl, zl (by rw [TR.len_app, TR.len_app]; omega), _, rfl, _, _, rfl, rfl, zl (by omega), _, _, rfl, ?_⟩
          refine ⟨_, rfl, _, _, rfl, rfl, ?_⟩
          exact fin (.rgt sb) _ _ _ _ _ _ hsb K4 B4 (by show _ = ahead fs ++ (("(neg:Q " : Str) ++ sb ++ (" " : Str)); rw [app_assoc, app_assoc, app_assoc]) rfl
    · rintro σ G ⟨fs, u5, u6, u7, rfl, K1, B1, lf, okf⟩
      have lf : fs.length = many := by omega
      obtain ⟨a1, a2⟩ := ahead_len okf
      refine ⟨_, rfl, _, rfl, _, _, rfl, rfl, zl (by omega), _, rfl, by show 3 ≤ sizeLine; decide, fun t nt => ?_⟩
      exact k t fs _ (K1.trans (Keep.of (same_upd nt))) (B1.same (same_upd nt)) upd_same lf okf
end
end K36

/-! enumerate(text) -/
namespace EV
open PySem PySem.Spec PyProof.Rows L2
/-- the letters of a text, each in a new pair -/
def IteS (x : Str) : It :=
  ⟨fun i _ => i < x.cps.size, fun i H v H' => ∃ T c, v = .ref T ∧ H T = none ∧ x.cps[i]? = some c ∧ H' = upd H T (.tup [.int (i : Nat), .str ⟨#[c]⟩]), fun i _ => x.cps.size ≤ i⟩
theorem turn_enumS {P : Program} {w : World} {K : PySem.W.Frag} {elts : List Expr} {kk : Nat} {tpos : Pos} (x : Str) (t : Tok) (e it : Addr) :
    Turn P w K (.Tuple elts kk tpos) (IteS x) [e, it] e (fun i h => (∃ old, IsEnum h e it ((i : Nat) : Int) old) ∧ h.IsStrIter it (strIterType x) x t i ∧ e ≠ it ∧ i ≤ x.cps.size) where
  mem := by simp
  obj := fun i h st b hb => by
    obtain ⟨⟨old, he⟩, ⟨o, ho, hc, hd⟩, _⟩ := st
    have e' : b = e ∨ b = it := by simpa using hb
    rcases e' with z | z
    · rw [z]; exact ⟨_, he, fun v q => nomatch q⟩
    · rw [z]; exact ⟨o, ho, fun v q => by rw [hd] at q; cases q⟩
  keep := fun i h h' st k => let ⟨⟨old, he⟩, ⟨o, ho, r⟩, hne, hi⟩ := st; ⟨⟨old, k e (by simp) _ he⟩, ⟨o, k it (by simp) o ho, r⟩, hne, hi⟩
  item := by
    intro X hP hw hK hc i pins s σ H E I hf st hg
    subst hP hw hK
    obtain ⟨⟨old, he⟩, hit, hne, hi⟩ := st
    have hel : e < s.heap.objs.size := Heap.lt_size he
    have hil : it < s.heap.objs.size := by obtain ⟨_, q, _⟩ := hit; exact Heap.lt_size q
    refine wpAny_pyNext_enum_itemD (Draws.text (A := X.A.in1) (I.ok.hd hc) it x t) he hit hg hne (by simpa using hne) fun u h' tk hu ho hit' hT hsz hk => ?_
    obtain ⟨c, u', hcx, rfl⟩ := hu
    refine ⟨_, rfl, wpAny_letOwnedTupleGo_enum (s := { s with heap := h', toks := tk + 1 }) ho fun h'' he' sb => ?_⟩
    have hT2 := (sb.2 _ (Nat.ne_of_gt hel)).trans hT
    have new : ObjOk X.prog X.w (upd H s.heap.objs.size (.tup [.int (i : Nat), .str ⟨#[c]⟩])) h'' s.heap.objs.size (.tup [.int (i : Nat), .str ⟨#[c]⟩]) :=
      ⟨by show 2 ≤ sizeLine; decide, [.int i tk, .str ⟨#[c]⟩ u'], .cons ⟨_, rfl⟩ (.cons ⟨_, rfl⟩ .nil), ⟨_, hT2, rfl, _, rfl⟩⟩
    have I1 : Inv X pins σ (upd H s.heap.objs.size (.tup [.int (i : Nat), .str ⟨#[c]⟩])) { s with heap := h'', toks := tk + 1 } :=
      I.turnedNew (ch := [e, it]) (fun b ob hb q => (sb.2 b (fun z => hb (by simp [z]))).trans (hk b ob (fun z => hb (by simp [z])) (fun z => hb (by simp [z])) q)) hf (Nat.le_refl _) new
    refine ⟨.ref s.heap.objs.size, _, I1, rfl, ⟨_, c, rfl, I.hok.fresh (Nat.le_refl _), hcx, rfl⟩, ⟨⟨.str ⟨#[c]⟩ u', ?_⟩, ?_, hne, hg⟩, fun b hb => ?_⟩
    · have e1 : ((i + 1 : Nat) : Int) = (i : Int) + 1 := by omega
      rw [e1]; exact he'
    · obtain ⟨o, q, r⟩ := hit'
      exact ⟨o, (sb.2 it (Ne.symm hne)).trans q, r⟩
    · have hb' : b < s.heap.objs.size := by
        have e' : b = e ∨ b = it := by simpa using hb
        rcases e' with z | z
        · rw [z]; exact hel
        · rw [z]; exact hil
      rw [upd_ne (Nat.ne_of_lt hb')]
      exact (hf b hb).1
  done := by
    intro X hP hw hK hc i pins s σ H E I hf st hg
    subst hP hw hK
    obtain ⟨⟨old, he⟩, hit, hne, hi⟩ := st
    obtain ⟨f0, f1, f2, f3, f4, f5⟩ := hf it (by simp)
    obtain rfl : i = x.cps.size := Nat.le_antisymm hi hg
    exact wpAny_pyNext_enum_endD (Draws.text (A := X.A.in1) (I.ok.hd hc) it x t) he hit fun h' eb => ⟨rfl, I.turned (t' := s.toks) (fun b o hb q => eb b o hb q) f0 f1 f3 f4 f5⟩
  self := fun A i s Q E st h => let ⟨⟨_, he⟩, _⟩ := st; wpAny_pyIter_enum he h
def iEnumS (ta : TA) : TI := fun σ H R => ta σ H fun vs H1 => ∃ x : Str, vs = [.str x] ∧ R (IteS x) H1
theorem pi_enumS {X : Cx} {e : Expr} {ta : TA} {p pos tpos : Pos} {elts : List Expr} {kk : Nat} (hg : Gl X "enumerate") (hm : X.mg "enumerate" = none) (ha : PA X [e] ta) (hs : starEach [e] X.env = [(false, eval e X.env)] := by rfl) :
    PI X (.Tuple elts kk tpos) (.Call (.Name "enumerate" p) [e] [] pos) (iEnumS ta) := by
  refine ⟨fun pins s σ H R I h => ?_⟩
  refine Call_ (ld_blt I hg hm boot_enumerate (PyProof.Rows.callWith_type1 (thn (ha.run pos pins s σ H _ I h) fun us s1 ⟨vs, H1, I1, r1, q1⟩ => ?_) hs rfl))
  obtain ⟨x, ex, q⟩ := q1
  subst ex
  cases r1 with
  | cons r rr =>
    cases rr
    obtain ⟨t, rfl⟩ := r
    refine call_enumerate_str fun h' he hit hsz hk => wpAny_pyIter_enum he ?_
    have I2 : Inv X pins σ H1 { s1 with heap := h' } := I1.kept (t' := s1.toks) hk
    refine ⟨s1.heap.objs.size + 1, [s1.heap.objs.size + 1, s1.heap.objs.size], _, _, H1, rfl, I2, turn_enumS x t (s1.heap.objs.size + 1) s1.heap.objs.size, ⟨⟨.none, he⟩, hit, Nat.succ_ne_self _, Nat.zero_le _⟩, fun b hb => ?_, q⟩
    have e' : b = s1.heap.objs.size + 1 ∨ b = s1.heap.objs.size := by simpa using hb
    have hle : s1.heap.objs.size ≤ b := by
      rcases e' with z | z
      · rw [z]; exact Nat.le_add_right _ _
      · rw [z]; exact Nat.le_refl _
    exact I1.fpOk hle (I1.hok.fresh hle)
end EV

namespace K36
open PySem PySem.Spec PyProof.Rows L2 EV TL LM PM TR
theorem Keep.same {b : Addr} {H H1 H2 : Hp} (k : Keep b H H1) (s : Same H1 H2) : Keep b H H2 := k.trans (Keep.of s)
theorem signs_app (a b : List Part) : signsP (a ++ b) = signsP a ++ signsP b := List.filterMap_append
theorem signs_one {sg : Str} (h : sg ≠ "") : signsP [((sg, "", "") : Part)] = [sg] := by
  unfold signsP
  rw [List.filterMap_cons]
  have e : signP ((sg, "", "") : Part) = some sg := if_neg h
  rw [e]
  rfl
theorem leaf_none {lab nm : Str} : signsP [(("", lab, nm) : Part)] = [] := by
  unfold signsP
  rw [List.filterMap_cons]
  have e : signP (("", lab, nm) : Part) = none := if_pos rfl
  rw [e]
  rfl
theorem un_ne {s : Str} (h : s ∈ unary) : s ≠ "" := small_ne (un_small h)
theorem bin_ne : ∀ s ∈ binary, s ≠ "" := by decide +kernel
theorem signs_plug : ∀ {fs : List Frm} {T : Tre}, (∀ f ∈ fs, f.ok) → (signsP (plug fs T).parts).length = fs.length + (signsP T.parts).length ∧ (plug fs T).parts.length ≤ 2 * fs.length + T.parts.length
  | [], T, _ => ⟨(Nat.zero_add _).symm, by show T.parts.length ≤ _; omega⟩
  | .un sg :: fs, T, h => by
    obtain ⟨h1, h2⟩ := signs_plug (T := T) fun g hg => h g (List.mem_cons_of_mem _ hg)
    have hs : sg ∈ unary := h (.un sg) List.mem_cons_self
    have lc : (Frm.un sg :: fs).length = fs.length + 1 := rfl
    rw [lc]
    refine ⟨?_, ?_⟩
    · show (signsP ((plug fs T).parts ++ [((sg, "", "") : Part)])).length = _
      rw [signs_app, signs_one (un_ne hs), List.length_append, h1]
      show _ + 1 = _
      omega
    · show ((plug fs T).parts ++ [((sg, "", "") : Part)]).length ≤ _
      rw [List.length_append]
      show _ + 1 ≤ _
      omega
  | .lft sg :: fs, T, h => by
    obtain ⟨h1, h2⟩ := signs_plug (T := T) fun g hg => h g (List.mem_cons_of_mem _ hg)
    have hs : sg ∈ binary := h (.lft sg) List.mem_cons_self
    have lc : (Frm.lft sg :: fs).length = fs.length + 1 := rfl
    rw [lc]
    refine ⟨?_, ?_⟩
    · show (signsP ((plug fs T).parts ++ ([(("", "b", "Pair") : Part)] ++ [((sg, "", "") : Part)]))).length = _
      rw [signs_app, signs_app, leaf_none, signs_one (bin_ne sg hs), List.length_append, h1]
      show _ + 1 = _
      omega
    · show ((plug fs T).parts ++ ([(("", "b", "Pair") : Part)] ++ [((sg, "", "") : Part)])).length ≤ _
      rw [List.length_append]
      show _ + 2 ≤ _
      omega
  | .rgt sg :: fs, T, h => by
    obtain ⟨h1, h2⟩ := signs_plug (T := T) fun g hg => h g (List.mem_cons_of_mem _ hg)
    have hs : sg ∈ binary := h (.rgt sg) List.mem_cons_self
    have lc : (Frm.rgt sg :: fs).length = fs.length + 1 := rfl
    rw [lc]
    refine ⟨?_, ?_⟩
    · show (signsP ([(("", "neg", "Q") : Part)] ++ ((plug fs T).parts ++ [((sg, "", "") : Part)]))).length = _
      rw [signs_app, signs_app, leaf_none, signs_one (bin_ne sg hs), List.nil_append, List.length_append, h1]
      show _ + 1 = _
      omega
    · show ([(("", "neg", "Q") : Part)] ++ ((plug fs T).parts ++ [((sg, "", "") : Part)])).length ≤ _
      rw [List.length_append, List.length_append]
      show 1 + (_ + 1) ≤ _
      omega
theorem text_x (fs : List Frm) : (plug fs (.leaf "x" "Pair")).text = ahead fs ++ (("x:Pair" : Str) ++ behind fs) := by
  rw [plug_str, show (Tre.leaf "x" "Pair").text = ("x:Pair" : Str) by decide +kernel]
/-- what stands ahead of the place, alone, is refused at its end -/
theorem ahead_no {f : Frm} {fs : List Frm} (ok : ∀ g ∈ f :: fs, g.ok) (hd : (f :: fs).length ≤ 100) : parseM (ahead (f :: fs)) = .error (ahead (f :: fs)).length := by
  have okT : (plug (f :: fs) (.leaf "x" "Pair")).ok := plug_ok ok ⟨sw_x "x" (by simp), cw_Pr⟩
  have dT : (plug (f :: fs) (.leaf "x" "Pair")).depth ≤ 100 := by rw [plug_depth]; exact hd
  have e := plug_text (f :: fs) (.leaf "x" "Pair")
  have lT : 0 < (tl (Tre.leaf "x" "Pair").text).length := by decide +kernel
  have ll : (ahead (f :: fs)).length < (plug (f :: fs) (.leaf "x" "Pair")).text.length := by
    rw [len_tl, len_tl (plug _ _).text, e, List.length_append, List.length_append]
    omega
  refine cut_parse (t := (plug (f :: fs) (.leaf "x" "Pair")).text) ⟨Nat.le_of_lt ll, ?_, fun c hc => ?_⟩ (fun q => by omega) (parse_text okT dT) (start_top okT plug_top)
  · rw [e, len_tl, List.take_left, List.take_length]
  · rw [len_tl, List.getElem?_eq_none (Nat.le_refl _)] at hc
    cases hc
/-- the place of the bracket that is one too many -/
theorem place_iff {A S B : List Nat} (hA : A.count 40 = 100) (hS : S.count 40 = 0) {i : Nat} (hi : (A ++ (S ++ 40 :: B))[i]? = some 40) : (((A ++ (S ++ 40 :: B)).take i).count 40 + 1 = 101) ↔ i = A.length + S.length := by
  have cP : ((A ++ (S ++ 40 :: B)).take (A.length + S.length)).count 40 = 100 := by
    rw [← List.append_assoc, List.take_append_of_le_length (by rw [List.length_append]; exact Nat.le_refl _), show A.length + S.length = (A ++ S).length from List.length_append.symm, List.take_length, List.count_append, hA, hS]
  have up : ∀ {m n : Nat}, m ≤ n → ((A ++ (S ++ 40 :: B)).take m).count 40 ≤ ((A ++ (S ++ 40 :: B)).take n).count 40 := fun {m n} h => by
    have : (A ++ (S ++ 40 :: B)).take m = ((A ++ (S ++ 40 :: B)).take n).take m := by rw [List.take_take, Nat.min_eq_left h]
    rw [this]
    exact (List.take_sublist _ _).count_le 40
  have next : ((A ++ (S ++ 40 :: B)).take (i + 1)).count 40 = ((A ++ (S ++ 40 :: B)).take i).count 40 + 1 := by
    rw [List.take_succ, hi, List.count_append]
    rfl
  have hP : (A ++ (S ++ 40 :: B))[A.length + S.length]? = some 40 := by
    rw [← List.append_assoc, List.getElem?_append_right (by rw [List.length_append]; exact Nat.le_refl _), List.length_append, Nat.sub_self]
    rfl
  have nextP : ((A ++ (S ++ 40 :: B)).take (A.length + S.length + 1)).count 40 = 101 := by
    rw [List.take_succ, hP, List.count_append, cP]
    rfl
  constructor
  · intro h
    rcases Nat.lt_trichotomy i (A.length + S.length) with z | z | z
    · have := up (show i + 1 ≤ A.length + S.length from z)
      omega
    · exact z
    · have := up (show A.length + S.length + 1 ≤ i from z)
      omega
  · rintro rfl
    omega
section
variable {P : Program} {w : World} {K : Fg} {mg : Str → Option Value} {base : Heap}
theorem dp_wrong {H : Hp} {p : Addr} {k : Nat} (h : SqL K H p [.str "wrong", .int (k : Nat)]) : Dp K H (.ref p) (.list [.str "wrong", .int (k : Nat)]) := .lst h (.cons (.str _) (.cons (.int _) .nil))
theorem shaped_wrong (k : Int) : SeqAt.shaped (.list [.str "wrong", .int k]) = true := by
  unfold SeqAt.shaped
  have e : PyData.canLay0 (.list [.str "wrong", .int k]) = true := by
    show (PyData.strOk "wrong" && (true && true)) = true
    rw [show PyData.strOk "wrong" = true by decide +kernel]
    rfl
  rw [e, Bool.true_and]
  refine decide_eq_true ?_
  rw [PyData.depth]
  simp [PyData.depthAll, PyData.depth]
theorem eqv_wrong (k : Int) : PyData.eqvAll [.str "wrong", .int k] [.str "wrong", .int k] = true := by
  show ((("wrong" : Str) == "wrong") && ((k == k) && true)) = true
  simp
theorem eq_wrong {H : Hp} {p q : Addr} {k : Nat} {Q : VK} (h1 : SqL K H p [.str "wrong", .int (k : Nat)]) (h2 : SqL K H q [.str "wrong", .int (k : Nat)]) (kk : Q (.bl true) H) : rEqD K (.ref p) (.ref q) H Q := by
  refine ⟨_, _, dp_wrong h1, dp_wrong h2, shaped_wrong _, shaped_wrong _, ?_⟩
  show Q (.bl (PyData.eqvAll [.str "wrong", .int (k : Nat)] [.str "wrong", .int (k : Nat)])) H
  rw [eqv_wrong]
  exact kk
theorem ne_wrong {H : Hp} {p q : Addr} {k : Nat} {Q : VK} (h1 : SqL K H p [.str "wrong", .int (k : Nat)]) (h2 : SqL K H q [.str "wrong", .int (k : Nat)]) (kk : Q (.bl false) H) : rNeD K (.ref p) (.ref q) H Q := by
  refine ⟨_, _, dp_wrong h1, dp_wrong h2, shaped_wrong _, shaped_wrong _, ?_⟩
  show Q (.bl (!PyData.eqvAll [.str "wrong", .int (k : Nat)] [.str "wrong", .int (k : Nat)])) H
  rw [eqv_wrong]
  exact kk
def spNR : Sp := fun vs H Q _ => ∃ (b : Addr) (many : Nat), vs = [.ref b, .int (many : Nat)] ∧ BagAt H b ∧ 1 ≤ many ∧ many ≤ 200 ∧ ∀ H', Keep b H H' → BagAt H' b → Q (.bl true) H'
theorem ok_law_nested_right {f : Addr} {fd : FuncData} (F : Fun K "_law_nested_right" "_law_nested_right" s_law_nested_right f fd) (T : Cst K mg) (O_law_nested : Ok P w K mg base 3 "_law_nested" ["bag", "many"] spNested) (O_law_read : Ok P w K mg base 9 "_law_read" ["text"] spReadL) :
    FnOk P w K mg base CX0 10 f fd ["bag", "many"] spNR := by
  refine F.ok sc_law_nested_right (fun vs H Q E h => ?_) (fun cdv A outer s H vs Q E hr h => ?_)
  · obtain ⟨b, many, rfl, _⟩ := h
    rfl
  · obtain ⟨b, many, rfl, B, m1, m200, k⟩ := h
    refine ⟨_, (pss_cons (ps_asg (pe_callO O_law_nested (hr.mono (by decide)) (pa_cons (pv 0) (pa_cons (pv 1) pa_nil))) (pg_tup rfl (pgs_cons (pg_name (i := 2) sc_law_nested_right.nd rfl (Or.inl rfl)) (pgs_cons (pg_name (i := 3) sc_law_nested_right.nd rfl (Or.inl rfl)) (pgs_cons (pg_name (i := 4) sc_law_nested_right.nd rfl (Or.inl rfl)) pgs_nil)))))
    (pss_cons (ps_set (i := 5) sc_law_nested_right.nd rfl (Or.inl rfl) (pe_op op_add_str (pv 2) (pv 3)))
    (pss_cons (ps_if (pt_cmpR op_le (pv 1) pe_int (nomark _)) (pss_one (ps_ret (pe_and (pe_cmpR op_eq (pe_callO O_law_read (hr.mono (by decide)) (pa_cons (pv 5) pa_nil)) (pv 4) (nomark _)) (pe_one (pe_cmpR (op_eqD hr.units) (pe_callO O_law_read (hr.mono (by decide)) (pa_cons (pv 2) pa_nil)) (pe_lst (pa_cons pe_str (pa_cons (pe_callB call_len_str (by rfl) T.n_len (by decide +kernel) (pa_cons (pv 2) pa_nil)) pa_nil))) (nomark _)))))) pss_nil)
    (pss_cons (ps_asg (pe_tup (pa_cons pe_int (pa_cons pe_int pa_nil))) (pg_tup rfl (pgs_cons (pg_name (i := 6) sc_law_nested_right.nd rfl (Or.inl rfl)) (pgs_cons (pg_name (i := 7) sc_law_nested_right.nd rfl (Or.inl rfl)) pgs_nil))))
    (pss_cons (ps_for PassesOwn.never rfl (pi_enumS (by rfl) T.n_enumerate (pa_cons (pv 2) pa_nil)) (pg_tup rfl (pgs_cons (pg_name (i := 8) sc_law_nested_right.nd rfl (Or.inl rfl)) (pgs_cons (pg_name (i := 9) sc_law_nested_right.nd rfl (Or.inl rfl)) pgs_nil))) (pss_one (ps_if (pt_cmpR op_eq (pv 9) pe_str (nomark _)) (pss_cons (ps_aug (i := 6) sc_law_nested_right.nd rfl (Or.inl rfl) pe_int ip_add)
    (pss_one (ps_if (pt_cmpR op_eq (pv 6) pe_int (nomark _)) (pss_one (ps_set (i := 7) sc_law_nested_right.nd rfl (Or.inl rfl) (pv 8))) pss_nil))) pss_nil)))
    (pss_cons (ps_if (PW.pt (pw_or (pt_cmpR (op_neD hr.units) (pe_callO O_law_read (hr.mono (by decide)) (pa_cons (pe_slice sl_str (pv 5) po_none (po_some (pv 7))) pa_nil)) (pe_lst (pa_cons pe_str (pa_cons (pv 7) pa_nil))) (nomark _)) (pw_or1 (pt_cmpR (op_neD hr.units) (pe_callO O_law_read (hr.mono (by decide)) (pa_cons (pe_slice sl_str (pv 5) po_none (po_some (pe_op op_add (pv 7) pe_int))) pa_nil)) (pe_lst (pa_cons pe_str (pa_cons (pv 7) pa_nil))) (nomark _))))) (pss_one (ps_ret pe_bl)) pss_nil)
    (pss_one (ps_ret (pe_cmpR (op_eqD hr.units) (pe_callO O_law_read (hr.mono (by decide)) (pa_cons (pv 5) pa_nil)) (pe_lst (pa_cons pe_str (pa_cons (pv 7) pa_nil))) (nomark _)))))))))), ?_⟩
    have zl : ∀ {n : Nat}, n ≤ 100000 → n ≤ sizeLine := fun h => by rw [sizeLine_eq]; omega
    refine ⟨_, rfl, _, rfl, b, many, rfl, B, m200, fun t fs G1 k1 B1 ht lf okf => ⟨_, _, rfl, SqT.of ht, rfl, _, _, rfl, _, _, rfl, _, _, rfl, rfl, ?_⟩⟩
    obtain ⟨a1, a2⟩ := ahead_len okf
    have l6 : ("x:Pair" : Str).length = 6 := by decide +kernel
    refine ⟨_, rfl, _, rfl, _, _, rfl, rfl, zl (by rw [TR.len_app]; omega), ?_⟩
    have ex := text_x fs
    have lt : (ahead fs ++ (("x:Pair" : Str) ++ behind fs)).length ≤ 10000 := by rw [TR.len_app, TR.len_app]; omega
    rw [← ex] at lt ⊢
    have okT : (plug fs (.leaf "x" "Pair")).ok := plug_ok okf ⟨sw_x "x" (by simp), cw_Pr⟩
    obtain ⟨sg, pl⟩ := signs_plug (fs := fs) (T := .leaf "x" "Pair") okf
    have s0 : (signsP (Tre.leaf "x" "Pair").parts).length = 0 := congrArg List.length leaf_none
    have p0 : (Tre.leaf "x" "Pair").parts.length = 1 := rfl
    rw [s0, lf] at sg
    rw [p0, lf] at pl
    refine ⟨_, rfl, _, _, rfl, rfl, _, rfl, ?_⟩
    by_cases h100 : many ≤ 100
    · rw [decide_eq_true (show ((many : Nat) : Int) ≤ 100 by omega)]
      have dT : (plug fs (.leaf "x" "Pair")).depth ≤ 100 := by rw [plug_depth, lf]; exact h100
      have hp := parse_text okT dT
      refine iteT ⟨_, rfl, _, rfl, by omega, (fun q e => by rw [hp] at e; cases e), fun ps e => ?_⟩
      rw [hp] at e
      injection e with e
      subst e
      refine ⟨fun q => by omega, by omega, fun _ G2 s2 => ⟨_, rfl, rfl, _, rfl, ?_⟩⟩
      rw [decide_eq_true (show V.int (((signsP (plug fs (.leaf "x" "Pair")).parts).length : Nat) : Int) = V.int ((many : Nat) : Int) by rw [sg]; rfl)]
      obtain ⟨f0, fs', rfl⟩ : ∃ f0 fs', fs = f0 :: fs' := by
        cases fs with
        | nil => simp at lf; omega
        | cons f0 fs' => exact ⟨f0, fs', rfl⟩
      have hn := ahead_no okf (by omega)
      refine iteT ⟨_, rfl, _, rfl, by omega, (fun q e a G3 s3 na ga => ?_), (fun ps e => by rw [hn] at e; cases e)⟩
      rw [hn] at e
      injection e with e
      subst e
      refine ⟨_, rfl, _, rfl, zl (by omega), by show 2 ≤ sizeLine; decide, fun l nl => eq_wrong (SqL.of (same_upd nl _ _ ga)) (SqL.of upd_same) ?_⟩
      exact k _ ((k1.same s2).same (s3.trans (same_upd nl))) ((B1.same s2).same (s3.trans (same_upd nl)))
    · rw [decide_eq_false (show ¬ ((many : Nat) : Int) ≤ 100 by omega)]
      refine iteF ⟨by show 2 ≤ sizeLine; decide, fun t0 nt0 => ⟨_, _, rfl, SqT.of upd_same, rfl, _, _, rfl, _, _, rfl, rfl, ?_⟩⟩
      have g0 := same_upd (o := .tup [V.int 0, V.int 0]) nt0
      have K0 := k1.same g0
      have B0 := B1.same g0
      generalize upd G1 t0 (.tup [V.int 0, V.int 0]) = G0 at K0 B0
      clear g0 nt0 k1 B1
      -- the hundred and first frame
      obtain ⟨gs, f, hs, rfl, hg⟩ : ∃ gs f hs, fs = gs ++ f :: hs ∧ gs.length = 100 := by
        have h1 : 100 < fs.length := by omega
        refine ⟨fs.take 100, fs[100], fs.drop 101, ?_, by rw [List.length_take]; omega⟩
        rw [← List.drop_eq_getElem_cons h1, List.take_append_drop]
      have okg : ∀ g ∈ gs, g.ok := fun g hgm => okf g (List.mem_append_left _ hgm)
      have okf1 : f.ok := okf f (List.mem_append_right _ List.mem_cons_self)
      obtain ⟨bb, eb, cS, _⟩ := count_pre okf1
      have cA := count_ahead okg
      rw [hg] at cA
      obtain ⟨A, eA⟩ : ∃ A, A = tl (ahead gs) := ⟨_, rfl⟩
      obtain ⟨S, eS⟩ : ∃ S, S = tl f.name := ⟨_, rfl⟩
      have eL : tl (ahead (gs ++ f :: hs)) = A ++ (S ++ 40 :: (bb ++ tl (ahead hs))) := by
        rw [ahead_app, tl_append]
        show tl (ahead gs) ++ tl (f.pre ++ ahead hs) = _
        rw [tl_append, eb, ← eA, ← eS]
        simp only [List.append_assoc, List.cons_append]
      rw [← eA] at cA
      rw [← eS] at cS
      have ep : (ahead gs).length + f.name.length = A.length + S.length := by rw [len_tl, len_tl f.name, eA, eS]
      obtain ⟨BB, eBB⟩ : ∃ BB, BB = bb ++ tl (ahead hs) := ⟨_, rfl⟩
      rw [← eBB] at eL
      obtain ⟨p, hp⟩ : ∃ p, p = A.length + S.length := ⟨_, rfl⟩
      have pi := fun {i : Nat} (h : (A ++ (S ++ 40 :: BB))[i]? = some 40) => place_iff (B := BB) cA cS h
      rw [← hp] at pi ep
      have nL : (ahead (gs ++ f :: hs)).cps.size = (tl (ahead (gs ++ f :: hs))).length := rfl
      have pL : p < (tl (ahead (gs ++ f :: hs))).length := by
        rw [eL, List.length_append, List.length_append, List.length_cons]
        omega
      have o40 : ("(" : Str) = ⟨#[40]⟩ := by decide +kernel
      refine ⟨_, rfl, ahead (gs ++ f :: hs), rfl, ?_⟩
      refine for_it (J := IteS (ahead (gs ++ f :: hs))) (n := (ahead (gs ++ f :: hs)).cps.size) (G := fun _ => True) (Y := fun i H v H' => ∃ T c, v = .ref T ∧ H T = none ∧ (ahead (gs ++ f :: hs)).cps[i]? = some c ∧ H' = upd H T (.tup [.int (i : Nat), .str ⟨#[c]⟩]))
        ⟨fun _ _ hi _ => hi, fun _ _ => Nat.le_refl _, fun _ _ _ _ _ _ y => y⟩
        (fun i σ G => Same G0 G ∧ ∃ u8 u9 : Option V, σ = [some (.ref b), some (.int (many : Nat)), some (.str (ahead (gs ++ f :: hs))), some (.str (("x:Pair" : Str) ++ behind (gs ++ f :: hs))), some (.int (many : Nat)), some (.str (plug (gs ++ f :: hs) (.leaf "x" "Pair")).text), some (.int ((((tl (ahead (gs ++ f :: hs))).take i).count 40 : Nat) : Int)), some (.int ((if p < i then p else 0 : Nat) : Int)), u8, u9])
        ⟨Same.refl _, _, _, rfl⟩ (fun _ _ _ _ _ => True.intro) ?_ ?_
      · rintro i x σ G G' hi ⟨s1, u8, u9, rfl⟩ ⟨t1, c, rfl, nt, hc, rfl⟩
        have hc : (tl (ahead (gs ++ f :: hs)))[i]? = some c := by
          rw [← hc]
          show (ahead (gs ++ f :: hs)).cps.toList[i]? = _
          exact Array.getElem?_toList
        have s2 := s1.trans (same_upd (o := .tup [.int (i : Nat), .str ⟨#[c]⟩]) nt)
        have nx : ((tl (ahead (gs ++ f :: hs))).take (i + 1)).count 40 = ((tl (ahead (gs ++ f :: hs))).take i).count 40 + (if c = 40 then 1 else 0) := by
          rw [List.take_succ, hc, List.count_append]
          by_cases h : c = 40
          · subst h; simp
          · simp [h]
        refine ⟨_, _, rfl, SqT.of upd_same, rfl, _, _, rfl, _, _, rfl, rfl, _, rfl, rfl, _, rfl, ?_⟩
        by_cases h40 : c = 40
        · subst h40
          rw [decide_eq_true (show V.str ⟨#[40]⟩ = V.str "(" by rw [o40])]
          refine iteT ⟨_, rfl, _, _, rfl, rfl, _, rfl, rfl, _, rfl, ?_⟩
          rw [eL] at hc
          have pp := pi hc
          rw [← eL] at pp
          rw [if_pos rfl] at nx
          by_cases hip : i = p
          · rw [decide_eq_true (show V.int (((((tl (ahead (gs ++ f :: hs))).take i).count 40 : Nat) : Int) + 1) = V.int 101 by have := pp.mpr hip; congr 1; omega)]
            refine iteT ⟨_, rfl, s2, some (.int (i : Nat)), some (.str ⟨#[40]⟩), ?_⟩
            rw [nx, if_pos (show p < i + 1 by omega), hip]
            rfl
          · rw [decide_eq_false (show ¬ V.int (((((tl (ahead (gs ++ f :: hs))).take i).count 40 : Nat) : Int) + 1) = V.int 101 from fun q => hip (pp.mp (by injection q with q; omega)))]
            refine iteF ⟨s2, some (.int (i : Nat)), some (.str ⟨#[40]⟩), ?_⟩
            rw [nx, show (if p < i + 1 then p else 0) = (if p < i then p else 0) by split <;> split <;> omega]
            rfl
        · rw [decide_eq_false (show ¬ V.str ⟨#[c]⟩ = V.str "(" from fun q => h40 (by rw [o40] at q; injection q with q; injection q with q; have := congrArg Array.toList q; injection this))]
          refine iteF ⟨s2, some (.int (i : Nat)), some (.str ⟨#[c]⟩), ?_⟩
          have np : ¬ i = p := fun e => by
            have : (A ++ (S ++ 40 :: BB))[p]? = some 40 := by
              rw [hp, ← List.append_assoc, List.getElem?_append_right (by rw [List.length_append]; exact Nat.le_refl _), List.length_append, Nat.sub_self]
              rfl
            rw [e, eL, this] at hc
            injection hc with hc
            exact h40 hc.symm
          rw [nx, if_neg h40, Nat.add_zero, show (if p < i + 1 then p else 0) = (if p < i then p else 0) by split <;> split <;> omega]
          rfl
      · rintro σ G ⟨s1, u8, u9, rfl⟩
        rw [nL, if_pos pL]
        have eT : tl (plug (gs ++ f :: hs) (.leaf "x" "Pair")).text = A ++ (S ++ 40 :: (BB ++ tl (("x:Pair" : Str) ++ behind (gs ++ f :: hs)))) := by
          rw [ex, tl_append, eL]
          simp only [List.append_assoc, List.cons_append]
        obtain ⟨TX, eTX⟩ : ∃ TX, TX = (plug (gs ++ f :: hs) (.leaf "x" "Pair")).text := ⟨_, rfl⟩
        rw [← eTX] at eT lt ⊢
        obtain ⟨R, eR⟩ : ∃ R, R = BB ++ tl (("x:Pair" : Str) ++ behind (gs ++ f :: hs)) := ⟨_, rfl⟩
        rw [← eR] at eT
        have pT : p + 1 ≤ TX.length := by
          rw [len_tl, eT, List.length_append, List.length_append, List.length_cons]
          omega
        have tk0 : (A ++ (S ++ 40 :: R)).take p = A ++ (S ++ []) := by
          rw [hp, ← List.append_assoc, show A.length + S.length = (A ++ S).length from List.length_append.symm, List.take_left, List.append_nil]
        have tk1 : (A ++ (S ++ 40 :: R)).take (p + 1) = A ++ (S ++ [40]) := by
          rw [show A ++ (S ++ 40 :: R) = (A ++ (S ++ [40])) ++ R by simp, show p + 1 = (A ++ (S ++ [40])).length by simp [hp]; omega, List.take_left]
        have d0 : parseM (cutS TX none (some ((p : Nat) : Int))) = .error p := by
          rw [deep (r := []) hg okg okf1 (by rw [tl_pre (by omega), eT, tk0, eA, eS]) (.inl rfl), ep]
        have d1 : parseM (cutS TX none (some (((p : Nat) : Int) + 1))) = .error p := by
          rw [show (((p : Nat) : Int) + 1) = ((p + 1 : Nat) : Int) by omega, deep (r := [40]) hg okg okf1 (by rw [tl_pre (by omega), eT, tk1, eA, eS]) (.inr ⟨[], rfl⟩), ep]
        have d2 : parseM TX = .error p := by
          rw [deep (r := 40 :: R) hg okg okf1 (by rw [eT, eA, eS]) (.inr ⟨R, rfl⟩), ep]
        have c0 := cut_len TX none (some ((p : Nat) : Int))
        have c1 := cut_len TX none (some (((p : Nat) : Int) + 1))
        refine ⟨_, rfl, _, rfl, _, rfl, TX, rfl, zl (by omega), _, rfl, by omega, (fun q e a2 G3 s3 na ga => ?_), (fun ps e => by rw [d0] at e; cases e)⟩
        rw [d0] at e
        injection e with e
        subst e
        refine ⟨_, rfl, by show 2 ≤ sizeLine; decide, fun l nl => ne_wrong (SqL.of (same_upd nl _ _ ga)) (SqL.of upd_same) ⟨_, rfl, iteF ?_⟩⟩
        have s4 := s1.trans (s3.trans (same_upd (o := .lst [.str "wrong", .int (p : Nat)]) nl))
        refine ⟨_, rfl, _, rfl, _, _, rfl, rfl, _, rfl, TX, rfl, zl (by omega), _, rfl, by omega, (fun q e a3 G5 s5 na ga => ?_), (fun ps e => by rw [d1] at e; cases e)⟩
        rw [d1] at e
        injection e with e
        subst e
        refine ⟨_, rfl, by show 2 ≤ sizeLine; decide, fun l2 nl2 => ne_wrong (SqL.of (same_upd nl2 _ _ ga)) (SqL.of upd_same) ⟨_, rfl, iteF ?_⟩⟩
        have s6 := s4.trans (s5.trans (same_upd (o := .lst [.str "wrong", .int (p : Nat)]) nl2))
        refine ⟨_, rfl, _, rfl, by omega, (fun q e a4 G7 s7 na ga => ?_), (fun ps e => by rw [d2] at e; cases e)⟩
        rw [d2] at e
        injection e with e
        subst e
        refine ⟨_, rfl, by show 2 ≤ sizeLine; decide, fun l3 nl3 => eq_wrong (SqL.of (same_upd nl3 _ _ ga)) (SqL.of upd_same) ?_⟩
        have s8 := s6.trans (s7.trans (same_upd (o := .lst [.str "wrong", .int (p : Nat)]) nl3))
        exact k _ (K0.same s8) (B0.same s8)
end
end K36

namespace K36
open PySem PySem.Spec PyProof.Rows L2 EV TL LM PM TR
def pairT : List Tre → List Tre
  | [] => []
  | [a] => [a]
  | a :: b :: r => .bin "+" a b :: pairT r
theorem pairT_len : ∀ Ts : List Tre, (pairT Ts).length = (Ts.length + 1) / 2
  | [] => by simp [pairT]
  | [a] => by simp [pairT]
  | a :: b :: r => by
    show (pairT r).length + 1 = (r.length + 1 + 1 + 1) / 2
    rw [pairT_len r]
    omega
theorem pairT_ok : ∀ {Ts : List Tre}, (∀ T ∈ Ts, T.ok) → ∀ T ∈ pairT Ts, T.ok
  | [], _, T, hT => by cases hT
  | [a], h, T, hT => h T hT
  | a :: b :: r, h, T, hT => by
    rcases List.mem_cons.mp hT with rfl | hT
    · exact ⟨show ("+" : Str) ∈ binary by decide +kernel, h a List.mem_cons_self, h b (List.mem_cons_of_mem _ List.mem_cons_self)⟩
    · exact pairT_ok (fun t ht => h t (List.mem_cons_of_mem _ (List.mem_cons_of_mem _ ht))) T hT
theorem pairT_depth {d : Nat} : ∀ {Ts : List Tre}, (∀ T ∈ Ts, T.depth ≤ d) → ∀ T ∈ pairT Ts, T.depth ≤ d + 1
  | [], _, T, hT => by cases hT
  | [a], h, T, hT => Nat.le_succ_of_le (h T hT)
  | a :: b :: r, h, T, hT => by
    rcases List.mem_cons.mp hT with rfl | hT
    · have h1 := h a List.mem_cons_self
      have h2 := h b (List.mem_cons_of_mem _ List.mem_cons_self)
      show max a.depth b.depth + 1 ≤ d + 1
      omega
    · exact pairT_depth (fun t ht => h t (List.mem_cons_of_mem _ (List.mem_cons_of_mem _ ht))) T hT
/-- signs of all, and the number of trees -/
def sumG (Ts : List Tre) : Nat := (Ts.map fun T => (signsP T.parts).length + 1).sum
theorem plus_count (a b : Tre) : (signsP (Tre.bin "+" a b).parts).length = (signsP a.parts).length + (signsP b.parts).length + 1 := by
  have e : signsP [((("+" : Str), "", "") : Part)] = [("+" : Str)] := by
    unfold signsP
    rw [List.filterMap_cons]
    have e : signP ((("+" : Str), "", "") : Part) = some "+" := if_neg (by decide +kernel)
    rw [e]
    rfl
  show (signsP (a.parts ++ (b.parts ++ [((("+" : Str), "", "") : Part)]))).length = _
  unfold signsP at e ⊢
  rw [List.filterMap_append, List.filterMap_append, e, List.length_append, List.length_append]
  show _ + (_ + 1) = _
  omega
theorem pairT_sum : ∀ Ts : List Tre, sumG (pairT Ts) = sumG Ts
  | [] => rfl
  | [a] => rfl
  | a :: b :: r => by
    have ih := pairT_sum r
    unfold sumG at ih ⊢
    show ((signsP (Tre.bin "+" a b).parts).length + 1) + ((pairT r).map fun T => (signsP T.parts).length + 1).sum = ((signsP a.parts).length + 1) + (((signsP b.parts).length + 1) + (r.map fun T => (signsP T.parts).length + 1).sum)
    rw [ih, plus_count]
    omega
/-- the k-th of the joined ones -/
theorem pairT_at : ∀ (Ts : List Tre) (k : Nat), (pairT Ts)[k]? = match Ts[2 * k]?, Ts[2 * k + 1]? with
    | some a, some b => some (.bin "+" a b)
    | some a, none => some a
    | none, _ => none
  | [], k => by simp [pairT]
  | [a], 0 => rfl
  | [a], k + 1 => by
    rw [show 2 * (k + 1) = (2 * k + 1) + 1 by omega]
    rfl
  | a :: b :: r, 0 => rfl
  | a :: b :: r, k + 1 => by
    rw [show 2 * (k + 1) = (2 * k) + 1 + 1 by omega, show 2 * k + 1 + 1 + 1 = (2 * k + 1) + 1 + 1 by omega]
    show (pairT r)[k]? = _
    rw [pairT_at r k]
    rfl
theorem plus_text (a b : Tre) : (Tre.bin "+" a b).text = ("(" : Str) ++ a.text ++ (" + " : Str) ++ b.text ++ (")" : Str) := by
  refine ext_tl ?_
  rw [text_bin]
  simp only [tl_append, List.append_assoc, c_open, c_close]
  rw [show tl (" + " : Str) = 32 :: (tl ("+" : Str) ++ [32]) by decide +kernel]
end K36

/-! comprehensions that make one new tuple for each turn -/
namespace EV
open PySem PySem.Spec PyProof.Rows L2
/-- a list of tuples -/
structure TupsAt (H : Hp) (xs : List V) (rs : List (List V)) : Prop where
  len : xs.length = rs.length
  at_ : ∀ (i : Nat) (r : List V), rs[i]? = some r → ∃ t, xs[i]? = some (V.ref t) ∧ H t = some (.tup r)
theorem TupsAt.mov {H G : Hp} {xs : List V} {rs : List (List V)} (h : TupsAt H xs rs) (k : ∀ b z, H b = some (.tup z) → G b = some (.tup z)) : TupsAt G xs rs :=
  ⟨h.len, fun i r e => let ⟨t, h1, h2⟩ := h.at_ i r e; ⟨t, h1, k _ _ h2⟩⟩
theorem TupsAt.same {H G : Hp} {xs : List V} {rs : List (List V)} (h : TupsAt H xs rs) (s : Same H G) : TupsAt G xs rs := h.mov fun b z e => s _ _ e
theorem TupsAt.nil {H : Hp} : TupsAt H [] [] := ⟨rfl, fun i r e => by simp at e⟩
theorem TupsAt.add {H : Hp} {xs : List V} {rs : List (List V)} {t : Addr} {r : List V} (h : TupsAt H xs rs) (ht : H t = some (.tup r)) : TupsAt H (xs ++ [.ref t]) (rs ++ [r]) := by
  refine ⟨by rw [List.length_append, List.length_append, h.len]; rfl, fun i q e => ?_⟩
  rcases Nat.lt_or_ge i rs.length with z | z
  · rw [List.getElem?_append_left z] at e
    obtain ⟨y, h1, h2⟩ := h.at_ i q e
    exact ⟨y, by rw [List.getElem?_append_left (by rw [h.len]; exact z)]; exact h1, h2⟩
  · rw [List.getElem?_append_right z] at e
    have z0 : i - rs.length = 0 := by
      rcases Nat.eq_zero_or_pos (i - rs.length) with y | y
      · exact y
      · rw [List.getElem?_eq_none (by show 1 ≤ _; exact y)] at e
        cases e
    rw [z0] at e
    injection e with e
    subst e
    exact ⟨t, by rw [List.getElem?_append_right (by rw [h.len]; exact z), h.len, z0]; rfl, ht⟩
theorem TupsAt.app {H : Hp} {xs ys : List V} {rs ss : List (List V)} (h : TupsAt H xs rs) (g : TupsAt H ys ss) : TupsAt H (xs ++ ys) (rs ++ ss) := by
  refine ⟨by rw [List.length_append, List.length_append, h.len, g.len], fun i r e => ?_⟩
  rcases Nat.lt_or_ge i rs.length with z | z
  · rw [List.getElem?_append_left z] at e
    obtain ⟨x, h1, h2⟩ := h.at_ i r e
    exact ⟨x, by rw [List.getElem?_append_left (by rw [h.len]; exact z)]; exact h1, h2⟩
  · rw [List.getElem?_append_right z] at e
    obtain ⟨x, h1, h2⟩ := g.at_ _ r e
    exact ⟨x, by rw [List.getElem?_append_right (by rw [h.len]; exact z), h.len]; exact h1, h2⟩
section
variable {J : It} {n : Nat} {G : Hp → Prop} {Y : Nat → Hp → V → Hp → Prop} {g : TG} {tt : TT} {te : TE} {vs : List Nat} {σ : L2.St} {H1 : Hp} {D : Addr} {Qd : Hp → Prop}
theorem lc_tups (w : Walk J n G Y) (rs : List (List V)) (hn : n = rs.length) (nD : H1 D = none) (hz : n ≤ 1000000) (hG : ∀ H, Same H1 H → G H)
    (hs : ∀ i x H H' r (NT : Hp → Prop) (NE : V → Hp → Prop), i < n → rs[i]? = some r → Same H1 H → Y i H x H' → (∀ t H4, Same H H4 → H t = none → H4 t = some (.tup r) → NE (.ref t) H4) →
      g x (wipe σ vs) H' fun σ2 H2 => wipe σ2 vs = wipe σ vs ∧ tt σ2 H2 fun b H3 => if b = true then te σ2 H3 NE else NT H3)
    (hd : ∀ H xs, Same H1 H → H D = some (.lst xs) → TupsAt H xs rs → Qd H) :
    ∃ W : Nat → Nat → Hp → Prop, (∃ m, W 0 m (upd H1 D (.lst []))) ∧ ∀ i m H, W i m H →
      (J.stop i H ∧ Qd H) ∨ (J.go i H ∧ ∃ Nx : Hp → Prop, (∀ H', Nx H' → ∃ m', m' < m ∧ W (i + 1) m' H') ∧ ∀ x H', J.yld i H x H' → g x (wipe σ vs) H' fun σ2 H2 => wipe σ2 vs = wipe σ vs ∧ tt σ2 H2 fun b H3 =>
        if b = true then te σ2 H3 fun y H4 => ∃ acc, H4 D = some (.lst acc) ∧ acc.length < sizeLine ∧ Nx (upd H4 D (.lst (acc ++ [y]))) else Nx H3) := by
  refine lc_it w (fun i H => Same H1 H ∧ ∃ xs, H D = some (.lst xs) ∧ TupsAt H xs (rs.take i)) ⟨same_upd nD, [], upd_same, TupsAt.nil⟩ (fun i H _ q => hG H q.1) ?_ ?_
  · rintro i x H H' hi ⟨s1, xs, hx, ht⟩ y
    have hr : rs[i]? = some (rs[i]'(by omega)) := List.getElem?_eq_getElem _
    refine hs i x H H' _ _ _ hi hr s1 y fun t H4 s4 nt h4 => ⟨xs, s4 _ _ hx, ?_, ?_, _, upd_same, ?_⟩
    · rw [ht.len, List.length_take, sizeLine_eq]
      omega
    · intro b u z
      rw [upd_ne (ne_of_none z nD)]
      exact s4 _ _ (s1 _ _ z)
    · rw [List.take_succ, hr]
      have mv : ∀ b z, H4 b = some (.tup z) → upd H4 D (.lst (xs ++ [.ref t])) b = some (.tup z) := fun b z e => by
        rw [upd_ne (fun q => by rw [q, s4 _ _ hx] at e; cases e)]
        exact e
      exact ((ht.same s4).mov mv).add (mv _ _ h4)
  · rintro H ⟨s1, xs, hx, ht⟩
    rw [hn, List.take_length] at ht
    exact hd H xs s1 hx ht
end
/-- a list of tuples of which something is known -/
structure TupsEx (H : Hp) (xs : List V) (n : Nat) (Row : Nat → List V → Prop) : Prop where
  len : xs.length = n
  at_ : ∀ i, i < n → ∃ t r, xs[i]? = some (V.ref t) ∧ H t = some (.tup r) ∧ Row i r
theorem TupsEx.mov {H G : Hp} {xs : List V} {n : Nat} {Row : Nat → List V → Prop} (h : TupsEx H xs n Row) (k : ∀ b z, H b = some (.tup z) → G b = some (.tup z)) : TupsEx G xs n Row :=
  ⟨h.len, fun i e => let ⟨t, r, h1, h2, h3⟩ := h.at_ i e; ⟨t, r, h1, k _ _ h2, h3⟩⟩
theorem TupsEx.same {H G : Hp} {xs : List V} {n : Nat} {Row : Nat → List V → Prop} (h : TupsEx H xs n Row) (s : Same H G) : TupsEx G xs n Row := h.mov fun b z e => s _ _ e
theorem TupsEx.add {H : Hp} {xs : List V} {n : Nat} {Row : Nat → List V → Prop} {t : Addr} {r : List V} (h : TupsEx H xs n Row) (ht : H t = some (.tup r)) (hr : Row n r) : TupsEx H (xs ++ [.ref t]) (n + 1) Row := by
  refine ⟨by rw [List.length_append, h.len]; rfl, fun i e => ?_⟩
  rcases Nat.lt_or_ge i n with z | z
  · obtain ⟨t', r', h1, h2, h3⟩ := h.at_ i z
    exact ⟨t', r', by rw [List.getElem?_append_left (by rw [h.len]; exact z)]; exact h1, h2, h3⟩
  · obtain rfl : i = n := by omega
    exact ⟨t, r, by rw [List.getElem?_append_right (by rw [h.len]; exact Nat.le_refl _), h.len, Nat.sub_self]; rfl, ht, hr⟩
section
variable {J : It} {n : Nat} {G : Hp → Prop} {Y : Nat → Hp → V → Hp → Prop} {g : TG} {tt : TT} {te : TE} {vs : List Nat} {σ : L2.St} {H1 : Hp} {D : Addr} {Qd : Hp → Prop}
theorem lc_tupx (w : Walk J n G Y) (Row : Nat → List V → Prop) (nD : H1 D = none) (hz : n ≤ 1000000) (hG : ∀ H, Same H1 H → G H)
    (hs : ∀ i x H H' (NT : Hp → Prop) (NE : V → Hp → Prop), i < n → Same H1 H → Y i H x H' → (∀ t r H4, Same H H4 → H4 t = some (.tup r) → Row i r → NE (.ref t) H4) →
      g x (wipe σ vs) H' fun σ2 H2 => wipe σ2 vs = wipe σ vs ∧ tt σ2 H2 fun b H3 => if b = true then te σ2 H3 NE else NT H3)
    (hd : ∀ H xs, Same H1 H → H D = some (.lst xs) → TupsEx H xs n Row → Qd H) :
    ∃ W : Nat → Nat → Hp → Prop, (∃ m, W 0 m (upd H1 D (.lst []))) ∧ ∀ i m H, W i m H →
      (J.stop i H ∧ Qd H) ∨ (J.go i H ∧ ∃ Nx : Hp → Prop, (∀ H', Nx H' → ∃ m', m' < m ∧ W (i + 1) m' H') ∧ ∀ x H', J.yld i H x H' → g x (wipe σ vs) H' fun σ2 H2 => wipe σ2 vs = wipe σ vs ∧ tt σ2 H2 fun b H3 =>
        if b = true then te σ2 H3 fun y H4 => ∃ acc, H4 D = some (.lst acc) ∧ acc.length < sizeLine ∧ Nx (upd H4 D (.lst (acc ++ [y]))) else Nx H3) := by
  refine lc_it w (fun i H => Same H1 H ∧ ∃ xs, H D = some (.lst xs) ∧ TupsEx H xs i Row) ⟨same_upd nD, [], upd_same, rfl, fun i e => by omega⟩ (fun i H _ q => hG H q.1) ?_ ?_
  · rintro i x H H' hi ⟨s1, xs, hx, ht⟩ y
    refine hs i x H H' _ _ hi s1 y fun t r H4 s4 h4 hr => ⟨xs, s4 _ _ hx, ?_, ?_, _, upd_same, ?_⟩
    · rw [ht.len, sizeLine_eq]
      omega
    · intro b u z
      rw [upd_ne (ne_of_none z nD)]
      exact s4 _ _ (s1 _ _ z)
    · have mv : ∀ b z, H4 b = some (.tup z) → upd H4 D (.lst (xs ++ [.ref t])) b = some (.tup z) := fun b z e => by
        rw [upd_ne (fun q => by rw [q, s4 _ _ hx] at e; cases e)]
        exact e
      exact ((ht.same s4).mov mv).add (mv _ _ h4) hr
  · rintro H ⟨s1, xs, hx, ht⟩
    exact hd H xs s1 hx ht
end
end EV

/-! a list of new lists -/
namespace EV
open PySem PySem.Spec PyProof.Rows L2
/-- the length of a list or a tuple, where the reading may name no state -/
def rLenQ (K : Fg) : List V → Hp → VK → Prop := fun xs H Q => ∃ p ys, xs = [.ref p] ∧ (SqL K H p ys ∨ SqT K H p ys) ∧ Q (.int ys.length) H
structure LstsAt (H : Hp) (D : Addr) (xs : List V) (rs : List (List V)) : Prop where
  len : xs.length = rs.length
  at_ : ∀ (i : Nat) (r : List V), rs[i]? = some r → ∃ t, xs[i]? = some (V.ref t) ∧ H t = some (.lst r) ∧ t ≠ D
theorem LstsAt.nil {H : Hp} {D : Addr} : LstsAt H D [] [] := ⟨rfl, fun i r e => by simp at e⟩
theorem LstsAt.same {H G : Hp} {D : Addr} {xs : List V} {rs : List (List V)} (h : LstsAt H D xs rs) (s : Same H G) : LstsAt G D xs rs := ⟨h.len, fun i r e => let ⟨t, h1, h2, h3⟩ := h.at_ i r e; ⟨t, h1, s _ _ h2, h3⟩⟩
theorem LstsAt.updD {H : Hp} {D : Addr} {xs : List V} {rs : List (List V)} (h : LstsAt H D xs rs) (o : HO) : LstsAt (upd H D o) D xs rs := ⟨h.len, fun i r e => let ⟨t, h1, h2, h3⟩ := h.at_ i r e; ⟨t, h1, by rw [upd_ne h3]; exact h2, h3⟩⟩
theorem LstsAt.add {H : Hp} {D : Addr} {xs : List V} {rs : List (List V)} {t : Addr} {r : List V} (h : LstsAt H D xs rs) (ht : H t = some (.lst r)) (td : t ≠ D) : LstsAt H D (xs ++ [.ref t]) (rs ++ [r]) := by
  refine ⟨by rw [List.length_append, List.length_append, h.len]; rfl, fun i z e => ?_⟩
  rcases Nat.lt_or_ge i rs.length with q | q
  · rw [List.getElem?_append_left q] at e
    obtain ⟨t', h1, h2, h3⟩ := h.at_ i z e
    exact ⟨t', by rw [List.getElem?_append_left (by rw [h.len]; exact q)]; exact h1, h2, h3⟩
  · rw [List.getElem?_append_right q] at e
    have hi : i - rs.length = 0 := by
      cases h0 : i - rs.length with
      | zero => rfl
      | succ n => rw [h0] at e; simp at e
    rw [hi] at e
    injection e with e
    subst e
    exact ⟨t, by rw [List.getElem?_append_right (by rw [h.len]; exact q), h.len, hi]; rfl, ht, td⟩
section
variable {J : It} {n : Nat} {G : Hp → Prop} {Y : Nat → Hp → V → Hp → Prop} {g : TG} {tt : TT} {te : TE} {vs : List Nat} {σ : L2.St} {H1 : Hp} {D : Addr} {Qd : Hp → Prop}
theorem lc_lsts (w : Walk J n G Y) (rs : List (List V)) (hn : n = rs.length) (nD : H1 D = none) (hz : n ≤ 1000000) (hG : ∀ H, Same H1 H → G H)
    (hs : ∀ i x H H' r (NT : Hp → Prop) (NE : V → Hp → Prop), i < n → rs[i]? = some r → Same H1 H → Y i H x H' → (∀ t H4, Same H H4 → H t = none → H4 t = some (.lst r) → NE (.ref t) H4) →
      g x (wipe σ vs) H' fun σ2 H2 => wipe σ2 vs = wipe σ vs ∧ tt σ2 H2 fun b H3 => if b = true then te σ2 H3 NE else NT H3)
    (hd : ∀ H xs, Same H1 H → H D = some (.lst xs) → LstsAt H D xs rs → Qd H) :
    ∃ W : Nat → Nat → Hp → Prop, (∃ m, W 0 m (upd H1 D (.lst []))) ∧ ∀ i m H, W i m H →
      (J.stop i H ∧ Qd H) ∨ (J.go i H ∧ ∃ Nx : Hp → Prop, (∀ H', Nx H' → ∃ m', m' < m ∧ W (i + 1) m' H') ∧ ∀ x H', J.yld i H x H' → g x (wipe σ vs) H' fun σ2 H2 => wipe σ2 vs = wipe σ vs ∧ tt σ2 H2 fun b H3 =>
        if b = true then te σ2 H3 fun y H4 => ∃ acc, H4 D = some (.lst acc) ∧ acc.length < sizeLine ∧ Nx (upd H4 D (.lst (acc ++ [y]))) else Nx H3) := by
  refine lc_it w (fun i H => Same H1 H ∧ ∃ xs, H D = some (.lst xs) ∧ LstsAt H D xs (rs.take i)) ⟨same_upd nD, [], upd_same, LstsAt.nil⟩ (fun i H _ q => hG H q.1) ?_ ?_
  · rintro i x H H' hi ⟨s1, xs, hx, ht⟩ y
    have hr : rs[i]? = some (rs[i]'(by omega)) := List.getElem?_eq_getElem _
    refine hs i x H H' _ _ _ hi hr s1 y fun t H4 s4 nt h4 => ⟨xs, s4 _ _ hx, ?_, ?_, _, upd_same, ?_⟩
    · rw [ht.len, List.length_take, sizeLine_eq]
      omega
    · intro b u z
      rw [upd_ne (ne_of_none z nD)]
      exact s4 _ _ (s1 _ _ z)
    · rw [List.take_succ, hr]
      have td : t ≠ D := fun e => by rw [e, hx] at nt; cases nt
      exact ((ht.same s4).updD _).add (by rw [upd_ne td]; exact h4) td
  · rintro H ⟨s1, xs, hx, ht⟩
    rw [hn, List.take_length] at ht
    exact hd H xs s1 hx ht
end
end EV

namespace K36
open PySem PySem.Spec PyProof.Rows L2 EV TL LM PM TR
theorem pairT_sumf (f : Tre → Nat) (hf : ∀ a b, f (.bin "+" a b) = f a + f b) : ∀ Ts : List Tre, ((pairT Ts).map f).sum = (Ts.map f).sum
  | [] => rfl
  | [a] => rfl
  | a :: b :: r => by
    have ih := pairT_sumf f hf r
    show f (Tre.bin "+" a b) + ((pairT r).map f).sum = f a + (f b + (r.map f).sum)
    rw [ih, hf]
    omega
theorem le_sumf {f : Tre → Nat} : ∀ {Ts : List Tre} {T : Tre}, T ∈ Ts → f T ≤ (Ts.map f).sum
  | t :: r, T, h => by
    show f T ≤ f t + (r.map f).sum
    rcases List.mem_cons.mp h with rfl | h
    · omega
    · have := le_sumf (f := f) h
      omega
def textW (T : Tre) : Nat := T.text.length + 5
def partW (T : Tre) : Nat := T.parts.length + 1
def signW (T : Tre) : Nat := (signsP T.parts).length + 1
theorem textW_bin (a b : Tre) : textW (.bin "+" a b) = textW a + textW b := by
  unfold textW
  rw [plus_text, TR.len_app, TR.len_app, TR.len_app, TR.len_app, show ("(" : Str).length = 1 by decide +kernel, show (")" : Str).length = 1 by decide +kernel, show (" + " : Str).length = 3 by decide +kernel]
  omega
theorem partW_bin (a b : Tre) : partW (.bin "+" a b) = partW a + partW b := by
  unfold partW
  show (a.parts ++ (b.parts ++ [((("+" : Str), "", "") : Part)])).length + 1 = _
  rw [List.length_append, List.length_append]
  show _ + (_ + 1) + 1 = _
  omega
theorem signW_bin (a b : Tre) : signW (.bin "+" a b) = signW a + signW b := by
  unfold signW
  rw [plus_count]
  omega
/-- the four that are drawn -/
def four : List Tre := [.ask "zero" "Pair", .leaf "a" "P", .leaf "abs" "P", .leaf "b" "Pair"]
theorem cw_P : ClassW "P" := ⟨80, [], by decide +kernel, by decide, by decide, by decide, fun c hc => by cases hc⟩
theorem sw_of (s : Str) (h : s ∈ ([("a" : Str), "abs", "b", "zero"] : List Str)) : SmallW s := by
  have : ∀ s ∈ ([("a" : Str), "abs", "b", "zero"] : List Str), (decide (1 ≤ (tl s).length) && decide ((tl s).length ≤ 8) && ((tl s).all fun c => decide (97 ≤ c) && decide (c ≤ 122))) = true := by decide +kernel
  have h := this s h
  simp only [Bool.and_eq_true, decide_eq_true_eq, List.all_eq_true] at h
  exact ⟨h.1.1, h.1.2, fun c hc => h.2 c hc⟩
theorem four_ok : ∀ T ∈ four, T.ok := by
  intro T hT
  simp only [four, List.mem_cons, List.not_mem_nil, or_false] at hT
  rcases hT with rfl | rfl | rfl | rfl
  · exact ⟨sw_of _ (by simp), by decide +kernel, cw_Pr⟩
  · exact ⟨sw_of _ (by simp), cw_P⟩
  · exact ⟨sw_of _ (by simp), cw_P⟩
  · exact ⟨sw_of _ (by simp), cw_Pr⟩
theorem four_one : ∀ T ∈ four, T.depth = 0 ∧ textW T ≤ 14 ∧ partW T = 2 := by
  intro T hT
  simp only [four, List.mem_cons, List.not_mem_nil, or_false] at hT
  rcases hT with rfl | rfl | rfl | rfl <;> exact ⟨rfl, by unfold textW; decide +kernel, rfl⟩
theorem four_more : ∀ T ∈ four, parseM (T.text ++ ("?" : Str)) = .error T.text.length := by
  intro T hT
  simp only [four, List.mem_cons, List.not_mem_nil, or_false] at hT
  have e : ∀ t : Str, ∀ k : Nat, (match parseM t with | .error j => decide (j = k) | .ok _ => false) = true → parseM t = .error k := fun t k h => by
    revert h
    cases parseM t with
    | error j => exact fun h => by rw [of_decide_eq_true h]
    | ok _ => exact fun h => by cases h
  rcases hT with rfl | rfl | rfl | rfl <;> exact e _ _ (by decide +kernel)
theorem pairT_top : ∀ {Ts : List Tre}, (∀ T ∈ Ts, T.top ∨ T ∈ four) → ∀ T ∈ pairT Ts, T.top ∨ T ∈ four
  | [], _, T, hT => by cases hT
  | [a], h, T, hT => h T hT
  | a :: b :: r, h, T, hT => by
    rcases List.mem_cons.mp hT with rfl | hT
    · exact .inl True.intro
    · exact pairT_top (fun t ht => h t (List.mem_cons_of_mem _ (List.mem_cons_of_mem _ ht))) T hT
structure LongT (T : Tre) : Prop where
  ok : T.ok
  dep : T.depth ≤ 8
  len : T.text.length ≤ 4000
  par : T.parts.length ≤ 1000
  top : T.top ∨ T ∈ four
theorem LongT.more {T : Tre} (h : LongT T) : parseM (T.text ++ ("?" : Str)) = .error T.text.length := by
  rcases h.top with q | q
  · exact more_parse h.ok q (Nat.le_trans h.dep (by decide)) (by decide +kernel)
  · exact four_more T q
/-- what is known of the texts that are joined -/
structure LgI (many S : Nat) (Ts : List Tre) : Prop where
  ne : 1 ≤ Ts.length
  ok : ∀ T ∈ Ts, T.ok
  dep : ∃ d, d ≤ 8 ∧ (∀ T ∈ Ts, T.depth ≤ d) ∧ Ts.length ≤ 2 ^ (8 - d)
  tx : (Ts.map textW).sum ≤ 14 * many
  pt : (Ts.map partW).sum ≤ 2 * many
  sg : (Ts.map signW).sum = S + 1
  tp : ∀ T ∈ Ts, T.top ∨ T ∈ four
theorem LgI.pair {many S : Nat} {Ts : List Tre} (h : LgI many S Ts) (l2 : 1 < Ts.length) : LgI many S (pairT Ts) := by
  obtain ⟨d, d8, hd, hl⟩ := h.dep
  refine ⟨by rw [pairT_len]; omega, pairT_ok h.ok, ?_, by rw [pairT_sumf _ textW_bin]; exact h.tx, by rw [pairT_sumf _ partW_bin]; exact h.pt, by rw [pairT_sumf _ signW_bin]; exact h.sg, pairT_top h.tp⟩
  have d7 : d < 8 := by
    rcases Nat.lt_or_ge d 8 with q | q
    · exact q
    · have : 8 - d = 0 := by omega
      rw [this] at hl
      omega
  refine ⟨d + 1, d7, pairT_depth hd, ?_⟩
  have e : 2 ^ (8 - d) = 2 * 2 ^ (8 - (d + 1)) := by
    rw [show 8 - d = (8 - (d + 1)) + 1 by omega, Nat.pow_succ]
    omega
  rw [pairT_len]
  omega
theorem rg2 {n : Nat} (h : n ≤ 100000) : RgC 0 ((n : Nat) : Int) 2 ((n + 1) / 2) := by
  have e : Builtin.Range.rangeSize 0 ((n : Nat) : Int) 2 = (((n + 1) / 2 : Nat) : Int) := by
    unfold Builtin.Range.rangeSize
    rw [if_pos (by decide)]
    split <;> omega
  refine ⟨by decide, by decide, ?_, e⟩
  have ft : ∀ z : Int, -1000000 ≤ z → z ≤ 1000000 → Builtin.Range.rangeFitsLong z = true := fun z h1 h2 => by
    unfold Builtin.Range.rangeFitsLong
    rw [decide_eq_true (show -(2 ^ 63) ≤ z by omega), decide_eq_true (show z < 2 ^ 63 by omega)]
    rfl
  unfold Builtin.Range.small
  rw [e, ft 0 (by decide) (by decide), ft _ (by omega) (by omega), ft 2 (by decide) (by decide), ft _ (by omega) (by omega), if_pos (show (2 : Int) > 0 by decide), ft _ (by omega) (by omega), Bool.or_true]
  rfl
theorem cut_two {α : Type} (Ts : List α) (f : α → V) (k : Nat) : cutV (Ts.map f) (some (((2 * k : Nat)) : Int)) (some ((2 * k + 2 : Nat) : Int)) = ((Ts.drop (2 * k)).take 2).map f := by
  unfold cutV
  rw [HT.sIx_nat, HT.sIx_nat, List.length_map, ← List.map_drop]
  rcases Nat.lt_or_ge Ts.length (2 * k) with q | q
  · rw [Nat.min_eq_right (by omega), Nat.min_eq_right (by omega), Nat.sub_self, List.take_zero, List.drop_of_length_le (Nat.le_of_lt q)]
    rfl
  · rw [Nat.min_eq_left q]
    rcases Nat.lt_or_ge Ts.length (2 * k + 2) with z | z
    · rw [Nat.min_eq_right (by omega), ← List.map_take, List.take_of_length_le (by rw [List.length_drop]; omega), List.take_of_length_le (by rw [List.length_drop]; omega)]
    · rw [Nat.min_eq_left z, ← List.map_take, show 2 * k + 2 - 2 * k = 2 by omega]
/-- the rows of two -/
def two (Ts : List Tre) (k : Nat) : List Tre := (Ts.drop (2 * k)).take 2
theorem two_of {Ts : List Tre} {k : Nat} (h : k < (Ts.length + 1) / 2) : (∃ a b, two Ts k = [a, b] ∧ (pairT Ts)[k]? = some (.bin "+" a b)) ∨ ∃ a, two Ts k = [a] ∧ (pairT Ts)[k]? = some a := by
  have h0 : 2 * k < Ts.length := by omega
  rw [pairT_at, List.getElem?_eq_getElem h0]
  unfold two
  rw [List.drop_eq_getElem_cons h0]
  rcases Nat.lt_or_ge (2 * k + 1) Ts.length with q | q
  · refine .inl ⟨Ts[2 * k], Ts[2 * k + 1], ?_, ?_⟩
    · rw [List.drop_eq_getElem_cons q]
      rfl
    · rw [List.getElem?_eq_getElem q]
  · refine .inr ⟨Ts[2 * k], ?_, ?_⟩
    · rw [List.drop_of_length_le q]
      rfl
    · rw [List.getElem?_eq_none q]
def LongAt (H : Hp) (t : Addr) (T : Tre) : Prop := H t = some (.tup [.str T.text, .int ((signsP T.parts).length : Nat)])
section
variable {P : Program} {w : World} {K : Fg} {mg : Str → Option Value} {base : Heap}
def spLong : Sp := fun vs H Q _ => ∃ (b : Addr) (many : Nat), vs = [.ref b, .int (many : Nat)] ∧ BagAt H b ∧ 1 ≤ many ∧ many ≤ 200 ∧
  ∀ (t : Addr) (T : Tre) (H' : Hp), Keep b H H' → BagAt H' b → LongAt H' t T → LongT T → Q (.ref t) H'
theorem ok_law_long {f : Addr} {fd : FuncData} (F : Fun K "_law_long" "_law_long" s_law_long f fd) (T : Cst K mg) (O_law_take : Ok P w K mg base 1 "_law_take" ["bag", "many"] spTake) (O_law_of : Ok P w K mg base 2 "_law_of" ["bag", "some"] spOf) :
    FnOk P w K mg base CX0 3 f fd ["bag", "many"] spLong := by
  refine F.ok sc_law_long (fun vs H Q E h => ?_) (fun cdv A outer s H vs Q E hr h => ?_)
  · obtain ⟨b, many, rfl, _⟩ := h
    rfl
  · obtain ⟨b, many, rfl, B, m1, m200, k⟩ := h
    refine ⟨_, (pss_cons (ps_asg (pe_tup (pa_cons (pe_lst pa_nil) (pa_cons (pe_op op_sub (pv 1) pe_int) pa_nil))) (pg_tup rfl (pgs_cons (pg_name (i := 2) sc_law_long.nd rfl (Or.inr rfl)) (pgs_cons (pg_name (i := 3) sc_law_long.nd rfl (Or.inl rfl)) pgs_nil))))
    (pss_cons (ps_for PassesOwn.never rfl (pi_range1 rfl T.n_range (pa_cons (pv 1) pa_nil)) (pg_name (i := 4) sc_law_long.nd rfl (Or.inl rfl)) (pss_cons (ps_set (i := 5) sc_law_long.nd rfl (Or.inl rfl) (pe_cmpR op_eq (pe_callO O_law_take (hr.mono (by decide)) (pa_cons (pv 0) (pa_cons pe_int pa_nil))) pe_int (nomark _)))
    (pss_cons (ps_expr (pe_bm PySem.F.plainAttrs_list PySem.F.slot_list_append PySem.F.type_list_append mt_append (pv 2) (pa_cons (pe_mid (pe_ifExp (pt_truth (pv 5) (by intro _; rfl)) pe_str (pe_callO O_law_of (hr.mono (by decide)) (pa_cons (pv 0) (pa_cons (pe_lst (pa_cons pe_str (pa_cons pe_str (pa_cons pe_str pa_nil)))) pa_nil))))) pa_nil)))
    (pss_one (ps_aug (i := 3) sc_law_long.nd rfl (Or.inl rfl) (pe_callTy call_int1 (by rfl) T.n_int (by decide +kernel) (pa_cons (pv 5) pa_nil)) ip_add)))))
    (pss_cons (ps_while PassesOwn.never (pt_cmpR op_gt (pe_callB call_len_seq (by rfl) T.n_len (by decide +kernel) (pa_cons (pv 2) pa_nil)) pe_int (nomark _)) (pss_cons (ps_setLc (i := 6) (own := [("k", 7)]) rfl sc_law_long.nd rfl rfl (sw_true rfl rfl rfl (by decide +kernel)) (pi_range3 rfl T.n_range (pa_cons pe_int (pa_cons (pe_callB call_len_seq (by rfl) T.n_len (by decide +kernel) (pa_cons (pv 2) pa_nil)) (pa_cons pe_int pa_nil)))) (blkOk_by (own := [("k", 7)]) (N := ["bag", "many", "parts", "steps", "turn", "is_asked", "rows", "k", "row"]) (sc := defScope s_law_long) (by decide +kernel)) (fun _ _ _ _ _ => (pg_name (i := 7) sc_law_long.nd rfl (Or.inl rfl))) (fun _ _ _ _ _ => pts_nil) (fun _ _ _ _ _ => (pe_slice (show SlR _ (rSlL K) from sl_list) (pv 2) (po_some (pv 7)) (po_some (pe_op op_add (pv 7) pe_int)))))
    (pss_one (ps_set (i := 2) sc_law_long.nd rfl (Or.inr rfl) (pe_lc (own := [("row", 8)]) rfl sc_law_long.nd (pi_list (pv 6)) (blkOk_by (own := [("row", 8)]) (N := ["bag", "many", "parts", "steps", "turn", "is_asked", "rows", "k", "row"]) (sc := defScope s_law_long) (by decide +kernel)) (fun _ _ _ _ _ => (pg_name (i := 8) sc_law_long.nd rfl (Or.inl rfl))) (fun _ _ _ _ _ => pts_nil) (fun _ _ _ _ _ => (pe_ifExp (pt_cmpR op_eq (pe_callB (show CallR _ (.builtin "len") (rLenQ K) from call_len_seq) (by rfl) T.n_len (by decide +kernel) (pa_cons (pv 8) pa_nil)) pe_int (nomark _)) (pe_op op_add_str (pe_op op_add_str (pe_op op_add_str (pe_op op_add_str pe_str (pe_ix (show IxR _ (rIxL K) from ix_list) (pv 8) pe_int (fun _ _ => rfl))) pe_str) (pe_ix (show IxR _ (rIxL K) from ix_list) (pv 8) pe_int (fun _ _ => rfl))) pe_str) (pe_ix (show IxR _ (rIxL K) from ix_list) (pv 8) pe_int (fun _ _ => rfl)))))))))
    (pss_one (ps_ret (pe_tup (pa_cons (pe_ix ix_list (pv 2) pe_int (fun _ _ => rfl)) (pa_cons (pv 3) pa_nil)))))))), ?_⟩
    have zl : ∀ {n : Nat}, n ≤ 100000 → n ≤ sizeLine := fun h => by rw [sizeLine_eq]; omega
    refine ⟨by show 0 ≤ sizeLine; decide, fun pl npl => ⟨_, rfl, _, _, rfl, rfl, by show 2 ≤ sizeLine; decide, fun t0 nt0 => ⟨_, _, rfl, SqT.of upd_same, rfl, _, _, rfl, _, _, rfl, rfl, ?_⟩⟩⟩
    have pb : pl ≠ b := B.ne npl
    have g0 := same_upd (o := .tup [V.ref pl, .int ((many : Nat) - 1)]) nt0
    have g1 := same_upd (o := .lst []) npl
    have B0 := (B.same g1).same g0
    have K0 : Keep b H _ := Keep.of (g1.trans g0)
    have h0 := g0 _ _ (upd_same (H := H) (a := pl) (o := .lst []))
    generalize upd (upd H pl (.lst [])) t0 (.tup [V.ref pl, .int ((many : Nat) - 1)]) = G0 at B0 K0 h0
    clear g0 g1 nt0
    refine ⟨_, rfl, _, rfl, by omega, by omega, ?_⟩
    refine for_range (lo := 0) (n := ((many : Nat) : Int).toNat) (fun i σ G => ∃ (Ts : List Tre) (S : Int) (u4 u5 : Option V), σ = [some (.ref b), some (.int (many : Nat)), some (.ref pl), some (.int S), u4, u5, none, none, none] ∧ S + 1 + (i : Nat) = (many : Nat) + (((Ts.map signW).sum : Nat) : Int) ∧ Keep b H G ∧ BagAt G b ∧ G pl = some (.lst (Ts.map fun T => .str T.text)) ∧ Ts.length = i ∧ (∀ T ∈ Ts, T ∈ four) ∧ (Ts.map textW).sum ≤ 14 * i ∧ (Ts.map partW).sum ≤ 2 * i)
      ⟨[], _, none, none, rfl, by show ((many : Nat) : Int) - 1 + 1 + ((0 : Nat) : Int) = (many : Nat) + (((0 : Nat)) : Int); omega, K0, B0, h0, rfl, (fun T hT => by cases hT), Nat.le_refl _, Nat.le_refl _⟩ ?_ ?_
    · rintro i σ G hi ⟨Ts, S, u4, u5, rfl, eS, K1, B1, hp, lT, h4, s1, s2⟩
      have hi : i < many := by omega
      refine ⟨_, rfl, b, 3, rfl, B1, by decide, by decide, fun r G2 r0 r1 k2 B2 => ⟨rfl, ?_⟩⟩
      have K2 := K1.trans k2
      have hp2 := k2 _ _ pb hp
      clear K1 k2 hp B1
      refine ⟨_, rfl, .inl ⟨rfl, _, SqL.of hp2⟩, ?_⟩
      have fin : ∀ (G3 : Hp) (T0 : Tre) (u4 u5 : Option V), Keep b H G3 → BagAt G3 b → G3 pl = some (.lst (Ts.map fun T => .str T.text)) → T0 ∈ four → ∀ (z : Int), z = ((signsP T0.parts).length : Nat) →
          ∃ (Ts' : List Tre) (S' : Int) (v4 v5 : Option V), [some (V.ref b), some (.int (many : Nat)), some (.ref pl), some (.int (S + z)), u4, u5, none, none, none] = [some (V.ref b), some (.int (many : Nat)), some (.ref pl), some (.int S'), v4, v5, none, none, none] ∧ S' + 1 + (i + 1 : Nat) = (many : Nat) + (((Ts'.map signW).sum : Nat) : Int) ∧ Keep b H (upd G3 pl (.lst ((Ts.map fun T => V.str T.text) ++ [.str T0.text]))) ∧ BagAt (upd G3 pl (.lst ((Ts.map fun T => V.str T.text) ++ [.str T0.text]))) b ∧
            upd G3 pl (.lst ((Ts.map fun T => V.str T.text) ++ [.str T0.text])) pl = some (.lst (Ts'.map fun T => .str T.text)) ∧ Ts'.length = i + 1 ∧ (∀ T ∈ Ts', T ∈ four) ∧ (Ts'.map textW).sum ≤ 14 * (i + 1) ∧ (Ts'.map partW).sum ≤ 2 * (i + 1) := by
        intro G3 T0 v4 v5 k3 B3 h3 m4 z hz
        obtain ⟨_, q1, q2⟩ := four_one T0 m4
        have sm : ∀ f : Tre → Nat, ((Ts ++ [T0]).map f).sum = (Ts.map f).sum + f T0 := fun f => by rw [List.map_append, List.sum_append]; rfl
        refine ⟨Ts ++ [T0], _, v4, v5, rfl, ?_, keep_new k3 npl, B3.upd pb, ?_, by rw [List.length_append, lT]; rfl, fun T hT => ?_, by rw [sm]; omega, by rw [sm]; omega⟩
        · rw [sm, hz]
          unfold signW at eS ⊢
          omega
        · rw [upd_same, List.map_append]
          rfl
        · rcases List.mem_append.mp hT with h | h
          · exact h4 T h
          · rw [List.mem_singleton.mp h]; exact m4
      refine ⟨fun v G3 => ∃ T0 : Tre, v = .str T0.text ∧ T0 ∈ four ∧ (((signsP T0.parts).length : Nat) : Int) = (if r = 0 then 1 else 0) ∧ Keep b H G3 ∧ BagAt G3 b ∧ G3 pl = some (.lst (Ts.map fun T => .str T.text)), ?_, ?_⟩
      · refine ⟨_, rfl, ?_⟩
        by_cases hr0 : r = 0
        · rw [decide_eq_true (show V.int r = V.int 0 by rw [hr0])]
          refine ⟨_, rfl, iteT ⟨.ask "zero" "Pair", by show V.str _ = V.str _; congr 1, by simp [four], by rw [if_pos hr0]; decide +kernel, K2, B2, hp2⟩⟩
        · rw [decide_eq_false (show ¬ V.int r = V.int 0 from fun q => hr0 (by injection q))]
          refine ⟨_, rfl, iteF ⟨_, rfl, by show 3 ≤ sizeLine; decide, fun l nl => ⟨b, l, _, rfl, B2.same (same_upd nl), upd_same, B2.ne nl, by show 0 < 3; decide, by show 3 ≤ 1000; decide, fun x G3 hx k3 B3 => ?_⟩⟩⟩
          have kk := (Keep.of (b := b) (same_upd (o := .lst [V.str "a:P", .str "abs:P", .str "b:Pair"]) nl)).trans k3
          refine ?_
          simp only [List.mem_cons, List.not_mem_nil, or_false] at hx
          have w : ∃ T0 : Tre, x = .str T0.text ∧ T0 ∈ four ∧ (signsP T0.parts).length = 0 := by
            rcases hx with rfl | rfl | rfl
            · exact ⟨.leaf "a" "P", by show V.str _ = V.str _; congr 1, by simp [four], by decide +kernel⟩
            · exact ⟨.leaf "abs" "P", by show V.str _ = V.str _; congr 1, by simp [four], by decide +kernel⟩
            · exact ⟨.leaf "b" "Pair", by show V.str _ = V.str _; congr 1, by simp [four], by decide +kernel⟩
          obtain ⟨T0, w1, w2, w3⟩ := w
          exact ⟨T0, w1, w2, by rw [w3, if_neg hr0]; rfl, K2.trans kk, B3, kk _ _ pb hp2⟩
      · rintro _ G3 ⟨T0, rfl, m4, sz, k3, B3, h3⟩
        refine ⟨pl, _, _, rfl, rfl, h3, by rw [List.length_map, lT, sizeLine_eq]; omega, ?_⟩
        by_cases hr0 : r = 0
        · rw [decide_eq_true (show V.int r = V.int 0 by rw [hr0])]
          refine ⟨_, rfl, _, rfl, .inr ⟨_, rfl, ?_⟩⟩
          rw [if_pos hr0] at sz
          exact ⟨_, _, rfl, rfl, fin G3 T0 _ _ k3 B3 h3 m4 1 sz.symm⟩
        · rw [decide_eq_false (show ¬ V.int r = V.int 0 from fun q => hr0 (by injection q))]
          refine ⟨_, rfl, _, rfl, .inr ⟨_, rfl, ?_⟩⟩
          rw [if_neg hr0] at sz
          exact ⟨_, _, rfl, rfl, fin G3 T0 _ _ k3 B3 h3 m4 0 sz.symm⟩
    · rintro σ G ⟨Ts, S, u4, u5, rfl, eS, K1, B1, hp, lT, h4, s1, s2⟩
      have lT : Ts.length = many := by omega
      have I0 : LgI many (many - 1 + ((Ts.map signW).sum - many)) Ts := by
        refine ⟨by omega, fun T h => four_ok T (h4 T h), ⟨0, by decide, fun T h => by rw [(four_one T (h4 T h)).1]; exact Nat.le_refl _, ?_⟩, by omega, by omega, ?_, fun T h => .inr (h4 T h)⟩
        · rw [show 2 ^ (8 - 0) = 256 by decide]; omega
        · have : many ≤ (Ts.map signW).sum := by
            have : ∀ Ts : List Tre, Ts.length ≤ (Ts.map signW).sum := fun Ts => by
              induction Ts with
              | nil => exact Nat.le_refl _
              | cons a r ih => show r.length + 1 ≤ signW a + (r.map signW).sum; unfold signW at ih ⊢; omega
            rw [← lT]
            exact this Ts
          omega
      have eS2 : S = ((many - 1 + ((Ts.map signW).sum - many) : Nat) : Int) := by
        have := I0.sg
        omega
      generalize many - 1 + ((Ts.map signW).sum - many) = N at I0 eS2
      subst eS2
      clear eS h4 s1 s2 lT
      refine ⟨fun m σ G => ∃ (Ts : List Tre) (p : Addr) (u4 u5 u6 : Option V), σ = [some (.ref b), some (.int (many : Nat)), some (.ref p), some (.int (N : Nat)), u4, u5, u6, none, none] ∧ LgI many N Ts ∧ Keep b H G ∧ BagAt G b ∧ G p = some (.lst (Ts.map fun T => .str T.text)) ∧ m = Ts.length,
        ⟨_, Ts, pl, _, _, _, rfl, I0, K1, B1, hp, rfl⟩, ?_⟩
      clear I0 K1 B1 hp u4 u5 npl pb B0 K0 h0
      rintro m σ G ⟨Ts, p, u4, u5, u6, rfl, I, K1, B1, hp, rfl⟩
      refine ⟨_, rfl, p, _, rfl, .inl (SqL.of hp), _, _, rfl, rfl, _, rfl, ite2 (fun d1 => ?_) (fun d1 => ?_)⟩
      · have d1 := of_decide_eq_true d1
        rw [List.length_map] at d1
        have l2 : 1 < Ts.length := by omega
        have tx : ∀ T ∈ Ts, T.text.length ≤ 2800 := fun T hT => by
          have := le_sumf (f := textW) hT
          have := I.tx
          unfold textW at *
          omega
        have ptx : ∀ T ∈ pairT Ts, T.text.length ≤ 2800 := fun T hT => by
          have := le_sumf (f := textW) hT
          have := (I.pair l2).tx
          unfold textW at *
          omega
        have l200 : Ts.length ≤ 256 := by
          obtain ⟨d, d8, _, hl⟩ := I.dep
          exact Nat.le_trans hl (Nat.pow_le_pow_right (by decide) (show 8 - d ≤ 8 by omega))
        refine ⟨fun σ' G' => ∃ m', m' < Ts.length ∧ ∃ (Ts : List Tre) (p : Addr) (u4 u5 u6 : Option V), σ' = [some (.ref b), some (.int (many : Nat)), some (.ref p), some (.int (N : Nat)), u4, u5, u6, none, none] ∧ LgI many N Ts ∧ Keep b H G' ∧ BagAt G' b ∧ G' p = some (.lst (Ts.map fun T => .str T.text)) ∧ m' = Ts.length, fun _ _ z => z, ?_⟩
        refine ⟨_, rfl, p, _, rfl, .inl (SqL.of hp), 0, _, 2, (Ts.length + 1) / 2, rfl, by rw [List.length_map]; exact rg2 (by omega), fun D nD => ?_⟩
        refine lc_lsts walk_rangeC ((List.range ((Ts.length + 1) / 2)).map fun k => (two Ts k).map fun T => V.str T.text) (by rw [List.length_map, List.length_range]) nD (by omega) (fun _ _ => True.intro) ?_ ?_
        · rintro i x Ga Gb r NT NE hi hr sg ⟨rfl, rfl⟩ w1
          have hi' : i < (Ts.length + 1) / 2 := hi
          have er : r = (two Ts i).map fun T => V.str T.text := by
            rw [List.getElem?_map, List.getElem?_range hi'] at hr
            injection hr with hr
            exact hr.symm
          refine ⟨rfl, _, rfl, _, rfl, _, rfl, _, rfl, _, _, rfl, rfl, _, rfl, p, _, rfl, SqL.of (sg _ _ hp), fun q nq => w1 q _ (same_upd nq) nq ?_⟩
          rw [upd_same, er]
          have e := cut_two Ts (fun T => V.str T.text) i
          have e1 : (0 : Int) + (i : Nat) * 2 = ((2 * i : Nat) : Int) := by omega
          have e2 : (0 : Int) + (i : Nat) * 2 + 2 = ((2 * i + 2 : Nat) : Int) := by omega
          rw [e1, show ((2 * i : Nat) : Int) + 2 = ((2 * i + 2 : Nat) : Int) by omega, e]
          rfl
        intro G2 xs s2 hD hL
        have lxs : xs.length = (pairT Ts).length := by rw [hL.len, List.length_map, List.length_range, pairT_len]
        refine ⟨_, rfl, D, rfl, ⟨_, SqL.of hD⟩, fun D2 nD2 => ?_⟩
        refine lc_fm (walk_list (xs := xs)) (fun j => (pairT Ts)[j]?.bind fun T => some (V.str T.text)) nD2 (by rw [lxs, pairT_len]; omega) (fun _ s => SqL.of (s _ _ hD)) ?_ ?_
        · rintro i x Ga Gb NT NE hi sg ⟨rfl, hx⟩ w0 w1
          have hi2 : i < (Ts.length + 1) / 2 := by rw [lxs, pairT_len] at hi; exact hi
          obtain ⟨q, e1, e2, _⟩ := hL.at_ i _ (show ((List.range ((Ts.length + 1) / 2)).map fun k => (two Ts k).map fun T => V.str T.text)[i]? = some _ by rw [List.getElem?_map, List.getElem?_range hi2]; rfl)
          rw [hx] at e1
          injection e1 with e1
          subst e1
          have e3 : Gb q = some (.lst ((two Ts i).map fun T => V.str T.text)) := sg _ _ e2
          have mem : ∀ T, T ∈ two Ts i → T.text.length ≤ 2800 := fun T hT => tx T (List.mem_of_mem_drop (List.mem_of_mem_take hT))
          have l1 : ("(" : Str).length = 1 := by decide +kernel
          have l2 : (")" : Str).length = 1 := by decide +kernel
          have l3 : (" + " : Str).length = 3 := by decide +kernel
          rcases two_of hi2 with ⟨a, c, et, ep⟩ | ⟨a, et, ep⟩
          · rw [et] at e3 mem
            have ma := mem a (by simp)
            have mc := mem c (by simp)
            have e3 : Gb q = some (.lst [V.str a.text, V.str c.text]) := e3
            refine ⟨rfl, _, rfl, q, _, rfl, .inl (SqL.of e3), rfl, _, rfl, iteT ?_⟩
            refine ⟨_, rfl, q, _, ((0 : Nat) : Int), _, rfl, rfl, SqL.of e3, atI_nat (j := 0) rfl, _, _, rfl, rfl, zl (by omega), _, _, rfl, rfl, zl (by rw [TR.len_app]; omega), _, rfl, q, _, ((1 : Nat) : Int), _, rfl, rfl, SqL.of e3, atI_nat (j := 1) rfl, _, _, rfl, rfl, zl (by rw [TR.len_app, TR.len_app]; omega), _, _, rfl, rfl, zl (by rw [TR.len_app, TR.len_app, TR.len_app]; omega), ?_⟩
            exact w1 _ _ (by rw [ep, ← plus_text]; rfl) (Same.refl _)
          · rw [et] at e3 mem
            have e3 : Gb q = some (.lst [V.str a.text]) := e3
            refine ⟨rfl, _, rfl, q, _, rfl, .inl (SqL.of e3), rfl, _, rfl, iteF ?_⟩
            exact ⟨_, rfl, q, _, ((0 : Nat) : Int), _, rfl, rfl, SqL.of e3, atI_nat (j := 0) rfl, w1 _ _ (by rw [ep]; rfl) (Same.refl _)⟩
        intro G3 s3 hD2
        have s23 := s2.trans s3
        refine ⟨_, by rw [pairT_len]; omega, pairT Ts, D2, _, _, _, rfl, I.pair l2, K1.trans (Keep.of s23), B1.same s23, ?_, rfl⟩
        rw [hD2, lxs, gath_fm _ _ _ (Nat.le_refl _), List.take_length]
        rw [← List.filterMap_eq_map]
        rfl
      · have d1 : ¬ (1 : Int) < ((Ts.map fun T => V.str T.text).length : Nat) := fun q => d1 (decide_eq_true q)
        rw [List.length_map] at d1
        obtain ⟨T0, rfl⟩ : ∃ T, Ts = [T] := by
          match Ts, I.ne with
          | [T], _ => exact ⟨T, rfl⟩
          | _ :: _ :: _, _ => exact absurd d1 (by simp only [List.length_cons]; omega)
        have m0 : T0 ∈ [T0] := List.mem_singleton.mpr rfl
        have e1 := I.tx
        have e2 := I.pt
        have e3 := I.sg
        obtain ⟨d, d8, hd, _⟩ := I.dep
        rw [show ∀ f : Tre → Nat, ([T0].map f).sum = f T0 from fun f => Nat.add_zero _] at e1 e2 e3
        unfold textW at e1
        unfold partW at e2
        unfold signW at e3
        have e4 : (signsP T0.parts).length = N := by omega
        subst e4
        have LT : LongT T0 := ⟨I.ok T0 m0, Nat.le_trans (hd T0 m0) d8, by omega, by omega, I.tp T0 m0⟩
        refine ⟨_, rfl, p, _, ((0 : Nat) : Int), _, rfl, rfl, SqL.of hp, atI_nat (j := 0) rfl, _, rfl, by show 2 ≤ sizeLine; decide, fun t nt => ?_⟩
        exact k t T0 _ (K1.trans (Keep.of (same_upd nt))) (B1.same (same_upd nt)) upd_same LT
end
end K36

namespace K36
open PySem PySem.Spec PyProof.Rows L2 EV TL LM PM TR
section
variable {P : Program} {w : World} {K : Fg} {mg : Str → Option Value} {base : Heap}
theorem dp_many {H : Hp} {p : Addr} (h : SqL K H p [.str "many", .str "steps", .bl true]) : Dp K H (.ref p) (.list [.str "many", .str "steps", .bool true]) := .lst h (.cons (.str _) (.cons (.str _) (.cons (.bl _) .nil)))
theorem ne_many {H : Hp} {p q : Addr} {Q : VK} (h1 : SqL K H p [.str "many", .str "steps", .bl true]) (h2 : SqL K H q [.str "many", .str "steps", .bl true]) (kk : Q (.bl false) H) : rNeD K (.ref p) (.ref q) H Q := by
  have sh : SeqAt.shaped (.list [.str "many", .str "steps", .bool true]) = true := by decide +kernel
  have e : PyData.eqv (.list [.str "many", .str "steps", .bool true]) (.list [.str "many", .str "steps", .bool true]) = true := by decide +kernel
  refine ⟨_, _, dp_many h1, dp_many h2, sh, sh, ?_⟩
  rw [e]
  exact kk
theorem ne_ints {H : Hp} {i : Int} {Q : VK} (kk : Q (.bl false) H) : rNeD K (.int i) (.int i) H Q := by
  refine ⟨_, _, .int _, .int _, ?_, ?_, ?_⟩
  · unfold SeqAt.shaped; simp [PyData.canLay0, PyData.depth]
  · unfold SeqAt.shaped; simp [PyData.canLay0, PyData.depth]
  · have e : PyData.eqv (.int i) (.int i) = true := by simp [PyData.eqv]
    rw [e]
    exact kk
theorem iteT' {p : Prop} [Decidable p] {A B : Prop} (h : p) (a : A) : if decide p = true then A else B := by rw [if_pos (decide_eq_true h)]; exact a
theorem iteF' {p : Prop} [Decidable p] {A B : Prop} (h : ¬ p) (b : B) : if decide p = true then A else B := by rw [if_neg (by rw [decide_eq_false h]; decide)]; exact b
def spLaw (K : Fg) : Sp := fun vs H Q _ => ∃ (a : Addr) (ns : List Int), vs = [.ref a] ∧ SqL K H a (ns.map V.int) ∧ ns.length ≤ 63 ∧ ∀ H', Q (.bl true) H'
theorem ok_law {f : Addr} {fd : FuncData} (F : Fun K "law" "law" s_law f fd) (T : Cst K mg)
    (O_law_take : Ok P w K mg base 1 "_law_take" ["bag", "many"] spTake) (O_law_of : Ok P w K mg base 2 "_law_of" ["bag", "some"] spOf) (O_law_bag : Ok P w K mg base 1 "_law_bag" ["script", "at"] (spBag K))
    (O_law_nested_right : Ok P w K mg base 10 "_law_nested_right" ["bag", "many"] spNR) (O_law_long : Ok P w K mg base 3 "_law_long" ["bag", "many"] spLong) (O_law_read : Ok P w K mg base 9 "_law_read" ["text"] spReadL) :
    FnOk P w K mg base CX0 11 f fd ["script"] (spLaw K) := by
  refine F.ok sc_law (fun vs H Q E h => ?_) (fun cdv A outer s H vs Q E hr h => ?_)
  · obtain ⟨a, ns, rfl, _⟩ := h
    rfl
  · obtain ⟨a, ns, rfl, hS, hlen, k⟩ := h
    refine ⟨_, (pss_cons (ps_for PassesOwn.never rfl (pi_range1 rfl T.n_range (pa_cons (pe_callB (call_max2 rfl) (by rfl) T.n_max (by decide +kernel) (pa_cons pe_int (pa_cons (pe_callB (call_min2 rfl) (by rfl) T.n_min (by decide +kernel) (pa_cons pe_int (pa_cons (pe_callB call_len_seq (by rfl) T.n_len (by decide +kernel) (pa_cons (pv 0) pa_nil)) pa_nil))) pa_nil))) pa_nil)) (pg_name (i := 1) sc_law.nd rfl (Or.inl rfl)) (pss_cons (ps_set (i := 2) sc_law.nd rfl (Or.inl rfl) (pe_callO O_law_bag (hr.mono (by decide)) (pa_cons (pv 0) (pa_cons (pv 1) pa_nil))))
    (pss_cons (ps_for PassesOwn.never rfl (pi_list (pe_lst (pa_cons (pe_callO O_law_of (hr.mono (by decide)) (pa_cons (pv 2) (pa_cons (pe_lst (pa_cons pe_int (pa_cons pe_int (pa_cons pe_int (pa_cons pe_int pa_nil))))) pa_nil))) (pa_cons (pe_callO O_law_of (hr.mono (by decide)) (pa_cons (pv 2) (pa_cons (pe_lst (pa_cons pe_int (pa_cons pe_int (pa_cons pe_int pa_nil)))) pa_nil))) (pa_cons (pe_op op_add pe_int (pe_callO O_law_take (hr.mono (by decide)) (pa_cons (pv 2) (pa_cons pe_int pa_nil)))) pa_nil))))) (pg_name (i := 3) sc_law.nd rfl (Or.inl rfl)) (pss_one (ps_if (pt_not (pt_val (pe_callO O_law_nested_right (hr.mono (by decide)) (pa_cons (pv 2) (pa_cons (pv 3) pa_nil))))) (pss_one (ps_ret pe_bl)) pss_nil)))
    (pss_one (ps_for PassesOwn.never rfl (pi_list (pe_lst (pa_cons (pe_op op_add pe_int (pe_callO O_law_take (hr.mono (by decide)) (pa_cons (pv 2) (pa_cons pe_int pa_nil)))) (pa_cons (pe_op op_add pe_int (pe_callO O_law_take (hr.mono (by decide)) (pa_cons (pv 2) (pa_cons pe_int pa_nil)))) pa_nil)))) (pg_name (i := 3) sc_law.nd rfl (Or.inl rfl)) (pss_cons (ps_asg (pe_callO O_law_long (hr.mono (by decide)) (pa_cons (pv 2) (pa_cons (pv 3) pa_nil))) (pg_tup rfl (pgs_cons (pg_name (i := 4) sc_law.nd rfl (Or.inl rfl)) (pgs_cons (pg_name (i := 5) sc_law.nd rfl (Or.inl rfl)) pgs_nil))))
    (pss_cons (ps_if (pt_cmpR (op_neD hr.units) (pe_callO O_law_read (hr.mono (by decide)) (pa_cons (pv 4) pa_nil)) (pe_mid (pe_ifExp (pt_cmpR op_le (pv 5) pe_int (nomark _)) (pv 5) (pe_lst (pa_cons pe_str (pa_cons pe_str (pa_cons pe_bl pa_nil)))))) (nomark _)) (pss_one (ps_ret pe_bl)) pss_nil)
    (pss_one (ps_if (pt_cmpR (op_neD hr.units) (pe_callO O_law_read (hr.mono (by decide)) (pa_cons (pe_op op_add_str (pv 4) pe_str) pa_nil)) (pe_lst (pa_cons pe_str (pa_cons (pe_callB call_len_str (by rfl) T.n_len (by decide +kernel) (pa_cons (pv 4) pa_nil)) pa_nil))) (nomark _)) (pss_one (ps_ret pe_bl)) pss_nil)))))))))
    (pss_one (ps_ret pe_bl))), ?_⟩
    have zl : ∀ {n : Nat}, n ≤ 100000 → n ≤ sizeLine := fun h => by rw [sizeLine_eq]; omega
    have hN : ∀ m : Int, m = (if (ns.map V.int).length < (4 : Int) then ((ns.map V.int).length : Int) else 4) → 1 ≤ (if m > 1 then m else 1) ∧ (if m > 1 then m else 1) ≤ 4 := fun m hm => by
      have q : m ≤ 4 := by rw [hm]; split <;> omega
      split <;> omega
    obtain ⟨n1, n4⟩ := hN _ rfl
    refine ⟨_, rfl, a, _, rfl, .inl hS, _, _, rfl, _, _, rfl, _, rfl, by omega, by omega, ?_⟩
    refine for_range (lo := 0) (fun i σ G => Same H G ∧ ∃ u1 u2 u3 u4 u5 : Option V, σ = [some (.ref a), u1, u2, u3, u4, u5]) ⟨Same.refl _, _, _, _, _, _, rfl⟩ ?_ ?_
    · rintro i σ G hi ⟨S0, u1, u2, u3, u4, u5, rfl⟩
      refine ⟨_, rfl, _, rfl, a, ns, i, by simp, S0.seq hS, by omega, fun b G1 nb S1 B1 => ?_⟩
      have nbH : H b = none := S0.free nb
      have K1 : Keep b H G1 := Keep.of (S0.trans S1)
      clear S0 S1 nb
      have toS : ∀ {G}, Keep b H G → Same H G := fun {G} kf => fun p' x' z' => kf p' x' (fun e => by rw [e, nbH] at z'; cases z') z'
      refine ⟨_, rfl, by show 4 ≤ sizeLine; decide, fun l1 m1 => ⟨b, l1, _, rfl, B1.same (same_upd m1), upd_same, B1.ne m1, by decide, by decide, fun x G2 hx k2 B2 => ?_⟩⟩
      have K2 := K1.trans ((Keep.of (same_upd m1)).trans k2)
      obtain ⟨a1, rfl, a1l, a1h⟩ : ∃ z : Nat, x = .int (z : Nat) ∧ 1 ≤ z ∧ z ≤ 200 := by
        simp only [List.mem_cons, List.not_mem_nil, or_false] at hx
        rcases hx with rfl | rfl | rfl | rfl
        · exact ⟨99, rfl, by decide, by decide⟩
        · exact ⟨100, rfl, by decide, by decide⟩
        · exact ⟨101, rfl, by decide, by decide⟩
        · exact ⟨102, rfl, by decide, by decide⟩
      clear hx m1 k2 K1 B1
      refine ⟨_, rfl, by show 3 ≤ sizeLine; decide, fun l1 m1 => ⟨b, l1, _, rfl, B2.same (same_upd m1), upd_same, B2.ne m1, by decide, by decide, fun x G3 hx k3 B3 => ?_⟩⟩
      have K3 := K2.trans ((Keep.of (same_upd m1)).trans k3)
      obtain ⟨a2, rfl, a2l, a2h⟩ : ∃ z : Nat, x = .int (z : Nat) ∧ 1 ≤ z ∧ z ≤ 200 := by
        simp only [List.mem_cons, List.not_mem_nil, or_false] at hx
        rcases hx with rfl | rfl | rfl
        · exact ⟨100, rfl, by decide, by decide⟩
        · exact ⟨101, rfl, by decide, by decide⟩
        · exact ⟨103, rfl, by decide, by decide⟩
      clear hx m1 k3 K2 B2
      refine ⟨_, rfl, b, _, rfl, B3, by decide, by decide, fun r G4 r0 r1 k4 B4 => ⟨_, _, rfl, rfl, ?_⟩⟩
      have K4 := K3.trans k4
      clear K3 k4 B3
      refine ⟨by show 3 ≤ sizeLine; decide, fun L nL => ⟨L, rfl, ⟨_, SqL.of upd_same⟩, ?_⟩⟩
      have K5 := K4.same (same_upd (o := .lst [.int (a1 : Nat), .int (a2 : Nat), .int (1 + r)]) nL)
      have B5 := B4.same (same_upd (o := .lst [.int (a1 : Nat), .int (a2 : Nat), .int (1 + r)]) nL)
      have hL := upd_same (H := G4) (a := L) (o := .lst [.int (a1 : Nat), .int (a2 : Nat), .int (1 + r)])
      have Lb := B4.ne nL
      generalize upd G4 L (.lst [.int (a1 : Nat), .int (a2 : Nat), .int (1 + r)]) = G5 at K5 B5 hL
      clear K4 B4 nL
      refine for_list (xs := [.int (a1 : Nat), .int (a2 : Nat), .int (1 + r)]) (fun j σ G => Keep b G5 G ∧ BagAt G b ∧ ∃ v1 v3 v4 v5 : Option V, σ = [some (.ref a), v1, some (.ref b), v3, v4, v5]) ⟨Keep.refl _, B5, _, _, _, _, rfl⟩ (fun j σ G _ h => SqL.of (h.1 _ _ Lb hL)) ?_ ?_
      · rintro j x σ G hx ⟨k6, B6, v1, v3, v4, v5, rfl⟩
        obtain ⟨z, rfl, z1, z2⟩ : ∃ z : Nat, x = .int (z : Nat) ∧ 1 ≤ z ∧ z ≤ 200 := by
          match j, hx with
          | 0, e => injection e with e; exact ⟨a1, e.symm, a1l, a1h⟩
          | 1, e => injection e with e; exact ⟨a2, e.symm, a2l, a2h⟩
          | 2, e => injection e with e; exact ⟨(1 + r).toNat, by rw [← e]; congr 1; omega, by omega, by omega⟩
        exact ⟨_, rfl, _, rfl, b, z, rfl, B6, z1, z2, fun G' k7 B7 => ⟨_, rfl, iteF ⟨k6.trans k7, B7, _, _, _, _, rfl⟩⟩⟩
      rintro σ G6 ⟨k6, B6, v1, v3, v4, v5, rfl⟩
      have K6 := K5.trans k6
      clear K5 k6 hL Lb B5 r0 r1
      clear r
      refine ⟨_, rfl, b, _, rfl, B6, by decide, by decide, fun r G7 r0 r1 k7 B7 => ⟨_, _, rfl, rfl, ?_⟩⟩
      refine ⟨_, rfl, b, _, rfl, B7, by decide, by decide, fun r' G8 r0' r1' k8 B8 => ⟨_, _, rfl, rfl, ?_⟩⟩
      have K8 := K6.trans (k7.trans k8)
      clear K6 k7 k8 B6 B7
      refine ⟨by show 2 ≤ sizeLine; decide, fun L nL => ⟨L, rfl, ⟨_, SqL.of upd_same⟩, ?_⟩⟩
      have K9 := K8.same (same_upd (o := .lst [.int (1 + r), .int (40 + r')]) nL)
      have B9 := B8.same (same_upd (o := .lst [.int (1 + r), .int (40 + r')]) nL)
      have hL := upd_same (H := G8) (a := L) (o := .lst [.int (1 + r), .int (40 + r')])
      have Lb := B8.ne nL
      generalize upd G8 L (.lst [.int (1 + r), .int (40 + r')]) = G9 at K9 B9 hL
      clear K8 B8 nL
      refine for_list (xs := [.int (1 + r), .int (40 + r')]) (fun j σ G => Keep b G9 G ∧ BagAt G b ∧ ∃ v1 v3 v4 v5 : Option V, σ = [some (.ref a), v1, some (.ref b), v3, v4, v5]) ⟨Keep.refl _, B9, _, _, _, _, rfl⟩ (fun j σ G _ h => SqL.of (h.1 _ _ Lb hL)) ?_ ?_
      · rintro j x σ G hx ⟨k6, B6, v1, v3, v4, v5, rfl⟩
        obtain ⟨z, rfl, z1, z2⟩ : ∃ z : Nat, x = .int (z : Nat) ∧ 1 ≤ z ∧ z ≤ 200 := by
          match j, hx with
          | 0, e => injection e with e; exact ⟨(1 + r).toNat, by rw [← e]; congr 1; omega, by omega, by omega⟩
          | 1, e => injection e with e; exact ⟨(40 + r').toNat, by rw [← e]; congr 1; omega, by omega, by omega⟩
        refine ⟨_, rfl, _, rfl, b, z, rfl, B6, z1, z2, fun t T0 Ga ka Ba ht LT => ⟨_, _, rfl, SqT.of ht, rfl, _, _, rfl, _, _, rfl, rfl, ?_⟩⟩
        have hp := parse_text LT.ok (Nat.le_trans LT.dep (by decide))
        have hl := LT.len
        have hpar := LT.par
        refine ⟨_, rfl, _, rfl, by omega, (fun q e => by rw [hp] at e; cases e), fun ps e => ?_⟩
        rw [hp] at e
        injection e with e
        subst e

        have lq : ("?" : Str).length = 1 := by decide +kernel
        refine ⟨fun q a0 Gb sb na0 ga0 => ?_, by omega, fun q Gb sb => ?_⟩
        · refine ⟨fun v G' => Same Gb G' ∧ ∃ l, v = .ref l ∧ G' l = some (.lst [.str "many", .str "steps", .bl true]), ⟨_, rfl, _, _, rfl, rfl, _, rfl, iteF' (by omega) ⟨by show 3 ≤ sizeLine; decide, fun l nl => ⟨same_upd nl, l, rfl, upd_same⟩⟩⟩, ?_⟩
          rintro _ Gc ⟨sc, l, rfl, hl'⟩
          refine ne_many (SqL.of (sc _ _ ga0)) (SqL.of hl') ?_
          have sAll := sb.trans sc
          refine ⟨_, rfl, iteF ⟨_, rfl, _, _, rfl, rfl, zl (by omega), _, rfl, by rw [TR.len_app, show ("?" : Str).length = 1 by decide +kernel]; omega, (fun q e a3 Ge se na ga => ?_), (fun ps e => by rw [LT.more] at e; cases e)⟩⟩
          rw [LT.more] at e
          injection e with e
          subst e
          refine ⟨_, rfl, _, rfl, zl (by omega), by show 2 ≤ sizeLine; decide, fun l nl => ne_wrong (SqL.of (same_upd nl _ _ ga)) (SqL.of upd_same) ⟨_, rfl, iteF ?_⟩⟩
          have sA := sAll.trans (se.trans (same_upd (o := .lst [.str "wrong", .int (T0.text.length : Nat)]) nl))
          exact ⟨(k6.trans ka).same sA, Ba.same sA, _, _, _, _, rfl⟩
        · refine ⟨fun v G' => Same Gb G' ∧ v = .int ((signsP T0.parts).length : Nat), ⟨_, rfl, _, _, rfl, rfl, _, rfl, iteT' (by omega) ⟨_, rfl, Same.refl _, rfl⟩⟩, ?_⟩
          rintro _ Gc ⟨sc, rfl⟩
          refine ne_ints ?_
          have sAll := sb.trans sc
          refine ⟨_, rfl, iteF ⟨_, rfl, _, _, rfl, rfl, zl (by omega), _, rfl, by rw [TR.len_app, show ("?" : Str).length = 1 by decide +kernel]; omega, (fun q e a3 Ge se na ga => ?_), (fun ps e => by rw [LT.more] at e; cases e)⟩⟩
          rw [LT.more] at e
          injection e with e
          subst e
          refine ⟨_, rfl, _, rfl, zl (by omega), by show 2 ≤ sizeLine; decide, fun l nl => ne_wrong (SqL.of (same_upd nl _ _ ga)) (SqL.of upd_same) ⟨_, rfl, iteF ?_⟩⟩
          have sA := sAll.trans (se.trans (same_upd (o := .lst [.str "wrong", .int (T0.text.length : Nat)]) nl))
          exact ⟨(k6.trans ka).same sA, Ba.same sA, _, _, _, _, rfl⟩
      rintro σ Gz ⟨kz, Bz, v1, v3, v4, v5, rfl⟩
      exact ⟨toS (K9.trans kz), _, _, _, _, _, rfl⟩
    · rintro σ G ⟨S0, u1, u2, u3, u4, u5, rfl⟩
      exact k G
end
end K36

namespace K36
open PySem PySem.Spec PyProof.Rows L2 EV TL LM
abbrev veT : List Value := [.type "ValueError", .type "Exception", .type "BaseException", .type "object"]
abbrev leT : List Value := [.type "LookupError", .type "Exception", .type "BaseException", .type "object"]
/-- the values are these texts -/
def strsIn : List Value → List Str → Bool
  | [], [] => true
  | .str z _ :: us, w :: ws => z == w && strsIn us ws
  | _, _ => false
theorem strs_vals : ∀ {us : List Value} {ws : List Str}, strsIn us ws = true → Vals (ws.map V.str) us
  | [], [], _ => .nil
  | [], _ :: _, h => by simp [strsIn] at h
  | u :: us, [], h => by cases u <;> simp [strsIn] at h
  | u :: us, w :: ws, h => by
    cases u <;> simp [strsIn] at h
    obtain ⟨h1, h2⟩ := h
    subst h1
    exact .cons ⟨_, rfl⟩ (strs_vals h2)
theorem tupk_of {K : Fg} {a : Addr} {od : Option Addr} {its : Array Value} {n : Nat} {sl : Array (Option Value)} {ws : List Str} (l : K.lookup a = some ⟨.type "tuple", od, .seq its n, sl⟩) (o : strsIn its.toList ws = true) (hl : ws.length ≤ sizeLine) : TupK K a (ws.map V.str) := by
  have v := strs_vals o
  refine ⟨_, _, _, l, rfl, rfl, ?_, v⟩
  have := v.length
  rw [List.length_map] at this
  show its.toList.length ≤ _
  omega
theorem all_mk {l : PySem.W.OpenLaw} {w : World} {K : Fg} {h : Heap} {mg : Str → Option Value} {fa : Addr} (X : K.In h) (G : h.Ns mainGlobals mg) (hfa : mg "law" = some (.ref fa))
    {C_Expression C_HE C_BadExpression C_TooMany C_Phrase g_Phrase__letter g_Phrase__is_between g_Phrase__skip_small g_BadExpression___init__ g_Phrase__take g_Phrase__take_word g_Phrase__take_class g_Phrase__take_request g_Phrase__take_opening g_Phrase__take_sign g_Phrase__take_start g_Phrase_take_all g_Phrase___init__ g_Expression___init__ g_Expression_leaf p_Expression_leaf g_Expression_parts g_Expression___len__ g_TooMany___init__ g__checked g_Expression_read p_Expression_read g_Expression___eq__ g__joined g_arity_of g__written g_Expression___add__ g_Expression___sub__ g_Expression___mul__ g_Expression___floordiv__ g_Expression___and__ g_Expression___or__ g_Expression___xor__ g_Expression___lshift__ g_Expression___rshift__ g_Expression___neg__ g_Expression___pos__ g_Expression___invert__ g_Expression___abs__ g_Expression___str__ g__law_take g__law_bag g__law_of g__law_read g__law_nested g__law_nested_right g__law_long g_law v_BINARY_SIGNSA v_UNARY_SIGNSA : Addr}
    {od_Phrase__letter an_Phrase__letter od_Phrase__is_between an_Phrase__is_between od_Phrase__skip_small an_Phrase__skip_small od_BadExpression___init__ an_BadExpression___init__ od_Phrase__take an_Phrase__take od_Phrase__take_word an_Phrase__take_word od_Phrase__take_class an_Phrase__take_class od_Phrase__take_request an_Phrase__take_request od_Phrase__take_opening an_Phrase__take_opening od_Phrase__take_sign an_Phrase__take_sign od_Phrase__take_start an_Phrase__take_start od_Phrase_take_all an_Phrase_take_all od_Phrase___init__ an_Phrase___init__ od_Expression___init__ an_Expression___init__ od_Expression_leaf an_Expression_leaf od_Expression_parts an_Expression_parts od_Expression___len__ an_Expression___len__ od_TooMany___init__ an_TooMany___init__ od__checked an__checked od_Expression_read an_Expression_read od_Expression___eq__ an_Expression___eq__ od__joined an__joined od_arity_of an_arity_of od__written an__written od_Expression___add__ an_Expression___add__ od_Expression___sub__ an_Expression___sub__ od_Expression___mul__ an_Expression___mul__ od_Expression___floordiv__ an_Expression___floordiv__ od_Expression___and__ an_Expression___and__ od_Expression___or__ an_Expression___or__ od_Expression___xor__ an_Expression___xor__ od_Expression___lshift__ an_Expression___lshift__ od_Expression___rshift__ an_Expression___rshift__ od_Expression___neg__ an_Expression___neg__ od_Expression___pos__ an_Expression___pos__ od_Expression___invert__ an_Expression___invert__ od_Expression___abs__ an_Expression___abs__ od_Expression___str__ an_Expression___str__ od__law_take an__law_take od__law_bag an__law_bag od__law_of an__law_of od__law_read an__law_read od__law_nested an__law_nested od__law_nested_right an__law_nested_right od__law_long an__law_long od_law an_law od_BINARY_SIGNS od_UNARY_SIGNS : Option Addr}
    {sl_Phrase__letter sl_Phrase__is_between sl_Phrase__skip_small sl_BadExpression___init__ sl_Phrase__take sl_Phrase__take_word sl_Phrase__take_class sl_Phrase__take_request sl_Phrase__take_opening sl_Phrase__take_sign sl_Phrase__take_start sl_Phrase_take_all sl_Phrase___init__ sl_Expression___init__ sl_Expression_leaf sl_Expression_parts sl_Expression___len__ sl_TooMany___init__ sl__checked sl_Expression_read sl_Expression___eq__ sl__joined sl_arity_of sl__written sl_Expression___add__ sl_Expression___sub__ sl_Expression___mul__ sl_Expression___floordiv__ sl_Expression___and__ sl_Expression___or__ sl_Expression___xor__ sl_Expression___lshift__ sl_Expression___rshift__ sl_Expression___neg__ sl_Expression___pos__ sl_Expression___invert__ sl_Expression___abs__ sl_Expression___str__ sl__law_take sl__law_bag sl__law_of sl__law_read sl__law_nested sl__law_nested_right sl__law_long sl_law sl_BINARY_SIGNS sl_UNARY_SIGNS : Array (Option Value)}
    {oc_Phrase__letter dc_Phrase__letter pm_Phrase__letter cd_Phrase__letter ct_Phrase__letter kV_Phrase__letter oc_Phrase__is_between dc_Phrase__is_between pm_Phrase__is_between cd_Phrase__is_between ct_Phrase__is_between kV_Phrase__is_between oc_Phrase__skip_small dc_Phrase__skip_small pm_Phrase__skip_small cd_Phrase__skip_small ct_Phrase__skip_small kV_Phrase__skip_small oc_BadExpression___init__ dc_BadExpression___init__ pm_BadExpression___init__ cd_BadExpression___init__ ct_BadExpression___init__ kV_BadExpression___init__ oc_Phrase__take dc_Phrase__take pm_Phrase__take cd_Phrase__take ct_Phrase__take kV_Phrase__take oc_Phrase__take_word dc_Phrase__take_word pm_Phrase__take_word cd_Phrase__take_word ct_Phrase__take_word kV_Phrase__take_word oc_Phrase__take_class dc_Phrase__take_class pm_Phrase__take_class cd_Phrase__take_class ct_Phrase__take_class kV_Phrase__take_class oc_Phrase__take_request dc_Phrase__take_request pm_Phrase__take_request cd_Phrase__take_request ct_Phrase__take_request kV_Phrase__take_request oc_Phrase__take_opening dc_Phrase__take_opening pm_Phrase__take_opening cd_Phrase__take_opening ct_Phrase__take_opening kV_Phrase__take_opening oc_Phrase__take_sign dc_Phrase__take_sign pm_Phrase__take_sign cd_Phrase__take_sign ct_Phrase__take_sign kV_Phrase__take_sign oc_Phrase__take_start dc_Phrase__take_start pm_Phrase__take_start cd_Phrase__take_start ct_Phrase__take_start kV_Phrase__take_start oc_Phrase_take_all dc_Phrase_take_all pm_Phrase_take_all cd_Phrase_take_all ct_Phrase_take_all kV_Phrase_take_all oc_Phrase___init__ dc_Phrase___init__ pm_Phrase___init__ cd_Phrase___init__ ct_Phrase___init__ kV_Phrase___init__ oc_Expression___init__ dc_Expression___init__ pm_Expression___init__ cd_Expression___init__ ct_Expression___init__ kV_Expression___init__ oc_Expression_leaf dc_Expression_leaf pm_Expression_leaf cd_Expression_leaf ct_Expression_leaf kV_Expression_leaf oc_Expression_parts dc_Expression_parts pm_Expression_parts cd_Expression_parts ct_Expression_parts kV_Expression_parts oc_Expression___len__ dc_Expression___len__ pm_Expression___len__ cd_Expression___len__ ct_Expression___len__ kV_Expression___len__ oc_TooMany___init__ dc_TooMany___init__ pm_TooMany___init__ cd_TooMany___init__ ct_TooMany___init__ kV_TooMany___init__ oc__checked dc__checked pm__checked cd__checked ct__checked kV__checked oc_Expression_read dc_Expression_read pm_Expression_read cd_Expression_read ct_Expression_read kV_Expression_read oc_Expression___eq__ dc_Expression___eq__ pm_Expression___eq__ cd_Expression___eq__ ct_Expression___eq__ kV_Expression___eq__ oc__joined dc__joined pm__joined cd__joined ct__joined kV__joined oc_arity_of dc_arity_of pm_arity_of cd_arity_of ct_arity_of kV_arity_of oc__written dc__written pm__written cd__written ct__written kV__written oc_Expression___add__ dc_Expression___add__ pm_Expression___add__ cd_Expression___add__ ct_Expression___add__ kV_Expression___add__ oc_Expression___sub__ dc_Expression___sub__ pm_Expression___sub__ cd_Expression___sub__ ct_Expression___sub__ kV_Expression___sub__ oc_Expression___mul__ dc_Expression___mul__ pm_Expression___mul__ cd_Expression___mul__ ct_Expression___mul__ kV_Expression___mul__ oc_Expression___floordiv__ dc_Expression___floordiv__ pm_Expression___floordiv__ cd_Expression___floordiv__ ct_Expression___floordiv__ kV_Expression___floordiv__ oc_Expression___and__ dc_Expression___and__ pm_Expression___and__ cd_Expression___and__ ct_Expression___and__ kV_Expression___and__ oc_Expression___or__ dc_Expression___or__ pm_Expression___or__ cd_Expression___or__ ct_Expression___or__ kV_Expression___or__ oc_Expression___xor__ dc_Expression___xor__ pm_Expression___xor__ cd_Expression___xor__ ct_Expression___xor__ kV_Expression___xor__ oc_Expression___lshift__ dc_Expression___lshift__ pm_Expression___lshift__ cd_Expression___lshift__ ct_Expression___lshift__ kV_Expression___lshift__ oc_Expression___rshift__ dc_Expression___rshift__ pm_Expression___rshift__ cd_Expression___rshift__ ct_Expression___rshift__ kV_Expression___rshift__ oc_Expression___neg__ dc_Expression___neg__ pm_Expression___neg__ cd_Expression___neg__ ct_Expression___neg__ kV_Expression___neg__ oc_Expression___pos__ dc_Expression___pos__ pm_Expression___pos__ cd_Expression___pos__ ct_Expression___pos__ kV_Expression___pos__ oc_Expression___invert__ dc_Expression___invert__ pm_Expression___invert__ cd_Expression___invert__ ct_Expression___invert__ kV_Expression___invert__ oc_Expression___abs__ dc_Expression___abs__ pm_Expression___abs__ cd_Expression___abs__ ct_Expression___abs__ kV_Expression___abs__ oc_Expression___str__ dc_Expression___str__ pm_Expression___str__ cd_Expression___str__ ct_Expression___str__ kV_Expression___str__ oc__law_take dc__law_take pm__law_take cd__law_take ct__law_take kV__law_take oc__law_bag dc__law_bag pm__law_bag cd__law_bag ct__law_bag kV__law_bag oc__law_of dc__law_of pm__law_of cd__law_of ct__law_of kV__law_of oc__law_read dc__law_read pm__law_read cd__law_read ct__law_read kV__law_read oc__law_nested dc__law_nested pm__law_nested cd__law_nested ct__law_nested kV__law_nested oc__law_nested_right dc__law_nested_right pm__law_nested_right cd__law_nested_right ct__law_nested_right kV__law_nested_right oc__law_long dc__law_long pm__law_long cd__law_long ct__law_long kV__law_long oc_law dc_law pm_law cd_law ct_law kV_law : Value}
    {rs_Expression_leaf rs_Expression_read : List Value}
    {it_BINARY_SIGNS it_UNARY_SIGNS : Array Value}
    {t_LONGEST_NAME t_MOST_OPENED t_MOST_STEPS n_BINARY_SIGNS n_UNARY_SIGNS : Nat}
    (a_HE : PySem.W.nsIn K mainGlobals "HeirsbackError" = some (some (.ref C_HE)))
    (a_Phrase : PySem.W.nsIn K mainGlobals "Phrase" = some (some (.ref C_Phrase)))
    (a_BadExpression : PySem.W.nsIn K mainGlobals "BadExpression" = some (some (.ref C_BadExpression)))
    (a_Expression : PySem.W.nsIn K mainGlobals "Expression" = some (some (.ref C_Expression)))
    (a_TooMany : PySem.W.nsIn K mainGlobals "TooMany" = some (some (.ref C_TooMany)))
    (a__checked : PySem.W.nsIn K mainGlobals "_checked" = some (some (.ref g__checked)))
    (a__joined : PySem.W.nsIn K mainGlobals "_joined" = some (some (.ref g__joined)))
    (a_arity_of : PySem.W.nsIn K mainGlobals "arity_of" = some (some (.ref g_arity_of)))
    (a__written : PySem.W.nsIn K mainGlobals "_written" = some (some (.ref g__written)))
    (a__law_take : PySem.W.nsIn K mainGlobals "_law_take" = some (some (.ref g__law_take)))
    (a__law_bag : PySem.W.nsIn K mainGlobals "_law_bag" = some (some (.ref g__law_bag)))
    (a__law_of : PySem.W.nsIn K mainGlobals "_law_of" = some (some (.ref g__law_of)))
    (a__law_read : PySem.W.nsIn K mainGlobals "_law_read" = some (some (.ref g__law_read)))
    (a__law_nested : PySem.W.nsIn K mainGlobals "_law_nested" = some (some (.ref g__law_nested)))
    (a__law_nested_right : PySem.W.nsIn K mainGlobals "_law_nested_right" = some (some (.ref g__law_nested_right)))
    (a__law_long : PySem.W.nsIn K mainGlobals "_law_long" = some (some (.ref g__law_long)))
    (a_law : PySem.W.nsIn K mainGlobals "law" = some (some (.ref g_law)))
    (v_LONGEST_NAME : PySem.W.nsIn K mainGlobals "LONGEST_NAME" = some (some (.int 8 t_LONGEST_NAME)))
    (v_MOST_OPENED : PySem.W.nsIn K mainGlobals "MOST_OPENED" = some (some (.int 100 t_MOST_OPENED)))
    (v_MOST_STEPS : PySem.W.nsIn K mainGlobals "MOST_STEPS" = some (some (.int 100 t_MOST_STEPS)))
    (v_BINARY_SIGNS : PySem.W.nsIn K mainGlobals "BINARY_SIGNS" = some (some (.ref v_BINARY_SIGNSA)))
    (v_UNARY_SIGNS : PySem.W.nsIn K mainGlobals "UNARY_SIGNS" = some (some (.ref v_UNARY_SIGNSA)))
    (z_isinstance : PySem.W.nsIn K mainGlobals "isinstance" = some none)
    (z_list : PySem.W.nsIn K mainGlobals "list" = some none)
    (z_tuple : PySem.W.nsIn K mainGlobals "tuple" = some none)
    (z_int : PySem.W.nsIn K mainGlobals "int" = some none)
    (z_str : PySem.W.nsIn K mainGlobals "str" = some none)
    (z_bool : PySem.W.nsIn K mainGlobals "bool" = some none)
    (z_len : PySem.W.nsIn K mainGlobals "len" = some none)
    (z_abs : PySem.W.nsIn K mainGlobals "abs" = some none)
    (z_max : PySem.W.nsIn K mainGlobals "max" = some none)
    (z_min : PySem.W.nsIn K mainGlobals "min" = some none)
    (z_range : PySem.W.nsIn K mainGlobals "range" = some none)
    (z_enumerate : PySem.W.nsIn K mainGlobals "enumerate" = some none)
    (z_all : PySem.W.nsIn K mainGlobals "all" = some none)
    (z_ValueError : PySem.W.nsIn K mainGlobals "ValueError" = some none)
    (z_LookupError : PySem.W.nsIn K mainGlobals "LookupError" = some none)
    (z_KeyError : PySem.W.nsIn K mainGlobals "KeyError" = some none)
    (z_IndexError : PySem.W.nsIn K mainGlobals "IndexError" = some none)
    (sa_Phrase : PySem.W.findIn K (.ref C_Phrase) "__setattr__" = some (some (.builtin "object.__setattr__")))
    (nA_Phrase_0 : PySem.W.findIn K (.ref C_Phrase) "_text" = some none)
    (nA_Phrase_1 : PySem.W.findIn K (.ref C_Phrase) "_at" = some none)
    (nA_Phrase_2 : PySem.W.findIn K (.ref C_Phrase) "_waiting" = some none)
    (nA_Phrase_3 : PySem.W.findIn K (.ref C_Phrase) "_found" = some none)
    (m_Phrase__letter : PySem.W.findIn K (.ref C_Phrase) "_letter" = some (some (.ref g_Phrase__letter)))
    (m_Phrase__is_between : PySem.W.findIn K (.ref C_Phrase) "_is_between" = some (some (.ref g_Phrase__is_between)))
    (m_Phrase__skip_small : PySem.W.findIn K (.ref C_Phrase) "_skip_small" = some (some (.ref g_Phrase__skip_small)))
    (sa_BadExpression : PySem.W.findIn K (.ref C_BadExpression) "__setattr__" = some (some (.builtin "object.__setattr__")))
    (hg_BadExpression : PySem.W.findIn K (.ref C_BadExpression) "__getattribute__" = some (some (.builtin "BaseException.__getattribute__")))
    (hk_BadExpression : PySem.W.findIn K (.ref C_BadExpression) "__getattr__" = some none)
    (ha_BadExpression : PySem.W.findIn K (.ref C_BadExpression) "__class__" = some (some (.builtin "object.__class__")))
    (na_BadExpression_at : PySem.W.findIn K (.ref C_BadExpression) "at" = some none)
    (i_BadExpression___init__ : PySem.W.findIn K (.ref C_BadExpression) "__init__" = some (some (.ref g_BadExpression___init__)))
    (m_Phrase__take : PySem.W.findIn K (.ref C_Phrase) "_take" = some (some (.ref g_Phrase__take)))
    (m_Phrase__take_word : PySem.W.findIn K (.ref C_Phrase) "_take_word" = some (some (.ref g_Phrase__take_word)))
    (m_Phrase__take_class : PySem.W.findIn K (.ref C_Phrase) "_take_class" = some (some (.ref g_Phrase__take_class)))
    (m_Phrase__take_request : PySem.W.findIn K (.ref C_Phrase) "_take_request" = some (some (.ref g_Phrase__take_request)))
    (m_Phrase__take_opening : PySem.W.findIn K (.ref C_Phrase) "_take_opening" = some (some (.ref g_Phrase__take_opening)))
    (m_Phrase__take_sign : PySem.W.findIn K (.ref C_Phrase) "_take_sign" = some (some (.ref g_Phrase__take_sign)))
    (m_Phrase__take_start : PySem.W.findIn K (.ref C_Phrase) "_take_start" = some (some (.ref g_Phrase__take_start)))
    (m_Phrase_take_all : PySem.W.findIn K (.ref C_Phrase) "take_all" = some (some (.ref g_Phrase_take_all)))
    (i_Phrase___init__ : PySem.W.findIn K (.ref C_Phrase) "__init__" = some (some (.ref g_Phrase___init__)))
    (sa_Expression : PySem.W.findIn K (.ref C_Expression) "__setattr__" = some (some (.builtin "object.__setattr__")))
    (nA_Expression_0 : PySem.W.findIn K (.ref C_Expression) "_parts" = some none)
    (nA_Expression_1 : PySem.W.findIn K (.ref C_Expression) "_signs" = some none)
    (i_Expression___init__ : PySem.W.findIn K (.ref C_Expression) "__init__" = some (some (.ref g_Expression___init__)))
    (fc_Expression_leaf : PySem.W.findCls K (.ref C_Expression) (.type "type") "leaf" = some (.get (.builtin "staticmethod.__get__") (.ref p_Expression_leaf) .none (.ref C_Expression)))
    (m_Expression_parts : PySem.W.findIn K (.ref C_Expression) "parts" = some (some (.ref g_Expression_parts)))
    (m_Expression___len__ : PySem.W.findIn K (.ref C_Expression) "__len__" = some (some (.ref g_Expression___len__)))
    (sa_TooMany : PySem.W.findIn K (.ref C_TooMany) "__setattr__" = some (some (.builtin "object.__setattr__")))
    (hg_TooMany : PySem.W.findIn K (.ref C_TooMany) "__getattribute__" = some (some (.builtin "BaseException.__getattribute__")))
    (hk_TooMany : PySem.W.findIn K (.ref C_TooMany) "__getattr__" = some none)
    (ha_TooMany : PySem.W.findIn K (.ref C_TooMany) "__class__" = some (some (.builtin "object.__class__")))
    (na_TooMany_what : PySem.W.findIn K (.ref C_TooMany) "what" = some none)
    (i_TooMany___init__ : PySem.W.findIn K (.ref C_TooMany) "__init__" = some (some (.ref g_TooMany___init__)))
    (fc_Expression_read : PySem.W.findCls K (.ref C_Expression) (.type "type") "read" = some (.get (.builtin "classmethod.__get__") (.ref p_Expression_read) .none (.ref C_Expression)))
    (haI_Expression : PySem.W.findIn K (.ref C_Expression) "__class__" = some (some (.builtin "object.__class__")))
    (m_Expression___eq__ : PySem.W.findIn K (.ref C_Expression) "__eq__" = some (some (.ref g_Expression___eq__)))
    (m_Expression___add__ : PySem.W.findIn K (.ref C_Expression) "__add__" = some (some (.ref g_Expression___add__)))
    (m_Expression___sub__ : PySem.W.findIn K (.ref C_Expression) "__sub__" = some (some (.ref g_Expression___sub__)))
    (m_Expression___mul__ : PySem.W.findIn K (.ref C_Expression) "__mul__" = some (some (.ref g_Expression___mul__)))
    (m_Expression___floordiv__ : PySem.W.findIn K (.ref C_Expression) "__floordiv__" = some (some (.ref g_Expression___floordiv__)))
    (m_Expression___and__ : PySem.W.findIn K (.ref C_Expression) "__and__" = some (some (.ref g_Expression___and__)))
    (m_Expression___or__ : PySem.W.findIn K (.ref C_Expression) "__or__" = some (some (.ref g_Expression___or__)))
    (m_Expression___xor__ : PySem.W.findIn K (.ref C_Expression) "__xor__" = some (some (.ref g_Expression___xor__)))
    (m_Expression___lshift__ : PySem.W.findIn K (.ref C_Expression) "__lshift__" = some (some (.ref g_Expression___lshift__)))
    (m_Expression___rshift__ : PySem.W.findIn K (.ref C_Expression) "__rshift__" = some (some (.ref g_Expression___rshift__)))
    (m_Expression___neg__ : PySem.W.findIn K (.ref C_Expression) "__neg__" = some (some (.ref g_Expression___neg__)))
    (m_Expression___pos__ : PySem.W.findIn K (.ref C_Expression) "__pos__" = some (some (.ref g_Expression___pos__)))
    (m_Expression___invert__ : PySem.W.findIn K (.ref C_Expression) "__invert__" = some (some (.ref g_Expression___invert__)))
    (m_Expression___abs__ : PySem.W.findIn K (.ref C_Expression) "__abs__" = some (some (.ref g_Expression___abs__)))
    (m_Expression___str__ : PySem.W.findIn K (.ref C_Expression) "__str__" = some (some (.ref g_Expression___str__)))
    (rc_Expression_leaf : PySem.W.recIn K p_Expression_leaf "staticmethod" = some (.ref g_Expression_leaf :: rs_Expression_leaf))
    (rc_Expression_read : PySem.W.recIn K p_Expression_read "classmethod" = some (.ref g_Expression_read :: rs_Expression_read))
    (l_Phrase__letter : K.lookup g_Phrase__letter = some ⟨oc_Phrase__letter, od_Phrase__letter, .func (PySem.W.fnOf "_letter" "Phrase._letter" (defArgs s_Phrase__letter) (defBody s_Phrase__letter) (defScope s_Phrase__letter) .none kV_Phrase__letter dc_Phrase__letter pm_Phrase__letter an_Phrase__letter cd_Phrase__letter ct_Phrase__letter), sl_Phrase__letter⟩)
    (l_Phrase__is_between : K.lookup g_Phrase__is_between = some ⟨oc_Phrase__is_between, od_Phrase__is_between, .func (PySem.W.fnOf "_is_between" "Phrase._is_between" (defArgs s_Phrase__is_between) (defBody s_Phrase__is_between) (defScope s_Phrase__is_between) .none kV_Phrase__is_between dc_Phrase__is_between pm_Phrase__is_between an_Phrase__is_between cd_Phrase__is_between ct_Phrase__is_between), sl_Phrase__is_between⟩)
    (l_Phrase__skip_small : K.lookup g_Phrase__skip_small = some ⟨oc_Phrase__skip_small, od_Phrase__skip_small, .func (PySem.W.fnOf "_skip_small" "Phrase._skip_small" (defArgs s_Phrase__skip_small) (defBody s_Phrase__skip_small) (defScope s_Phrase__skip_small) .none kV_Phrase__skip_small dc_Phrase__skip_small pm_Phrase__skip_small an_Phrase__skip_small cd_Phrase__skip_small ct_Phrase__skip_small), sl_Phrase__skip_small⟩)
    (l_BadExpression___init__ : K.lookup g_BadExpression___init__ = some ⟨oc_BadExpression___init__, od_BadExpression___init__, .func (PySem.W.fnOf "__init__" "BadExpression.__init__" (defArgs s_BadExpression___init__) (defBody s_BadExpression___init__) (defScope s_BadExpression___init__) .none kV_BadExpression___init__ dc_BadExpression___init__ pm_BadExpression___init__ an_BadExpression___init__ cd_BadExpression___init__ ct_BadExpression___init__), sl_BadExpression___init__⟩)
    (l_Phrase__take : K.lookup g_Phrase__take = some ⟨oc_Phrase__take, od_Phrase__take, .func (PySem.W.fnOf "_take" "Phrase._take" (defArgs s_Phrase__take) (defBody s_Phrase__take) (defScope s_Phrase__take) .none kV_Phrase__take dc_Phrase__take pm_Phrase__take an_Phrase__take cd_Phrase__take ct_Phrase__take), sl_Phrase__take⟩)
    (l_Phrase__take_word : K.lookup g_Phrase__take_word = some ⟨oc_Phrase__take_word, od_Phrase__take_word, .func (PySem.W.fnOf "_take_word" "Phrase._take_word" (defArgs s_Phrase__take_word) (defBody s_Phrase__take_word) (defScope s_Phrase__take_word) .none kV_Phrase__take_word dc_Phrase__take_word pm_Phrase__take_word an_Phrase__take_word cd_Phrase__take_word ct_Phrase__take_word), sl_Phrase__take_word⟩)
    (l_Phrase__take_class : K.lookup g_Phrase__take_class = some ⟨oc_Phrase__take_class, od_Phrase__take_class, .func (PySem.W.fnOf "_take_class" "Phrase._take_class" (defArgs s_Phrase__take_class) (defBody s_Phrase__take_class) (defScope s_Phrase__take_class) .none kV_Phrase__take_class dc_Phrase__take_class pm_Phrase__take_class an_Phrase__take_class cd_Phrase__take_class ct_Phrase__take_class), sl_Phrase__take_class⟩)
    (l_Phrase__take_request : K.lookup g_Phrase__take_request = some ⟨oc_Phrase__take_request, od_Phrase__take_request, .func (PySem.W.fnOf "_take_request" "Phrase._take_request" (defArgs s_Phrase__take_request) (defBody s_Phrase__take_request) (defScope s_Phrase__take_request) .none kV_Phrase__take_request dc_Phrase__take_request pm_Phrase__take_request an_Phrase__take_request cd_Phrase__take_request ct_Phrase__take_request), sl_Phrase__take_request⟩)
    (l_Phrase__take_opening : K.lookup g_Phrase__take_opening = some ⟨oc_Phrase__take_opening, od_Phrase__take_opening, .func (PySem.W.fnOf "_take_opening" "Phrase._take_opening" (defArgs s_Phrase__take_opening) (defBody s_Phrase__take_opening) (defScope s_Phrase__take_opening) .none kV_Phrase__take_opening dc_Phrase__take_opening pm_Phrase__take_opening an_Phrase__take_opening cd_Phrase__take_opening ct_Phrase__take_opening), sl_Phrase__take_opening⟩)
    (l_Phrase__take_sign : K.lookup g_Phrase__take_sign = some ⟨oc_Phrase__take_sign, od_Phrase__take_sign, .func (PySem.W.fnOf "_take_sign" "Phrase._take_sign" (defArgs s_Phrase__take_sign) (defBody s_Phrase__take_sign) (defScope s_Phrase__take_sign) .none kV_Phrase__take_sign dc_Phrase__take_sign pm_Phrase__take_sign an_Phrase__take_sign cd_Phrase__take_sign ct_Phrase__take_sign), sl_Phrase__take_sign⟩)
    (l_Phrase__take_start : K.lookup g_Phrase__take_start = some ⟨oc_Phrase__take_start, od_Phrase__take_start, .func (PySem.W.fnOf "_take_start" "Phrase._take_start" (defArgs s_Phrase__take_start) (defBody s_Phrase__take_start) (defScope s_Phrase__take_start) .none kV_Phrase__take_start dc_Phrase__take_start pm_Phrase__take_start an_Phrase__take_start cd_Phrase__take_start ct_Phrase__take_start), sl_Phrase__take_start⟩)
    (l_Phrase_take_all : K.lookup g_Phrase_take_all = some ⟨oc_Phrase_take_all, od_Phrase_take_all, .func (PySem.W.fnOf "take_all" "Phrase.take_all" (defArgs s_Phrase_take_all) (defBody s_Phrase_take_all) (defScope s_Phrase_take_all) .none kV_Phrase_take_all dc_Phrase_take_all pm_Phrase_take_all an_Phrase_take_all cd_Phrase_take_all ct_Phrase_take_all), sl_Phrase_take_all⟩)
    (l_Phrase___init__ : K.lookup g_Phrase___init__ = some ⟨oc_Phrase___init__, od_Phrase___init__, .func (PySem.W.fnOf "__init__" "Phrase.__init__" (defArgs s_Phrase___init__) (defBody s_Phrase___init__) (defScope s_Phrase___init__) .none kV_Phrase___init__ dc_Phrase___init__ pm_Phrase___init__ an_Phrase___init__ cd_Phrase___init__ ct_Phrase___init__), sl_Phrase___init__⟩)
    (l_Expression___init__ : K.lookup g_Expression___init__ = some ⟨oc_Expression___init__, od_Expression___init__, .func (PySem.W.fnOf "__init__" "Expression.__init__" (defArgs s_Expression___init__) (defBody s_Expression___init__) (defScope s_Expression___init__) .none kV_Expression___init__ dc_Expression___init__ pm_Expression___init__ an_Expression___init__ cd_Expression___init__ ct_Expression___init__), sl_Expression___init__⟩)
    (l_Expression_leaf : K.lookup g_Expression_leaf = some ⟨oc_Expression_leaf, od_Expression_leaf, .func (PySem.W.fnOf "leaf" "Expression.leaf" (defArgs s_Expression_leaf) (defBody s_Expression_leaf) (defScope s_Expression_leaf) .none kV_Expression_leaf dc_Expression_leaf pm_Expression_leaf an_Expression_leaf cd_Expression_leaf ct_Expression_leaf), sl_Expression_leaf⟩)
    (l_Expression_parts : K.lookup g_Expression_parts = some ⟨oc_Expression_parts, od_Expression_parts, .func (PySem.W.fnOf "parts" "Expression.parts" (defArgs s_Expression_parts) (defBody s_Expression_parts) (defScope s_Expression_parts) .none kV_Expression_parts dc_Expression_parts pm_Expression_parts an_Expression_parts cd_Expression_parts ct_Expression_parts), sl_Expression_parts⟩)
    (l_Expression___len__ : K.lookup g_Expression___len__ = some ⟨oc_Expression___len__, od_Expression___len__, .func (PySem.W.fnOf "__len__" "Expression.__len__" (defArgs s_Expression___len__) (defBody s_Expression___len__) (defScope s_Expression___len__) .none kV_Expression___len__ dc_Expression___len__ pm_Expression___len__ an_Expression___len__ cd_Expression___len__ ct_Expression___len__), sl_Expression___len__⟩)
    (l_TooMany___init__ : K.lookup g_TooMany___init__ = some ⟨oc_TooMany___init__, od_TooMany___init__, .func (PySem.W.fnOf "__init__" "TooMany.__init__" (defArgs s_TooMany___init__) (defBody s_TooMany___init__) (defScope s_TooMany___init__) .none kV_TooMany___init__ dc_TooMany___init__ pm_TooMany___init__ an_TooMany___init__ cd_TooMany___init__ ct_TooMany___init__), sl_TooMany___init__⟩)
    (l__checked : K.lookup g__checked = some ⟨oc__checked, od__checked, .func (PySem.W.fnOf "_checked" "_checked" (defArgs s_checked) (defBody s_checked) (defScope s_checked) .none kV__checked dc__checked pm__checked an__checked cd__checked ct__checked), sl__checked⟩)
    (l_Expression_read : K.lookup g_Expression_read = some ⟨oc_Expression_read, od_Expression_read, .func (PySem.W.fnOf "read" "Expression.read" (defArgs s_Expression_read) (defBody s_Expression_read) (defScope s_Expression_read) .none kV_Expression_read dc_Expression_read pm_Expression_read an_Expression_read cd_Expression_read ct_Expression_read), sl_Expression_read⟩)
    (l_Expression___eq__ : K.lookup g_Expression___eq__ = some ⟨oc_Expression___eq__, od_Expression___eq__, .func (PySem.W.fnOf "__eq__" "Expression.__eq__" (defArgs s_Expression___eq__) (defBody s_Expression___eq__) (defScope s_Expression___eq__) .none kV_Expression___eq__ dc_Expression___eq__ pm_Expression___eq__ an_Expression___eq__ cd_Expression___eq__ ct_Expression___eq__), sl_Expression___eq__⟩)
    (l__joined : K.lookup g__joined = some ⟨oc__joined, od__joined, .func (PySem.W.fnOf "_joined" "_joined" (defArgs s_joined) (defBody s_joined) (defScope s_joined) .none kV__joined dc__joined pm__joined an__joined cd__joined ct__joined), sl__joined⟩)
    (l_arity_of : K.lookup g_arity_of = some ⟨oc_arity_of, od_arity_of, .func (PySem.W.fnOf "arity_of" "arity_of" (defArgs s_arity_of) (defBody s_arity_of) (defScope s_arity_of) .none kV_arity_of dc_arity_of pm_arity_of an_arity_of cd_arity_of ct_arity_of), sl_arity_of⟩)
    (l__written : K.lookup g__written = some ⟨oc__written, od__written, .func (PySem.W.fnOf "_written" "_written" (defArgs s_written) (defBody s_written) (defScope s_written) .none kV__written dc__written pm__written an__written cd__written ct__written), sl__written⟩)
    (l_Expression___add__ : K.lookup g_Expression___add__ = some ⟨oc_Expression___add__, od_Expression___add__, .func (PySem.W.fnOf "__add__" "Expression.__add__" (defArgs s_Expression___add__) (defBody s_Expression___add__) (defScope s_Expression___add__) .none kV_Expression___add__ dc_Expression___add__ pm_Expression___add__ an_Expression___add__ cd_Expression___add__ ct_Expression___add__), sl_Expression___add__⟩)
    (l_Expression___sub__ : K.lookup g_Expression___sub__ = some ⟨oc_Expression___sub__, od_Expression___sub__, .func (PySem.W.fnOf "__sub__" "Expression.__sub__" (defArgs s_Expression___sub__) (defBody s_Expression___sub__) (defScope s_Expression___sub__) .none kV_Expression___sub__ dc_Expression___sub__ pm_Expression___sub__ an_Expression___sub__ cd_Expression___sub__ ct_Expression___sub__), sl_Expression___sub__⟩)
    (l_Expression___mul__ : K.lookup g_Expression___mul__ = some ⟨oc_Expression___mul__, od_Expression___mul__, .func (PySem.W.fnOf "__mul__" "Expression.__mul__" (defArgs s_Expression___mul__) (defBody s_Expression___mul__) (defScope s_Expression___mul__) .none kV_Expression___mul__ dc_Expression___mul__ pm_Expression___mul__ an_Expression___mul__ cd_Expression___mul__ ct_Expression___mul__), sl_Expression___mul__⟩)
    (l_Expression___floordiv__ : K.lookup g_Expression___floordiv__ = some ⟨oc_Expression___floordiv__, od_Expression___floordiv__, .func (PySem.W.fnOf "__floordiv__" "Expression.__floordiv__" (defArgs s_Expression___floordiv__) (defBody s_Expression___floordiv__) (defScope s_Expression___floordiv__) .none kV_Expression___floordiv__ dc_Expression___floordiv__ pm_Expression___floordiv__ an_Expression___floordiv__ cd_Expression___floordiv__ ct_Expression___floordiv__), sl_Expression___floordiv__⟩)
    (l_Expression___and__ : K.lookup g_Expression___and__ = some ⟨oc_Expression___and__, od_Expression___and__, .func (PySem.W.fnOf "__and__" "Expression.__and__" (defArgs s_Expression___and__) (defBody s_Expression___and__) (defScope s_Expression___and__) .none kV_Expression___and__ dc_Expression___and__ pm_Expression___and__ an_Expression___and__ cd_Expression___and__ ct_Expression___and__), sl_Expression___and__⟩)
    (l_Expression___or__ : K.lookup g_Expression___or__ = some ⟨oc_Expression___or__, od_Expression___or__, .func (PySem.W.fnOf "__or__" "Expression.__or__" (defArgs s_Expression___or__) (defBody s_Expression___or__) (defScope s_Expression___or__) .none kV_Expression___or__ dc_Expression___or__ pm_Expression___or__ an_Expression___or__ cd_Expression___or__ ct_Expression___or__), sl_Expression___or__⟩)
    (l_Expression___xor__ : K.lookup g_Expression___xor__ = some ⟨oc_Expression___xor__, od_Expression___xor__, .func (PySem.W.fnOf "__xor__" "Expression.__xor__" (defArgs s_Expression___xor__) (defBody s_Expression___xor__) (defScope s_Expression___xor__) .none kV_Expression___xor__ dc_Expression___xor__ pm_Expression___xor__ an_Expression___xor__ cd_Expression___xor__ ct_Expression___xor__), sl_Expression___xor__⟩)
    (l_Expression___lshift__ : K.lookup g_Expression___lshift__ = some ⟨oc_Expression___lshift__, od_Expression___lshift__, .func (PySem.W.fnOf "__lshift__" "Expression.__lshift__" (defArgs s_Expression___lshift__) (defBody s_Expression___lshift__) (defScope s_Expression___lshift__) .none kV_Expression___lshift__ dc_Expression___lshift__ pm_Expression___lshift__ an_Expression___lshift__ cd_Expression___lshift__ ct_Expression___lshift__), sl_Expression___lshift__⟩)
    (l_Expression___rshift__ : K.lookup g_Expression___rshift__ = some ⟨oc_Expression___rshift__, od_Expression___rshift__, .func (PySem.W.fnOf "__rshift__" "Expression.__rshift__" (defArgs s_Expression___rshift__) (defBody s_Expression___rshift__) (defScope s_Expression___rshift__) .none kV_Expression___rshift__ dc_Expression___rshift__ pm_Expression___rshift__ an_Expression___rshift__ cd_Expression___rshift__ ct_Expression___rshift__), sl_Expression___rshift__⟩)
    (l_Expression___neg__ : K.lookup g_Expression___neg__ = some ⟨oc_Expression___neg__, od_Expression___neg__, .func (PySem.W.fnOf "__neg__" "Expression.__neg__" (defArgs s_Expression___neg__) (defBody s_Expression___neg__) (defScope s_Expression___neg__) .none kV_Expression___neg__ dc_Expression___neg__ pm_Expression___neg__ an_Expression___neg__ cd_Expression___neg__ ct_Expression___neg__), sl_Expression___neg__⟩)
    (l_Expression___pos__ : K.lookup g_Expression___pos__ = some ⟨oc_Expression___pos__, od_Expression___pos__, .func (PySem.W.fnOf "__pos__" "Expression.__pos__" (defArgs s_Expression___pos__) (defBody s_Expression___pos__) (defScope s_Expression___pos__) .none kV_Expression___pos__ dc_Expression___pos__ pm_Expression___pos__ an_Expression___pos__ cd_Expression___pos__ ct_Expression___pos__), sl_Expression___pos__⟩)
    (l_Expression___invert__ : K.lookup g_Expression___invert__ = some ⟨oc_Expression___invert__, od_Expression___invert__, .func (PySem.W.fnOf "__invert__" "Expression.__invert__" (defArgs s_Expression___invert__) (defBody s_Expression___invert__) (defScope s_Expression___invert__) .none kV_Expression___invert__ dc_Expression___invert__ pm_Expression___invert__ an_Expression___invert__ cd_Expression___invert__ ct_Expression___invert__), sl_Expression___invert__⟩)
    (l_Expression___abs__ : K.lookup g_Expression___abs__ = some ⟨oc_Expression___abs__, od_Expression___abs__, .func (PySem.W.fnOf "__abs__" "Expression.__abs__" (defArgs s_Expression___abs__) (defBody s_Expression___abs__) (defScope s_Expression___abs__) .none kV_Expression___abs__ dc_Expression___abs__ pm_Expression___abs__ an_Expression___abs__ cd_Expression___abs__ ct_Expression___abs__), sl_Expression___abs__⟩)
    (l_Expression___str__ : K.lookup g_Expression___str__ = some ⟨oc_Expression___str__, od_Expression___str__, .func (PySem.W.fnOf "__str__" "Expression.__str__" (defArgs s_Expression___str__) (defBody s_Expression___str__) (defScope s_Expression___str__) .none kV_Expression___str__ dc_Expression___str__ pm_Expression___str__ an_Expression___str__ cd_Expression___str__ ct_Expression___str__), sl_Expression___str__⟩)
    (l__law_take : K.lookup g__law_take = some ⟨oc__law_take, od__law_take, .func (PySem.W.fnOf "_law_take" "_law_take" (defArgs s_law_take) (defBody s_law_take) (defScope s_law_take) .none kV__law_take dc__law_take pm__law_take an__law_take cd__law_take ct__law_take), sl__law_take⟩)
    (l__law_bag : K.lookup g__law_bag = some ⟨oc__law_bag, od__law_bag, .func (PySem.W.fnOf "_law_bag" "_law_bag" (defArgs s_law_bag) (defBody s_law_bag) (defScope s_law_bag) .none kV__law_bag dc__law_bag pm__law_bag an__law_bag cd__law_bag ct__law_bag), sl__law_bag⟩)
    (l__law_of : K.lookup g__law_of = some ⟨oc__law_of, od__law_of, .func (PySem.W.fnOf "_law_of" "_law_of" (defArgs s_law_of) (defBody s_law_of) (defScope s_law_of) .none kV__law_of dc__law_of pm__law_of an__law_of cd__law_of ct__law_of), sl__law_of⟩)
    (l__law_read : K.lookup g__law_read = some ⟨oc__law_read, od__law_read, .func (PySem.W.fnOf "_law_read" "_law_read" (defArgs s_law_read) (defBody s_law_read) (defScope s_law_read) .none kV__law_read dc__law_read pm__law_read an__law_read cd__law_read ct__law_read), sl__law_read⟩)
    (l__law_nested : K.lookup g__law_nested = some ⟨oc__law_nested, od__law_nested, .func (PySem.W.fnOf "_law_nested" "_law_nested" (defArgs s_law_nested) (defBody s_law_nested) (defScope s_law_nested) .none kV__law_nested dc__law_nested pm__law_nested an__law_nested cd__law_nested ct__law_nested), sl__law_nested⟩)
    (l__law_nested_right : K.lookup g__law_nested_right = some ⟨oc__law_nested_right, od__law_nested_right, .func (PySem.W.fnOf "_law_nested_right" "_law_nested_right" (defArgs s_law_nested_right) (defBody s_law_nested_right) (defScope s_law_nested_right) .none kV__law_nested_right dc__law_nested_right pm__law_nested_right an__law_nested_right cd__law_nested_right ct__law_nested_right), sl__law_nested_right⟩)
    (l__law_long : K.lookup g__law_long = some ⟨oc__law_long, od__law_long, .func (PySem.W.fnOf "_law_long" "_law_long" (defArgs s_law_long) (defBody s_law_long) (defScope s_law_long) .none kV__law_long dc__law_long pm__law_long an__law_long cd__law_long ct__law_long), sl__law_long⟩)
    (l_law : K.lookup g_law = some ⟨oc_law, od_law, .func (PySem.W.fnOf "law" "law" (defArgs s_law) (defBody s_law) (defScope s_law) .none kV_law dc_law pm_law an_law cd_law ct_law), sl_law⟩)
    (l_BINARY_SIGNS : K.lookup v_BINARY_SIGNSA = some ⟨.type "tuple", od_BINARY_SIGNS, .seq it_BINARY_SIGNS n_BINARY_SIGNS, sl_BINARY_SIGNS⟩)
    (l_UNARY_SIGNS : K.lookup v_UNARY_SIGNSA = some ⟨.type "tuple", od_UNARY_SIGNS, .seq it_UNARY_SIGNS n_UNARY_SIGNS, sl_UNARY_SIGNS⟩)
    (tyI_Expression : PySem.W.typeIn K (.ref C_Expression) = some (.type "type"))
    (hd_HE : PySem.W.hasDictIn K C_HE = true)
    (ty_HE : PySem.W.typeIn K (.ref C_HE) = some (.type "type"))
    (sb_HE : PySem.W.subIn K (.ref C_HE) (.type "BaseException") = some true)
    (sH_TooMany : PySem.W.subIn K (.ref C_TooMany) (.ref C_HE) = some true)
    (sTB : PySem.W.subIn K (.ref C_TooMany) (.ref C_BadExpression) = some false)
    (pg_Phrase : PySem.W.plainGet K C_Phrase Str.empty = true)
    (hd_Phrase : PySem.W.hasDictIn K C_Phrase = true)
    (po_Phrase : PySem.W.plainOver K C_Phrase = true)
    (kC_Phrase : PySem.W.keepIn K (.ref C_Phrase) = true)
    (mk_Phrase : PySem.W.makesIn K C_Phrase = true)
    (rd_Phrase : PySem.W.readsIn K C_Phrase (.type "type") = true)
    (ga_Phrase : PySem.W.specialIn K (.ref C_Phrase) "__getattribute__" = some (some (.builtin "type.__getattribute__")))
    (ic_Phrase : PySem.W.isClsIn K C_Phrase = true)
    (c_Phrase__letter : PySem.W.codeIn K cd_Phrase__letter "Phrase._letter" = true)
    (k_Phrase__letter : PySem.W.keepIn K (.ref g_Phrase__letter) = true)
    (f_Phrase__letter : PySem.W.isFn K (.ref g_Phrase__letter) = true)
    (c_Phrase__is_between : PySem.W.codeIn K cd_Phrase__is_between "Phrase._is_between" = true)
    (k_Phrase__is_between : PySem.W.keepIn K (.ref g_Phrase__is_between) = true)
    (f_Phrase__is_between : PySem.W.isFn K (.ref g_Phrase__is_between) = true)
    (c_Phrase__skip_small : PySem.W.codeIn K cd_Phrase__skip_small "Phrase._skip_small" = true)
    (k_Phrase__skip_small : PySem.W.keepIn K (.ref g_Phrase__skip_small) = true)
    (f_Phrase__skip_small : PySem.W.isFn K (.ref g_Phrase__skip_small) = true)
    (q1_BadExpression : PySem.W.excInitIn K C_BadExpression veT "ValueError.__new__" = true)
    (q2_BadExpression : PySem.W.excOver K C_BadExpression veT = true)
    (sb_BadExpression : PySem.W.subIn K (.ref C_BadExpression) (.type "BaseException") = some true)
    (so_BadExpression : PySem.W.mroIn K C_BadExpression (.type "object") = some true)
    (ss_BadExpression : PySem.W.subIn K (.ref C_BadExpression) (.ref C_BadExpression) = some true)
    (hd_BadExpression : PySem.W.hasDictIn K C_BadExpression = true)
    (kC_BadExpression : PySem.W.keepIn K (.ref C_BadExpression) = true)
    (ty_BadExpression : PySem.W.typeIn K (.ref C_BadExpression) = some (.type "type"))
    (hn : PySem.W.specialIn K (.builtin "object.__class__") "__get__" = some (some (.builtin "getset_descriptor.__get__")))
    (ht : PySem.W.takesIn K (.builtin "object.__class__") = some true)
    (c_BadExpression___init__ : PySem.W.codeIn K cd_BadExpression___init__ "BadExpression.__init__" = true)
    (k_BadExpression___init__ : PySem.W.keepIn K (.ref g_BadExpression___init__) = true)
    (f_BadExpression___init__ : PySem.W.isFn K (.ref g_BadExpression___init__) = true)
    (c_Phrase__take : PySem.W.codeIn K cd_Phrase__take "Phrase._take" = true)
    (k_Phrase__take : PySem.W.keepIn K (.ref g_Phrase__take) = true)
    (f_Phrase__take : PySem.W.isFn K (.ref g_Phrase__take) = true)
    (c_Phrase__take_word : PySem.W.codeIn K cd_Phrase__take_word "Phrase._take_word" = true)
    (k_Phrase__take_word : PySem.W.keepIn K (.ref g_Phrase__take_word) = true)
    (f_Phrase__take_word : PySem.W.isFn K (.ref g_Phrase__take_word) = true)
    (c_Phrase__take_class : PySem.W.codeIn K cd_Phrase__take_class "Phrase._take_class" = true)
    (k_Phrase__take_class : PySem.W.keepIn K (.ref g_Phrase__take_class) = true)
    (f_Phrase__take_class : PySem.W.isFn K (.ref g_Phrase__take_class) = true)
    (c_Phrase__take_request : PySem.W.codeIn K cd_Phrase__take_request "Phrase._take_request" = true)
    (k_Phrase__take_request : PySem.W.keepIn K (.ref g_Phrase__take_request) = true)
    (f_Phrase__take_request : PySem.W.isFn K (.ref g_Phrase__take_request) = true)
    (c_Phrase__take_opening : PySem.W.codeIn K cd_Phrase__take_opening "Phrase._take_opening" = true)
    (k_Phrase__take_opening : PySem.W.keepIn K (.ref g_Phrase__take_opening) = true)
    (f_Phrase__take_opening : PySem.W.isFn K (.ref g_Phrase__take_opening) = true)
    (c_Phrase__take_sign : PySem.W.codeIn K cd_Phrase__take_sign "Phrase._take_sign" = true)
    (k_Phrase__take_sign : PySem.W.keepIn K (.ref g_Phrase__take_sign) = true)
    (f_Phrase__take_sign : PySem.W.isFn K (.ref g_Phrase__take_sign) = true)
    (c_Phrase__take_start : PySem.W.codeIn K cd_Phrase__take_start "Phrase._take_start" = true)
    (k_Phrase__take_start : PySem.W.keepIn K (.ref g_Phrase__take_start) = true)
    (f_Phrase__take_start : PySem.W.isFn K (.ref g_Phrase__take_start) = true)
    (c_Phrase_take_all : PySem.W.codeIn K cd_Phrase_take_all "Phrase.take_all" = true)
    (k_Phrase_take_all : PySem.W.keepIn K (.ref g_Phrase_take_all) = true)
    (f_Phrase_take_all : PySem.W.isFn K (.ref g_Phrase_take_all) = true)
    (c_Phrase___init__ : PySem.W.codeIn K cd_Phrase___init__ "Phrase.__init__" = true)
    (k_Phrase___init__ : PySem.W.keepIn K (.ref g_Phrase___init__) = true)
    (f_Phrase___init__ : PySem.W.isFn K (.ref g_Phrase___init__) = true)
    (pg_Expression : PySem.W.plainGet K C_Expression Str.empty = true)
    (hd_Expression : PySem.W.hasDictIn K C_Expression = true)
    (po_Expression : PySem.W.plainOver K C_Expression = true)
    (kC_Expression : PySem.W.keepIn K (.ref C_Expression) = true)
    (mk_Expression : PySem.W.makesIn K C_Expression = true)
    (rd_Expression : PySem.W.readsIn K C_Expression (.type "type") = true)
    (ga_Expression : PySem.W.specialIn K (.ref C_Expression) "__getattribute__" = some (some (.builtin "type.__getattribute__")))
    (ic_Expression : PySem.W.isClsIn K C_Expression = true)
    (c_Expression___init__ : PySem.W.codeIn K cd_Expression___init__ "Expression.__init__" = true)
    (k_Expression___init__ : PySem.W.keepIn K (.ref g_Expression___init__) = true)
    (f_Expression___init__ : PySem.W.isFn K (.ref g_Expression___init__) = true)
    (c_Expression_leaf : PySem.W.codeIn K cd_Expression_leaf "Expression.leaf" = true)
    (k_Expression_leaf : PySem.W.keepIn K (.ref g_Expression_leaf) = true)
    (c_Expression_parts : PySem.W.codeIn K cd_Expression_parts "Expression.parts" = true)
    (k_Expression_parts : PySem.W.keepIn K (.ref g_Expression_parts) = true)
    (f_Expression_parts : PySem.W.isFn K (.ref g_Expression_parts) = true)
    (c_Expression___len__ : PySem.W.codeIn K cd_Expression___len__ "Expression.__len__" = true)
    (k_Expression___len__ : PySem.W.keepIn K (.ref g_Expression___len__) = true)
    (f_Expression___len__ : PySem.W.isFn K (.ref g_Expression___len__) = true)
    (q1_TooMany : PySem.W.excInitIn K C_TooMany veT "ValueError.__new__" = true)
    (q2_TooMany : PySem.W.excOver K C_TooMany veT = true)
    (sb_TooMany : PySem.W.subIn K (.ref C_TooMany) (.type "BaseException") = some true)
    (so_TooMany : PySem.W.mroIn K C_TooMany (.type "object") = some true)
    (ss_TooMany : PySem.W.subIn K (.ref C_TooMany) (.ref C_TooMany) = some true)
    (hd_TooMany : PySem.W.hasDictIn K C_TooMany = true)
    (kC_TooMany : PySem.W.keepIn K (.ref C_TooMany) = true)
    (ty_TooMany : PySem.W.typeIn K (.ref C_TooMany) = some (.type "type"))
    (c_TooMany___init__ : PySem.W.codeIn K cd_TooMany___init__ "TooMany.__init__" = true)
    (k_TooMany___init__ : PySem.W.keepIn K (.ref g_TooMany___init__) = true)
    (f_TooMany___init__ : PySem.W.isFn K (.ref g_TooMany___init__) = true)
    (c__checked : PySem.W.codeIn K cd__checked "_checked" = true)
    (k__checked : PySem.W.keepIn K (.ref g__checked) = true)
    (c_Expression_read : PySem.W.codeIn K cd_Expression_read "Expression.read" = true)
    (k_Expression_read : PySem.W.keepIn K (.ref g_Expression_read) = true)
    (fn_Expression_read : PySem.W.fnIn K g_Expression_read = true)
    (hm_Expression : PySem.W.mroIn K C_Expression (.type "object") = some true)
    (c_Expression___eq__ : PySem.W.codeIn K cd_Expression___eq__ "Expression.__eq__" = true)
    (k_Expression___eq__ : PySem.W.keepIn K (.ref g_Expression___eq__) = true)
    (f_Expression___eq__ : PySem.W.isFn K (.ref g_Expression___eq__) = true)
    (c__joined : PySem.W.codeIn K cd__joined "_joined" = true)
    (k__joined : PySem.W.keepIn K (.ref g__joined) = true)
    (c_arity_of : PySem.W.codeIn K cd_arity_of "arity_of" = true)
    (k_arity_of : PySem.W.keepIn K (.ref g_arity_of) = true)
    (c__written : PySem.W.codeIn K cd__written "_written" = true)
    (k__written : PySem.W.keepIn K (.ref g__written) = true)
    (c_Expression___add__ : PySem.W.codeIn K cd_Expression___add__ "Expression.__add__" = true)
    (k_Expression___add__ : PySem.W.keepIn K (.ref g_Expression___add__) = true)
    (f_Expression___add__ : PySem.W.isFn K (.ref g_Expression___add__) = true)
    (c_Expression___sub__ : PySem.W.codeIn K cd_Expression___sub__ "Expression.__sub__" = true)
    (k_Expression___sub__ : PySem.W.keepIn K (.ref g_Expression___sub__) = true)
    (f_Expression___sub__ : PySem.W.isFn K (.ref g_Expression___sub__) = true)
    (c_Expression___mul__ : PySem.W.codeIn K cd_Expression___mul__ "Expression.__mul__" = true)
    (k_Expression___mul__ : PySem.W.keepIn K (.ref g_Expression___mul__) = true)
    (f_Expression___mul__ : PySem.W.isFn K (.ref g_Expression___mul__) = true)
    (c_Expression___floordiv__ : PySem.W.codeIn K cd_Expression___floordiv__ "Expression.__floordiv__" = true)
    (k_Expression___floordiv__ : PySem.W.keepIn K (.ref g_Expression___floordiv__) = true)
    (f_Expression___floordiv__ : PySem.W.isFn K (.ref g_Expression___floordiv__) = true)
    (c_Expression___and__ : PySem.W.codeIn K cd_Expression___and__ "Expression.__and__" = true)
    (k_Expression___and__ : PySem.W.keepIn K (.ref g_Expression___and__) = true)
    (f_Expression___and__ : PySem.W.isFn K (.ref g_Expression___and__) = true)
    (c_Expression___or__ : PySem.W.codeIn K cd_Expression___or__ "Expression.__or__" = true)
    (k_Expression___or__ : PySem.W.keepIn K (.ref g_Expression___or__) = true)
    (f_Expression___or__ : PySem.W.isFn K (.ref g_Expression___or__) = true)
    (c_Expression___xor__ : PySem.W.codeIn K cd_Expression___xor__ "Expression.__xor__" = true)
    (k_Expression___xor__ : PySem.W.keepIn K (.ref g_Expression___xor__) = true)
    (f_Expression___xor__ : PySem.W.isFn K (.ref g_Expression___xor__) = true)
    (c_Expression___lshift__ : PySem.W.codeIn K cd_Expression___lshift__ "Expression.__lshift__" = true)
    (k_Expression___lshift__ : PySem.W.keepIn K (.ref g_Expression___lshift__) = true)
    (f_Expression___lshift__ : PySem.W.isFn K (.ref g_Expression___lshift__) = true)
    (c_Expression___rshift__ : PySem.W.codeIn K cd_Expression___rshift__ "Expression.__rshift__" = true)
    (k_Expression___rshift__ : PySem.W.keepIn K (.ref g_Expression___rshift__) = true)
    (f_Expression___rshift__ : PySem.W.isFn K (.ref g_Expression___rshift__) = true)
    (c_Expression___neg__ : PySem.W.codeIn K cd_Expression___neg__ "Expression.__neg__" = true)
    (k_Expression___neg__ : PySem.W.keepIn K (.ref g_Expression___neg__) = true)
    (f_Expression___neg__ : PySem.W.isFn K (.ref g_Expression___neg__) = true)
    (c_Expression___pos__ : PySem.W.codeIn K cd_Expression___pos__ "Expression.__pos__" = true)
    (k_Expression___pos__ : PySem.W.keepIn K (.ref g_Expression___pos__) = true)
    (f_Expression___pos__ : PySem.W.isFn K (.ref g_Expression___pos__) = true)
    (c_Expression___invert__ : PySem.W.codeIn K cd_Expression___invert__ "Expression.__invert__" = true)
    (k_Expression___invert__ : PySem.W.keepIn K (.ref g_Expression___invert__) = true)
    (f_Expression___invert__ : PySem.W.isFn K (.ref g_Expression___invert__) = true)
    (c_Expression___abs__ : PySem.W.codeIn K cd_Expression___abs__ "Expression.__abs__" = true)
    (k_Expression___abs__ : PySem.W.keepIn K (.ref g_Expression___abs__) = true)
    (f_Expression___abs__ : PySem.W.isFn K (.ref g_Expression___abs__) = true)
    (c_Expression___str__ : PySem.W.codeIn K cd_Expression___str__ "Expression.__str__" = true)
    (k_Expression___str__ : PySem.W.keepIn K (.ref g_Expression___str__) = true)
    (f_Expression___str__ : PySem.W.isFn K (.ref g_Expression___str__) = true)
    (c__law_take : PySem.W.codeIn K cd__law_take "_law_take" = true)
    (k__law_take : PySem.W.keepIn K (.ref g__law_take) = true)
    (c__law_bag : PySem.W.codeIn K cd__law_bag "_law_bag" = true)
    (k__law_bag : PySem.W.keepIn K (.ref g__law_bag) = true)
    (c__law_of : PySem.W.codeIn K cd__law_of "_law_of" = true)
    (k__law_of : PySem.W.keepIn K (.ref g__law_of) = true)
    (c__law_read : PySem.W.codeIn K cd__law_read "_law_read" = true)
    (k__law_read : PySem.W.keepIn K (.ref g__law_read) = true)
    (c__law_nested : PySem.W.codeIn K cd__law_nested "_law_nested" = true)
    (k__law_nested : PySem.W.keepIn K (.ref g__law_nested) = true)
    (c__law_nested_right : PySem.W.codeIn K cd__law_nested_right "_law_nested_right" = true)
    (k__law_nested_right : PySem.W.keepIn K (.ref g__law_nested_right) = true)
    (c__law_long : PySem.W.codeIn K cd__law_long "_law_long" = true)
    (k__law_long : PySem.W.keepIn K (.ref g__law_long) = true)
    (c_law : PySem.W.codeIn K cd_law "law" = true)
    (k_law : PySem.W.keepIn K (.ref g_law) = true)
    (o_BINARY_SIGNS : strsIn it_BINARY_SIGNS.toList binary = true)
    (o_UNARY_SIGNS : strsIn it_UNARY_SIGNS.toList unary = true)
    : ∃ fd : FuncData, (∀ (s : Shared) (v : Value), BindsTo s fd ⟨[v], []⟩ [("script", v)]) ∧ ∀ base : Heap, K.In base → base.Ns mainGlobals mg → FnOk l.prog w K mg base CX0 11 fa fd ["script"] (spLaw K) := by
  have e := hfa.symm.trans (PySem.W.mg_of X G a_law)
  cases e
  have T : Cst K mg := ⟨⟨PySem.W.mg_none_of X G z_isinstance, PySem.W.mg_none_of X G z_list, PySem.W.mg_none_of X G z_tuple, PySem.W.mg_none_of X G z_int, PySem.W.mg_none_of X G z_str, PySem.W.mg_none_of X G z_bool, PySem.W.mg_none_of X G z_len, PySem.W.mg_none_of X G z_abs, PySem.W.mg_none_of X G z_max, PySem.W.mg_none_of X G z_min, PySem.W.mg_none_of X G z_range, PySem.W.mg_none_of X G z_enumerate, PySem.W.mg_none_of X G z_all, PySem.W.mg_none_of X G z_ValueError, PySem.W.mg_none_of X G z_LookupError, PySem.W.mg_none_of X G z_KeyError, PySem.W.mg_none_of X G z_IndexError⟩, ⟨_, PySem.W.mg_of X G v_LONGEST_NAME, ⟨_, rfl⟩⟩, ⟨_, PySem.W.mg_of X G v_MOST_OPENED, ⟨_, rfl⟩⟩, ⟨_, PySem.W.mg_of X G v_MOST_STEPS, ⟨_, rfl⟩⟩, ⟨_, PySem.W.mg_of X G v_BINARY_SIGNS, (tupk_of l_BINARY_SIGNS o_BINARY_SIGNS (by decide +kernel))⟩, ⟨_, PySem.W.mg_of X G v_UNARY_SIGNS, (tupk_of l_UNARY_SIGNS o_UNARY_SIGNS (by decide +kernel))⟩⟩
  refine ⟨PySem.W.fnOf "law" "law" (defArgs s_law) (defBody s_law) (defScope s_law) .none kV_law dc_law pm_law an_law cd_law ct_law, fun s v => .of_eq rfl, fun base _ _ => ?_⟩
  have cl_Phrase : Cls K C_Phrase := ⟨pg_Phrase, hd_Phrase, po_Phrase, sa_Phrase⟩
  have hC_Phrase : PhC K C_Phrase := ⟨cl_Phrase, fun f hf => by simp only [List.mem_cons, List.not_mem_nil, or_false] at hf; rcases hf with rfl | rfl | rfl | rfl; exact nA_Phrase_0; exact nA_Phrase_1; exact nA_Phrase_2; exact nA_Phrase_3⟩
  have U_Phrase__letter := fun_mk (st := s_Phrase__letter) l_Phrase__letter c_Phrase__letter k_Phrase__letter
  have Z1 : OkM CX0 l.prog w K mg base 1 C_Phrase "_letter" ["self"] (spLetter C_Phrase) := ⟨_, _, (ok_letter U_Phrase__letter T hC_Phrase), ⟨m_Phrase__letter, f_Phrase__letter, k_Phrase__letter⟩, U_Phrase__letter.binds (ps := ["self"]) (fun _ _ _ _ _ _ us hl => match us, hl with | [_], _ => rfl)⟩
  have U_Phrase__is_between := fun_mk (st := s_Phrase__is_between) l_Phrase__is_between c_Phrase__is_between k_Phrase__is_between
  have Z2 : OkM CX0 l.prog w K mg base 2 C_Phrase "_is_between" ["self", "low", "high"] (spBetw C_Phrase) := ⟨_, _, (ok_between U_Phrase__is_between T hC_Phrase Z1), ⟨m_Phrase__is_between, f_Phrase__is_between, k_Phrase__is_between⟩, U_Phrase__is_between.binds (ps := ["self", "low", "high"]) (fun _ _ _ _ _ _ us hl => match us, hl with | [_, _, _], _ => rfl)⟩
  have U_Phrase__skip_small := fun_mk (st := s_Phrase__skip_small) l_Phrase__skip_small c_Phrase__skip_small k_Phrase__skip_small
  have Z3 : OkM CX0 l.prog w K mg base 3 C_Phrase "_skip_small" ["self", "end"] (spSkip C_Phrase) := ⟨_, _, (ok_skip U_Phrase__skip_small T hC_Phrase Z2), ⟨m_Phrase__skip_small, f_Phrase__skip_small, k_Phrase__skip_small⟩, U_Phrase__skip_small.binds (ps := ["self", "end"]) (fun _ _ _ _ _ _ us hl => match us, hl with | [_, _], _ => rfl)⟩
  have x_BadExpression : XCls K C_BadExpression := ⟨⟨_, _, _, _, PySem.F.excBase_ValueError, PySem.F.store_ValueError, q1_BadExpression, q2_BadExpression⟩, sa_BadExpression, ⟨hg_BadExpression, hk_BadExpression, sb_BadExpression, hd_BadExpression, ha_BadExpression, hn, ht, so_BadExpression⟩, kC_BadExpression⟩
  have cc_BadExpression : CatchC K mg "BadExpression" C_BadExpression := ⟨PySem.W.mg_of X G a_BadExpression, PySem.W.exm_ref sb_BadExpression hd_BadExpression ty_BadExpression ss_BadExpression⟩
  have U_BadExpression___init__ := fun_mk (st := s_BadExpression___init__) l_BadExpression___init__ c_BadExpression___init__ k_BadExpression___init__
  have Z4 : OkC l.prog w K mg base 1 "BadExpression" C_BadExpression ["self", "at"] (spErr1 C_BadExpression "at") := ⟨x_BadExpression, PySem.W.mg_of X G a_BadExpression, _, _, (ok_BadExpression U_BadExpression___init__ x_BadExpression na_BadExpression_at), i_BadExpression___init__, f_BadExpression___init__, U_BadExpression___init__.binds (ps := ["self", "at"]) (fun _ _ _ _ _ _ us hl => match us, hl with | [_, _], _ => rfl)⟩
  have U_Phrase__take := fun_mk (st := s_Phrase__take) l_Phrase__take c_Phrase__take k_Phrase__take
  have Z5 : OkM (L2.CX l.prog w) l.prog w K mg base 3 C_Phrase "_take" ["self", "letter"] (spTakeL C_Phrase C_BadExpression) := ⟨_, _, (ok_take U_Phrase__take T hC_Phrase Z4 ty_BadExpression Z1), ⟨m_Phrase__take, f_Phrase__take, k_Phrase__take⟩, U_Phrase__take.binds (ps := ["self", "letter"]) (fun _ _ _ _ _ _ us hl => match us, hl with | [_, _], _ => rfl)⟩
  have U_Phrase__take_word := fun_mk (st := s_Phrase__take_word) l_Phrase__take_word c_Phrase__take_word k_Phrase__take_word
  have Z6 : OkM (L2.CX l.prog w) l.prog w K mg base 4 C_Phrase "_take_word" ["self"] (spWord C_Phrase C_BadExpression) := ⟨_, _, (ok_word U_Phrase__take_word T hC_Phrase Z4 ty_BadExpression Z3), ⟨m_Phrase__take_word, f_Phrase__take_word, k_Phrase__take_word⟩, U_Phrase__take_word.binds (ps := ["self"]) (fun _ _ _ _ _ _ us hl => match us, hl with | [_], _ => rfl)⟩
  have U_Phrase__take_class := fun_mk (st := s_Phrase__take_class) l_Phrase__take_class c_Phrase__take_class k_Phrase__take_class
  have Z7 : OkM (L2.CX l.prog w) l.prog w K mg base 4 C_Phrase "_take_class" ["self"] (spClass C_Phrase C_BadExpression) := ⟨_, _, (ok_class U_Phrase__take_class T hC_Phrase Z4 ty_BadExpression Z2 Z3), ⟨m_Phrase__take_class, f_Phrase__take_class, k_Phrase__take_class⟩, U_Phrase__take_class.binds (ps := ["self"]) (fun _ _ _ _ _ _ us hl => match us, hl with | [_], _ => rfl)⟩
  have U_Phrase__take_request := fun_mk (st := s_Phrase__take_request) l_Phrase__take_request c_Phrase__take_request k_Phrase__take_request
  have Z8 : OkM (L2.CX l.prog w) l.prog w K mg base 5 C_Phrase "_take_request" ["self"] (spReq C_Phrase C_BadExpression) := ⟨_, _, (ok_request U_Phrase__take_request T hC_Phrase Z4 ty_BadExpression Z6), ⟨m_Phrase__take_request, f_Phrase__take_request, k_Phrase__take_request⟩, U_Phrase__take_request.binds (ps := ["self"]) (fun _ _ _ _ _ _ us hl => match us, hl with | [_], _ => rfl)⟩
  have U_Phrase__take_opening := fun_mk (st := s_Phrase__take_opening) l_Phrase__take_opening c_Phrase__take_opening k_Phrase__take_opening
  have Z9 : OkM (L2.CX l.prog w) l.prog w K mg base 4 C_Phrase "_take_opening" ["self", "kind"] (spOpen C_Phrase C_BadExpression) := ⟨_, _, (ok_opening U_Phrase__take_opening T hC_Phrase Z4 ty_BadExpression Z5), ⟨m_Phrase__take_opening, f_Phrase__take_opening, k_Phrase__take_opening⟩, U_Phrase__take_opening.binds (ps := ["self", "kind"]) (fun _ _ _ _ _ _ us hl => match us, hl with | [_, _], _ => rfl)⟩
  have U_Phrase__take_sign := fun_mk (st := s_Phrase__take_sign) l_Phrase__take_sign c_Phrase__take_sign k_Phrase__take_sign
  have Z10 : OkM (L2.CX l.prog w) l.prog w K mg base 4 C_Phrase "_take_sign" ["self"] (spSign C_Phrase C_BadExpression) := ⟨_, _, (ok_sign U_Phrase__take_sign T hC_Phrase Z4 ty_BadExpression Z1 Z5), ⟨m_Phrase__take_sign, f_Phrase__take_sign, k_Phrase__take_sign⟩, U_Phrase__take_sign.binds (ps := ["self"]) (fun _ _ _ _ _ _ us hl => match us, hl with | [_], _ => rfl)⟩
  have U_Phrase__take_start := fun_mk (st := s_Phrase__take_start) l_Phrase__take_start c_Phrase__take_start k_Phrase__take_start
  have Z11 : OkM (L2.CX l.prog w) l.prog w K mg base 6 C_Phrase "_take_start" ["self"] (spStart C_Phrase C_BadExpression) := ⟨_, _, (ok_start U_Phrase__take_start T hC_Phrase Z1 Z2 Z5 Z9 Z7 Z6 Z8), ⟨m_Phrase__take_start, f_Phrase__take_start, k_Phrase__take_start⟩, U_Phrase__take_start.binds (ps := ["self"]) (fun _ _ _ _ _ _ us hl => match us, hl with | [_], _ => rfl)⟩
  have U_Phrase_take_all := fun_mk (st := s_Phrase_take_all) l_Phrase_take_all c_Phrase_take_all k_Phrase_take_all
  have Z12 : OkM (L2.CX l.prog w) l.prog w K mg base 7 C_Phrase "take_all" ["self"] (spAll C_Phrase C_BadExpression) := ⟨_, _, (ok_all U_Phrase_take_all T hC_Phrase Z4 ty_BadExpression Z5 Z11 Z10), ⟨m_Phrase_take_all, f_Phrase_take_all, k_Phrase_take_all⟩, U_Phrase_take_all.binds (ps := ["self"]) (fun _ _ _ _ _ _ us hl => match us, hl with | [_], _ => rfl)⟩
  have U_Phrase___init__ := fun_mk (st := s_Phrase___init__) l_Phrase___init__ c_Phrase___init__ k_Phrase___init__
  have Z13 : OkI l.prog w K mg base 1 "Phrase" C_Phrase ["self", "text"] (spPhrase C_Phrase) := ⟨PySem.W.mg_of X G a_Phrase, _, _, (ok_Phrase U_Phrase___init__ T hC_Phrase), ⟨mk_Phrase, i_Phrase___init__, f_Phrase___init__, kC_Phrase⟩, U_Phrase___init__.binds (ps := ["self", "text"]) (fun _ _ _ _ _ _ us hl => match us, hl with | [_, _], _ => rfl)⟩
  have cl_Expression : Cls K C_Expression := ⟨pg_Expression, hd_Expression, po_Expression, sa_Expression⟩
  have hC_Expression : ExC K C_Expression := ⟨cl_Expression, fun f hf => by simp only [List.mem_cons, List.not_mem_nil, or_false] at hf; rcases hf with rfl | rfl; exact nA_Expression_0; exact nA_Expression_1⟩
  have U_Expression___init__ := fun_mk (st := s_Expression___init__) l_Expression___init__ c_Expression___init__ k_Expression___init__
  have Z14 : OkI l.prog w K mg base 1 "Expression" C_Expression ["self", "parts"] (spEx K C_Expression) := ⟨PySem.W.mg_of X G a_Expression, _, _, (ok_Expression U_Expression___init__ T hC_Expression), ⟨mk_Expression, i_Expression___init__, f_Expression___init__, kC_Expression⟩, U_Expression___init__.binds (ps := ["self", "parts"]) (fun _ _ _ _ _ _ us hl => match us, hl with | [_, _], _ => rfl)⟩
  have U_Expression_leaf := fun_mk (st := s_Expression_leaf) l_Expression_leaf c_Expression_leaf k_Expression_leaf
  have SM_Expression_leaf : SM K C_Expression "leaf" g_Expression_leaf := ⟨⟨_, p_Expression_leaf, rs_Expression_leaf, ⟨rd_Expression, ga_Expression⟩, fc_Expression_leaf, rc_Expression_leaf⟩, k_Expression_leaf⟩
  have Z15 : OkS l.prog w K mg base 3 C_Expression "leaf" ["label", "name"] (spLeaf K C_Expression) := ⟨_, _, (ok_leaf U_Expression_leaf T Z14), SM_Expression_leaf, U_Expression_leaf.binds (ps := ["label", "name"]) (fun _ _ _ _ _ _ us hl => match us, hl with | [_, _], _ => rfl)⟩
  have U_Expression_parts := fun_mk (st := s_Expression_parts) l_Expression_parts c_Expression_parts k_Expression_parts
  have Z16 : OkM CX0 l.prog w K mg base 1 C_Expression "parts" ["self"] (spParts K C_Expression) := ⟨_, _, (ok_parts U_Expression_parts T hC_Expression), ⟨m_Expression_parts, f_Expression_parts, k_Expression_parts⟩, U_Expression_parts.binds (ps := ["self"]) (fun _ _ _ _ _ _ us hl => match us, hl with | [_], _ => rfl)⟩
  have U_Expression___len__ := fun_mk (st := s_Expression___len__) l_Expression___len__ c_Expression___len__ k_Expression___len__
  have Z17 : OkM CX0 l.prog w K mg base 1 C_Expression "__len__" ["self"] (spLenE K C_Expression) := ⟨_, _, (ok_len U_Expression___len__ T hC_Expression), ⟨m_Expression___len__, f_Expression___len__, k_Expression___len__⟩, U_Expression___len__.binds (ps := ["self"]) (fun _ _ _ _ _ _ us hl => match us, hl with | [_], _ => rfl)⟩
  have x_TooMany : XCls K C_TooMany := ⟨⟨_, _, _, _, PySem.F.excBase_ValueError, PySem.F.store_ValueError, q1_TooMany, q2_TooMany⟩, sa_TooMany, ⟨hg_TooMany, hk_TooMany, sb_TooMany, hd_TooMany, ha_TooMany, hn, ht, so_TooMany⟩, kC_TooMany⟩
  have cc_TooMany : CatchC K mg "TooMany" C_TooMany := ⟨PySem.W.mg_of X G a_TooMany, PySem.W.exm_ref sb_TooMany hd_TooMany ty_TooMany ss_TooMany⟩
  have U_TooMany___init__ := fun_mk (st := s_TooMany___init__) l_TooMany___init__ c_TooMany___init__ k_TooMany___init__
  have Z18 : OkC l.prog w K mg base 1 "TooMany" C_TooMany ["self", "what"] (spErr1 C_TooMany "what") := ⟨x_TooMany, PySem.W.mg_of X G a_TooMany, _, _, (ok_TooMany U_TooMany___init__ x_TooMany na_TooMany_what), i_TooMany___init__, f_TooMany___init__, U_TooMany___init__.binds (ps := ["self", "what"]) (fun _ _ _ _ _ _ us hl => match us, hl with | [_, _], _ => rfl)⟩
  have U__checked := fun_mk (st := s_checked) l__checked c__checked k__checked
  have Z19 : OkX l.prog w K mg base 3 "_checked" ["parts"] (spChecked K C_Expression C_TooMany) := ⟨_, _, (ok_checked U__checked T Z18 ty_TooMany Z14), PySem.W.mg_of X G a__checked, k__checked, U__checked.binds (ps := ["parts"]) (fun _ _ _ _ _ _ us hl => match us, hl with | [_], _ => rfl)⟩
  have U_Expression_read := fun_mk (st := s_Expression_read) l_Expression_read c_Expression_read k_Expression_read
  have Z20 : OkCM l.prog w K mg base 8 C_Expression "read" ["cls", "text"] (spRead K C_Expression C_BadExpression C_TooMany) := ⟨p_Expression_read, _, _, _, (ok_read U_Expression_read T hC_Phrase Z13 Z4 ty_BadExpression Z12 Z19), ⟨rd_Expression, ga_Expression⟩, ⟨fc_Expression_read, ⟨rs_Expression_read, rc_Expression_read⟩, fn_Expression_read⟩, U_Expression_read.binds (ps := ["cls", "text"]) (fun _ _ _ _ _ _ us hl => match us, hl with | [_, _], _ => rfl)⟩
  have U_Expression___eq__ := fun_mk (st := s_Expression___eq__) l_Expression___eq__ c_Expression___eq__ k_Expression___eq__
  have Z21 : OkM CX0 l.prog w K mg base 1 C_Expression "__eq__" ["self", "other"] (spEqE K C_Expression) := ⟨_, _, (ok_eq U_Expression___eq__ T hC_Expression ⟨haI_Expression, hn, ht, hm_Expression⟩ hd_Expression tyI_Expression (PySem.W.mg_of X G a_Expression)), ⟨m_Expression___eq__, f_Expression___eq__, k_Expression___eq__⟩, U_Expression___eq__.binds (ps := ["self", "other"]) (fun _ _ _ _ _ _ us hl => match us, hl with | [_, _], _ => rfl)⟩
  have U__joined := fun_mk (st := s_joined) l__joined c__joined k__joined
  have Z22 : OkR (L2.CX l.prog w) l.prog w K mg base 5 "_joined" (spJoin K C_Expression C_TooMany) := ⟨g__joined, ok_joined l__joined c__joined T hC_Expression Z16 Z19, PySem.W.mg_of X G a__joined, k__joined⟩
  have U_arity_of := fun_mk (st := s_arity_of) l_arity_of c_arity_of k_arity_of
  have Z23 : Ok l.prog w K mg base 1 "arity_of" ["sign"] spArity := ⟨_, _, (ok_arity_of U_arity_of T), PySem.W.mg_of X G a_arity_of, k_arity_of, U_arity_of.binds (ps := ["sign"]) (fun _ _ _ _ _ _ us hl => match us, hl with | [_], _ => rfl)⟩
  have U__written := fun_mk (st := s_written) l__written c__written k__written
  have Z24 : Ok l.prog w K mg base 2 "_written" ["parts"] (spWritten K) := ⟨_, _, (ok_written U__written T Z23), PySem.W.mg_of X G a__written, k__written, U__written.binds (ps := ["parts"]) (fun _ _ _ _ _ _ us hl => match us, hl with | [_], _ => rfl)⟩
  have U_Expression___add__ := fun_mk (st := s_Expression___add__) l_Expression___add__ c_Expression___add__ k_Expression___add__
  have Z25 : OkM (L2.CX l.prog w) l.prog w K mg base 6 C_Expression "__add__" ["self", "other"] (spBin K C_Expression C_TooMany "+") := ⟨_, _, (ok_add U_Expression___add__ Z22), ⟨m_Expression___add__, f_Expression___add__, k_Expression___add__⟩, U_Expression___add__.binds (ps := ["self", "other"]) (fun _ _ _ _ _ _ us hl => match us, hl with | [_, _], _ => rfl)⟩
  have U_Expression___sub__ := fun_mk (st := s_Expression___sub__) l_Expression___sub__ c_Expression___sub__ k_Expression___sub__
  have Z26 : OkM (L2.CX l.prog w) l.prog w K mg base 6 C_Expression "__sub__" ["self", "other"] (spBin K C_Expression C_TooMany "-") := ⟨_, _, (ok_sub U_Expression___sub__ Z22), ⟨m_Expression___sub__, f_Expression___sub__, k_Expression___sub__⟩, U_Expression___sub__.binds (ps := ["self", "other"]) (fun _ _ _ _ _ _ us hl => match us, hl with | [_, _], _ => rfl)⟩
  have U_Expression___mul__ := fun_mk (st := s_Expression___mul__) l_Expression___mul__ c_Expression___mul__ k_Expression___mul__
  have Z27 : OkM (L2.CX l.prog w) l.prog w K mg base 6 C_Expression "__mul__" ["self", "other"] (spBin K C_Expression C_TooMany "*") := ⟨_, _, (ok_mul U_Expression___mul__ Z22), ⟨m_Expression___mul__, f_Expression___mul__, k_Expression___mul__⟩, U_Expression___mul__.binds (ps := ["self", "other"]) (fun _ _ _ _ _ _ us hl => match us, hl with | [_, _], _ => rfl)⟩
  have U_Expression___floordiv__ := fun_mk (st := s_Expression___floordiv__) l_Expression___floordiv__ c_Expression___floordiv__ k_Expression___floordiv__
  have Z28 : OkM (L2.CX l.prog w) l.prog w K mg base 6 C_Expression "__floordiv__" ["self", "other"] (spBin K C_Expression C_TooMany "//") := ⟨_, _, (ok_floordiv U_Expression___floordiv__ Z22), ⟨m_Expression___floordiv__, f_Expression___floordiv__, k_Expression___floordiv__⟩, U_Expression___floordiv__.binds (ps := ["self", "other"]) (fun _ _ _ _ _ _ us hl => match us, hl with | [_, _], _ => rfl)⟩
  have U_Expression___and__ := fun_mk (st := s_Expression___and__) l_Expression___and__ c_Expression___and__ k_Expression___and__
  have Z29 : OkM (L2.CX l.prog w) l.prog w K mg base 6 C_Expression "__and__" ["self", "other"] (spBin K C_Expression C_TooMany "&") := ⟨_, _, (ok_and U_Expression___and__ Z22), ⟨m_Expression___and__, f_Expression___and__, k_Expression___and__⟩, U_Expression___and__.binds (ps := ["self", "other"]) (fun _ _ _ _ _ _ us hl => match us, hl with | [_, _], _ => rfl)⟩
  have U_Expression___or__ := fun_mk (st := s_Expression___or__) l_Expression___or__ c_Expression___or__ k_Expression___or__
  have Z30 : OkM (L2.CX l.prog w) l.prog w K mg base 6 C_Expression "__or__" ["self", "other"] (spBin K C_Expression C_TooMany "|") := ⟨_, _, (ok_or U_Expression___or__ Z22), ⟨m_Expression___or__, f_Expression___or__, k_Expression___or__⟩, U_Expression___or__.binds (ps := ["self", "other"]) (fun _ _ _ _ _ _ us hl => match us, hl with | [_, _], _ => rfl)⟩
  have U_Expression___xor__ := fun_mk (st := s_Expression___xor__) l_Expression___xor__ c_Expression___xor__ k_Expression___xor__
  have Z31 : OkM (L2.CX l.prog w) l.prog w K mg base 6 C_Expression "__xor__" ["self", "other"] (spBin K C_Expression C_TooMany "^") := ⟨_, _, (ok_xor U_Expression___xor__ Z22), ⟨m_Expression___xor__, f_Expression___xor__, k_Expression___xor__⟩, U_Expression___xor__.binds (ps := ["self", "other"]) (fun _ _ _ _ _ _ us hl => match us, hl with | [_, _], _ => rfl)⟩
  have U_Expression___lshift__ := fun_mk (st := s_Expression___lshift__) l_Expression___lshift__ c_Expression___lshift__ k_Expression___lshift__
  have Z32 : OkM (L2.CX l.prog w) l.prog w K mg base 6 C_Expression "__lshift__" ["self", "other"] (spBin K C_Expression C_TooMany "<<") := ⟨_, _, (ok_lshift U_Expression___lshift__ Z22), ⟨m_Expression___lshift__, f_Expression___lshift__, k_Expression___lshift__⟩, U_Expression___lshift__.binds (ps := ["self", "other"]) (fun _ _ _ _ _ _ us hl => match us, hl with | [_, _], _ => rfl)⟩
  have U_Expression___rshift__ := fun_mk (st := s_Expression___rshift__) l_Expression___rshift__ c_Expression___rshift__ k_Expression___rshift__
  have Z33 : OkM (L2.CX l.prog w) l.prog w K mg base 6 C_Expression "__rshift__" ["self", "other"] (spBin K C_Expression C_TooMany ">>") := ⟨_, _, (ok_rshift U_Expression___rshift__ Z22), ⟨m_Expression___rshift__, f_Expression___rshift__, k_Expression___rshift__⟩, U_Expression___rshift__.binds (ps := ["self", "other"]) (fun _ _ _ _ _ _ us hl => match us, hl with | [_, _], _ => rfl)⟩
  have U_Expression___neg__ := fun_mk (st := s_Expression___neg__) l_Expression___neg__ c_Expression___neg__ k_Expression___neg__
  have Z34 : OkM (L2.CX l.prog w) l.prog w K mg base 6 C_Expression "__neg__" ["self"] (spUn K C_Expression C_TooMany "neg") := ⟨_, _, (ok_neg U_Expression___neg__ Z22), ⟨m_Expression___neg__, f_Expression___neg__, k_Expression___neg__⟩, U_Expression___neg__.binds (ps := ["self"]) (fun _ _ _ _ _ _ us hl => match us, hl with | [_], _ => rfl)⟩
  have U_Expression___pos__ := fun_mk (st := s_Expression___pos__) l_Expression___pos__ c_Expression___pos__ k_Expression___pos__
  have Z35 : OkM (L2.CX l.prog w) l.prog w K mg base 6 C_Expression "__pos__" ["self"] (spUn K C_Expression C_TooMany "pos") := ⟨_, _, (ok_pos U_Expression___pos__ Z22), ⟨m_Expression___pos__, f_Expression___pos__, k_Expression___pos__⟩, U_Expression___pos__.binds (ps := ["self"]) (fun _ _ _ _ _ _ us hl => match us, hl with | [_], _ => rfl)⟩
  have U_Expression___invert__ := fun_mk (st := s_Expression___invert__) l_Expression___invert__ c_Expression___invert__ k_Expression___invert__
  have Z36 : OkM (L2.CX l.prog w) l.prog w K mg base 6 C_Expression "__invert__" ["self"] (spUn K C_Expression C_TooMany "invert") := ⟨_, _, (ok_invert U_Expression___invert__ Z22), ⟨m_Expression___invert__, f_Expression___invert__, k_Expression___invert__⟩, U_Expression___invert__.binds (ps := ["self"]) (fun _ _ _ _ _ _ us hl => match us, hl with | [_], _ => rfl)⟩
  have U_Expression___abs__ := fun_mk (st := s_Expression___abs__) l_Expression___abs__ c_Expression___abs__ k_Expression___abs__
  have Z37 : OkM (L2.CX l.prog w) l.prog w K mg base 6 C_Expression "__abs__" ["self"] (spUn K C_Expression C_TooMany "abs") := ⟨_, _, (ok_abs U_Expression___abs__ Z22), ⟨m_Expression___abs__, f_Expression___abs__, k_Expression___abs__⟩, U_Expression___abs__.binds (ps := ["self"]) (fun _ _ _ _ _ _ us hl => match us, hl with | [_], _ => rfl)⟩
  have U_Expression___str__ := fun_mk (st := s_Expression___str__) l_Expression___str__ c_Expression___str__ k_Expression___str__
  have Z38 : OkM CX0 l.prog w K mg base 3 C_Expression "__str__" ["self"] (spStr K C_Expression) := ⟨_, _, (ok_str U_Expression___str__ T hC_Expression Z24), ⟨m_Expression___str__, f_Expression___str__, k_Expression___str__⟩, U_Expression___str__.binds (ps := ["self"]) (fun _ _ _ _ _ _ us hl => match us, hl with | [_], _ => rfl)⟩
  have U__law_take := fun_mk (st := s_law_take) l__law_take c__law_take k__law_take
  have Z39 : Ok l.prog w K mg base 1 "_law_take" ["bag", "many"] spTake := ⟨_, _, (ok_law_take U__law_take T.toTxt), PySem.W.mg_of X G a__law_take, k__law_take, U__law_take.binds (ps := ["bag", "many"]) (fun _ _ _ _ _ _ us hl => match us, hl with | [_, _], _ => rfl)⟩
  have U__law_bag := fun_mk (st := s_law_bag) l__law_bag c__law_bag k__law_bag
  have Z40 : Ok l.prog w K mg base 1 "_law_bag" ["script", "at"] (spBag K) := ⟨_, _, (ok_law_bag U__law_bag T.toTxt), PySem.W.mg_of X G a__law_bag, k__law_bag, U__law_bag.binds (ps := ["script", "at"]) (fun _ _ _ _ _ _ us hl => match us, hl with | [_, _], _ => rfl)⟩
  have U__law_of := fun_mk (st := s_law_of) l__law_of c__law_of k__law_of
  have Z41 : Ok l.prog w K mg base 2 "_law_of" ["bag", "some"] spOf := ⟨_, _, (ok_law_of U__law_of T Z39), PySem.W.mg_of X G a__law_of, k__law_of, U__law_of.binds (ps := ["bag", "some"]) (fun _ _ _ _ _ _ us hl => match us, hl with | [_, _], _ => rfl)⟩
  have U__law_read := fun_mk (st := s_law_read) l__law_read c__law_read k__law_read
  have Z42 : Ok l.prog w K mg base 9 "_law_read" ["text"] spReadL := ⟨_, _, (ok_law_read U__law_read T (PySem.W.mg_of X G a_Expression) cc_BadExpression cc_TooMany x_BadExpression na_BadExpression_at x_TooMany na_TooMany_what (PySem.W.mg_of X G a_HE) (PySem.W.exm_ref sb_BadExpression hd_BadExpression ty_BadExpression sTB) (kit_sub hd_HE ty_HE sH_TooMany (fun _ => rfl)) Z17 Z20), PySem.W.mg_of X G a__law_read, k__law_read, U__law_read.binds (ps := ["text"]) (fun _ _ _ _ _ _ us hl => match us, hl with | [_], _ => rfl)⟩
  have U__law_nested := fun_mk (st := s_law_nested) l__law_nested c__law_nested k__law_nested
  have Z43 : Ok l.prog w K mg base 3 "_law_nested" ["bag", "many"] spNested := ⟨_, _, (ok_law_nested U__law_nested T Z39 Z41), PySem.W.mg_of X G a__law_nested, k__law_nested, U__law_nested.binds (ps := ["bag", "many"]) (fun _ _ _ _ _ _ us hl => match us, hl with | [_, _], _ => rfl)⟩
  have U__law_nested_right := fun_mk (st := s_law_nested_right) l__law_nested_right c__law_nested_right k__law_nested_right
  have Z44 : Ok l.prog w K mg base 10 "_law_nested_right" ["bag", "many"] spNR := ⟨_, _, (ok_law_nested_right U__law_nested_right T Z43 Z42), PySem.W.mg_of X G a__law_nested_right, k__law_nested_right, U__law_nested_right.binds (ps := ["bag", "many"]) (fun _ _ _ _ _ _ us hl => match us, hl with | [_, _], _ => rfl)⟩
  have U__law_long := fun_mk (st := s_law_long) l__law_long c__law_long k__law_long
  have Z45 : Ok l.prog w K mg base 3 "_law_long" ["bag", "many"] spLong := ⟨_, _, (ok_law_long U__law_long T Z39 Z41), PySem.W.mg_of X G a__law_long, k__law_long, U__law_long.binds (ps := ["bag", "many"]) (fun _ _ _ _ _ _ us hl => match us, hl with | [_, _], _ => rfl)⟩
  have U_law := fun_mk (st := s_law) l_law c_law k_law
  exact ok_law U_law T Z39 Z41 Z40 Z44 Z45 Z42
theorem walk {l : PySem.W.OpenLaw} {q : Program} {loose : List Str} {XP : (Str → Option Value) → Heap → Prop} {YP : World → Heap → Prop} {d : DefRec} {K : Params → Fg} (hn : l.most = some 63) (hdf : d.params.defaults = [])
    (hY : ∀ (w : World) (h : Heap), YP w h → (K w.params).In h)
    (F : ∀ (w : World) (mg : Str → Option Value) (fa : Addr) (h : Heap), (K w.params).In h → h.Ns mainGlobals mg → mg d.name = some (.ref fa) →
      ∃ fd : FuncData, (∀ (s : Shared) (u : Value), BindsTo s fd ⟨[u], []⟩ [("script", u)]) ∧ ∀ base : Heap, (K w.params).In base → base.Ns mainGlobals mg → FnOk l.prog w (K w.params) mg base CX0 11 fa fd ["script"] (spLaw (K w.params))) :
    PySem.W.WalkO q loose XP YP l.row.toRowW d [] (fun f vs => PySem.call f vs) :=
  L2.walk_of (n := 63) (k := 11) (x := "script") (CX := fun _ => CX0) (sp := fun w => spLaw (K w.params)) hn (by decide) hdf ⟨rfl, by decide, by decide⟩ hY F
    (fun _ _ a ns hl _ hS => ⟨a, ns, rfl, hS, hl, fun _ => rfl⟩) fun _ _ _ _ _ z => z
end K36

open PySem PySem.W PyProof.Rows in
set_option maxRecDepth 100000 in
set_option maxHeartbeats 0 in
theorem PySem.Challenge.cw_heirsback_k36_nested_texts_holds : PySem.Challenge.rw_heirsback_k36_nested_texts.Holds := by
  w_on; o_law; k_head; (case hw => w_witness2)
  k_fill
  refine K36.walk (l := PySem.Challenge.rw_heirsback_k36_nested_texts) rfl rfl (fun w h Y => PySem.W.kIn_of Y) ?F
  case F =>
    intro w mg fa h KX G hmg
    refine' K36.all_mk KX G hmg ?a_HE ?a_Phrase ?a_BadExpression ?a_Expression ?a_TooMany ?a__checked ?a__joined ?a_arity_of ?a__written ?a__law_take ?a__law_bag ?a__law_of ?a__law_read ?a__law_nested ?a__law_nested_right ?a__law_long ?a_law ?v_LONGEST_NAME ?v_MOST_OPENED ?v_MOST_STEPS ?v_BINARY_SIGNS ?v_UNARY_SIGNS ?z_isinstance ?z_list ?z_tuple ?z_int ?z_str ?z_bool ?z_len ?z_abs ?z_max ?z_min ?z_range ?z_enumerate ?z_all ?z_ValueError ?z_LookupError ?z_KeyError ?z_IndexError ?sa_Phrase ?nA_Phrase_0 ?nA_Phrase_1 ?nA_Phrase_2 ?nA_Phrase_3 ?m_Phrase__letter ?m_Phrase__is_between ?m_Phrase__skip_small ?sa_BadExpression ?hg_BadExpression ?hk_BadExpression ?ha_BadExpression ?na_BadExpression_at ?i_BadExpression___init__ ?m_Phrase__take ?m_Phrase__take_word ?m_Phrase__take_class ?m_Phrase__take_request ?m_Phrase__take_opening ?m_Phrase__take_sign ?m_Phrase__take_start ?m_Phrase_take_all ?i_Phrase___init__ ?sa_Expression ?nA_Expression_0 ?nA_Expression_1 ?i_Expression___init__ ?fc_Expression_leaf ?m_Expression_parts ?m_Expression___len__ ?sa_TooMany ?hg_TooMany ?hk_TooMany ?ha_TooMany ?na_TooMany_what ?i_TooMany___init__ ?fc_Expression_read ?haI_Expression ?m_Expression___eq__ ?m_Expression___add__ ?m_Expression___sub__ ?m_Expression___mul__ ?m_Expression___floordiv__ ?m_Expression___and__ ?m_Expression___or__ ?m_Expression___xor__ ?m_Expression___lshift__ ?m_Expression___rshift__ ?m_Expression___neg__ ?m_Expression___pos__ ?m_Expression___invert__ ?m_Expression___abs__ ?m_Expression___str__ ?rc_Expression_leaf ?rc_Expression_read ?l_Phrase__letter ?l_Phrase__is_between ?l_Phrase__skip_small ?l_BadExpression___init__ ?l_Phrase__take ?l_Phrase__take_word ?l_Phrase__take_class ?l_Phrase__take_request ?l_Phrase__take_opening ?l_Phrase__take_sign ?l_Phrase__take_start ?l_Phrase_take_all ?l_Phrase___init__ ?l_Expression___init__ ?l_Expression_leaf ?l_Expression_parts ?l_Expression___len__ ?l_TooMany___init__ ?l__checked ?l_Expression_read ?l_Expression___eq__ ?l__joined ?l_arity_of ?l__written ?l_Expression___add__ ?l_Expression___sub__ ?l_Expression___mul__ ?l_Expression___floordiv__ ?l_Expression___and__ ?l_Expression___or__ ?l_Expression___xor__ ?l_Expression___lshift__ ?l_Expression___rshift__ ?l_Expression___neg__ ?l_Expression___pos__ ?l_Expression___invert__ ?l_Expression___abs__ ?l_Expression___str__ ?l__law_take ?l__law_bag ?l__law_of ?l__law_read ?l__law_nested ?l__law_nested_right ?l__law_long ?l_law ?l_BINARY_SIGNS ?l_UNARY_SIGNS ?tyI_Expression ?hd_HE ?ty_HE ?sb_HE ?sH_TooMany ?sTB ?pg_Phrase ?hd_Phrase ?po_Phrase ?kC_Phrase ?mk_Phrase ?rd_Phrase ?ga_Phrase ?ic_Phrase ?c_Phrase__letter ?k_Phrase__letter ?f_Phrase__letter ?c_Phrase__is_between ?k_Phrase__is_between ?f_Phrase__is_between ?c_Phrase__skip_small ?k_Phrase__skip_small ?f_Phrase__skip_small ?q1_BadExpression ?q2_BadExpression ?sb_BadExpression ?so_BadExpression ?ss_BadExpression ?hd_BadExpression ?kC_BadExpression ?ty_BadExpression ?hn ?ht ?c_BadExpression___init__ ?k_BadExpression___init__ ?f_BadExpression___init__ ?c_Phrase__take ?k_Phrase__take ?f_Phrase__take ?c_Phrase__take_word ?k_Phrase__take_word ?f_Phrase__take_word ?c_Phrase__take_class ?k_Phrase__take_class ?f_Phrase__take_class ?c_Phrase__take_request ?k_Phrase__take_request ?f_Phrase__take_request ?c_Phrase__take_opening ?k_Phrase__take_opening ?f_Phrase__take_opening ?c_Phrase__take_sign ?k_Phrase__take_sign ?f_Phrase__take_sign ?c_Phrase__take_start ?k_Phrase__take_start ?f_Phrase__take_start ?c_Phrase_take_all ?k_Phrase_take_all ?f_Phrase_take_all ?c_Phrase___init__ ?k_Phrase___init__ ?f_Phrase___init__ ?pg_Expression ?hd_Expression ?po_Expression ?kC_Expression ?mk_Expression ?rd_Expression ?ga_Expression ?ic_Expression ?c_Expression___init__ ?k_Expression___init__ ?f_Expression___init__ ?c_Expression_leaf ?k_Expression_leaf ?c_Expression_parts ?k_Expression_parts ?f_Expression_parts ?c_Expression___len__ ?k_Expression___len__ ?f_Expression___len__ ?q1_TooMany ?q2_TooMany ?sb_TooMany ?so_TooMany ?ss_TooMany ?hd_TooMany ?kC_TooMany ?ty_TooMany ?c_TooMany___init__ ?k_TooMany___init__ ?f_TooMany___init__ ?c__checked ?k__checked ?c_Expression_read ?k_Expression_read ?fn_Expression_read ?hm_Expression ?c_Expression___eq__ ?k_Expression___eq__ ?f_Expression___eq__ ?c__joined ?k__joined ?c_arity_of ?k_arity_of ?c__written ?k__written ?c_Expression___add__ ?k_Expression___add__ ?f_Expression___add__ ?c_Expression___sub__ ?k_Expression___sub__ ?f_Expression___sub__ ?c_Expression___mul__ ?k_Expression___mul__ ?f_Expression___mul__ ?c_Expression___floordiv__ ?k_Expression___floordiv__ ?f_Expression___floordiv__ ?c_Expression___and__ ?k_Expression___and__ ?f_Expression___and__ ?c_Expression___or__ ?k_Expression___or__ ?f_Expression___or__ ?c_Expression___xor__ ?k_Expression___xor__ ?f_Expression___xor__ ?c_Expression___lshift__ ?k_Expression___lshift__ ?f_Expression___lshift__ ?c_Expression___rshift__ ?k_Expression___rshift__ ?f_Expression___rshift__ ?c_Expression___neg__ ?k_Expression___neg__ ?f_Expression___neg__ ?c_Expression___pos__ ?k_Expression___pos__ ?f_Expression___pos__ ?c_Expression___invert__ ?k_Expression___invert__ ?f_Expression___invert__ ?c_Expression___abs__ ?k_Expression___abs__ ?f_Expression___abs__ ?c_Expression___str__ ?k_Expression___str__ ?f_Expression___str__ ?c__law_take ?k__law_take ?c__law_bag ?k__law_bag ?c__law_of ?k__law_of ?c__law_read ?k__law_read ?c__law_nested ?k__law_nested ?c__law_nested_right ?k__law_nested_right ?c__law_long ?k__law_long ?c_law ?k_law ?o_BINARY_SIGNS ?o_UNARY_SIGNS
    (case a_HE => k_is)
    (case a_Phrase => k_is)
    (case a_BadExpression => k_is)
    (case a_Expression => k_is)
    (case a_TooMany => k_is)
    (case a__checked => k_is)
    (case a__joined => k_is)
    (case a_arity_of => k_is)
    (case a__written => k_is)
    (case a__law_take => k_is)
    (case a__law_bag => k_is)
    (case a__law_of => k_is)
    (case a__law_read => k_is)
    (case a__law_nested => k_is)
    (case a__law_nested_right => k_is)
    (case a__law_long => k_is)
    (case a_law => k_is)
    (case v_LONGEST_NAME => k_is)
    (case v_MOST_OPENED => k_is)
    (case v_MOST_STEPS => k_is)
    (case v_BINARY_SIGNS => k_is)
    (case v_UNARY_SIGNS => k_is)
    (case z_isinstance => k_is)
    (case z_list => k_is)
    (case z_tuple => k_is)
    (case z_int => k_is)
    (case z_str => k_is)
    (case z_bool => k_is)
    (case z_len => k_is)
    (case z_abs => k_is)
    (case z_max => k_is)
    (case z_min => k_is)
    (case z_range => k_is)
    (case z_enumerate => k_is)
    (case z_all => k_is)
    (case z_ValueError => k_is)
    (case z_LookupError => k_is)
    (case z_KeyError => k_is)
    (case z_IndexError => k_is)
    (case sa_Phrase => k_is)
    (case nA_Phrase_0 => k_is)
    (case nA_Phrase_1 => k_is)
    (case nA_Phrase_2 => k_is)
    (case nA_Phrase_3 => k_is)
    (case m_Phrase__letter => k_is)
    (case m_Phrase__is_between => k_is)
    (case m_Phrase__skip_small => k_is)
    (case sa_BadExpression => k_is)
    (case hg_BadExpression => k_is)
    (case hk_BadExpression => k_is)
    (case ha_BadExpression => k_is)
    (case na_BadExpression_at => k_is)
    (case i_BadExpression___init__ => k_is)
    (case m_Phrase__take => k_is)
    (case m_Phrase__take_word => k_is)
    (case m_Phrase__take_class => k_is)
    (case m_Phrase__take_request => k_is)
    (case m_Phrase__take_opening => k_is)
    (case m_Phrase__take_sign => k_is)
    (case m_Phrase__take_start => k_is)
    (case m_Phrase_take_all => k_is)
    (case i_Phrase___init__ => k_is)
    (case sa_Expression => k_is)
    (case nA_Expression_0 => k_is)
    (case nA_Expression_1 => k_is)
    (case i_Expression___init__ => k_is)
    (case fc_Expression_leaf => k_is)
    (case m_Expression_parts => k_is)
    (case m_Expression___len__ => k_is)
    (case sa_TooMany => k_is)
    (case hg_TooMany => k_is)
    (case hk_TooMany => k_is)
    (case ha_TooMany => k_is)
    (case na_TooMany_what => k_is)
    (case i_TooMany___init__ => k_is)
    (case fc_Expression_read => k_is)
    (case haI_Expression => k_is)
    (case m_Expression___eq__ => k_is)
    (case m_Expression___add__ => k_is)
    (case m_Expression___sub__ => k_is)
    (case m_Expression___mul__ => k_is)
    (case m_Expression___floordiv__ => k_is)
    (case m_Expression___and__ => k_is)
    (case m_Expression___or__ => k_is)
    (case m_Expression___xor__ => k_is)
    (case m_Expression___lshift__ => k_is)
    (case m_Expression___rshift__ => k_is)
    (case m_Expression___neg__ => k_is)
    (case m_Expression___pos__ => k_is)
    (case m_Expression___invert__ => k_is)
    (case m_Expression___abs__ => k_is)
    (case m_Expression___str__ => k_is)
    (case rc_Expression_leaf => k_is)
    (case rc_Expression_read => k_is)
    (case l_Phrase__letter => k_is)
    (case l_Phrase__is_between => k_is)
    (case l_Phrase__skip_small => k_is)
    (case l_BadExpression___init__ => k_is)
    (case l_Phrase__take => k_is)
    (case l_Phrase__take_word => k_is)
    (case l_Phrase__take_class => k_is)
    (case l_Phrase__take_request => k_is)
    (case l_Phrase__take_opening => k_is)
    (case l_Phrase__take_sign => k_is)
    (case l_Phrase__take_start => k_is)
    (case l_Phrase_take_all => k_is)
    (case l_Phrase___init__ => k_is)
    (case l_Expression___init__ => k_is)
    (case l_Expression_leaf => k_is)
    (case l_Expression_parts => k_is)
    (case l_Expression___len__ => k_is)
    (case l_TooMany___init__ => k_is)
    (case l__checked => k_is)
    (case l_Expression_read => k_is)
    (case l_Expression___eq__ => k_is)
    (case l__joined => k_is)
    (case l_arity_of => k_is)
    (case l__written => k_is)
    (case l_Expression___add__ => k_is)
    (case l_Expression___sub__ => k_is)
    (case l_Expression___mul__ => k_is)
    (case l_Expression___floordiv__ => k_is)
    (case l_Expression___and__ => k_is)
    (case l_Expression___or__ => k_is)
    (case l_Expression___xor__ => k_is)
    (case l_Expression___lshift__ => k_is)
    (case l_Expression___rshift__ => k_is)
    (case l_Expression___neg__ => k_is)
    (case l_Expression___pos__ => k_is)
    (case l_Expression___invert__ => k_is)
    (case l_Expression___abs__ => k_is)
    (case l_Expression___str__ => k_is)
    (case l__law_take => k_is)
    (case l__law_bag => k_is)
    (case l__law_of => k_is)
    (case l__law_read => k_is)
    (case l__law_nested => k_is)
    (case l__law_nested_right => k_is)
    (case l__law_long => k_is)
    (case l_law => k_is)
    (case l_BINARY_SIGNS => k_is)
    (case l_UNARY_SIGNS => k_is)
    (case tyI_Expression => k_is)
    (case hd_HE => k_is)
    (case ty_HE => k_is)
    (case sb_HE => k_is)
    (case sH_TooMany => k_is)
    (case sTB => k_is)
    (case pg_Phrase => k_is)
    (case hd_Phrase => k_is)
    (case po_Phrase => k_is)
    (case kC_Phrase => k_is)
    (case mk_Phrase => k_is)
    (case rd_Phrase => k_is)
    (case ga_Phrase => k_is)
    (case ic_Phrase => k_is)
    (case c_Phrase__letter => k_is)
    (case k_Phrase__letter => k_is)
    (case f_Phrase__letter => k_is)
    (case c_Phrase__is_between => k_is)
    (case k_Phrase__is_between => k_is)
    (case f_Phrase__is_between => k_is)
    (case c_Phrase__skip_small => k_is)
    (case k_Phrase__skip_small => k_is)
    (case f_Phrase__skip_small => k_is)
    (case q1_BadExpression => kx_is)
    (case q2_BadExpression => kx_is)
    (case sb_BadExpression => k_is)
    (case so_BadExpression => k_is)
    (case ss_BadExpression => k_is)
    (case hd_BadExpression => k_is)
    (case kC_BadExpression => k_is)
    (case ty_BadExpression => k_is)
    (case hn => k_is)
    (case ht => k_is)
    (case c_BadExpression___init__ => k_is)
    (case k_BadExpression___init__ => k_is)
    (case f_BadExpression___init__ => k_is)
    (case c_Phrase__take => k_is)
    (case k_Phrase__take => k_is)
    (case f_Phrase__take => k_is)
    (case c_Phrase__take_word => k_is)
    (case k_Phrase__take_word => k_is)
    (case f_Phrase__take_word => k_is)
    (case c_Phrase__take_class => k_is)
    (case k_Phrase__take_class => k_is)
    (case f_Phrase__take_class => k_is)
    (case c_Phrase__take_request => k_is)
    (case k_Phrase__take_request => k_is)
    (case f_Phrase__take_request => k_is)
    (case c_Phrase__take_opening => k_is)
    (case k_Phrase__take_opening => k_is)
    (case f_Phrase__take_opening => k_is)
    (case c_Phrase__take_sign => k_is)
    (case k_Phrase__take_sign => k_is)
    (case f_Phrase__take_sign => k_is)
    (case c_Phrase__take_start => k_is)
    (case k_Phrase__take_start => k_is)
    (case f_Phrase__take_start => k_is)
    (case c_Phrase_take_all => k_is)
    (case k_Phrase_take_all => k_is)
    (case f_Phrase_take_all => k_is)
    (case c_Phrase___init__ => k_is)
    (case k_Phrase___init__ => k_is)
    (case f_Phrase___init__ => k_is)
    (case pg_Expression => k_is)
    (case hd_Expression => k_is)
    (case po_Expression => k_is)
    (case kC_Expression => k_is)
    (case mk_Expression => k_is)
    (case rd_Expression => k_is)
    (case ga_Expression => k_is)
    (case ic_Expression => k_is)
    (case c_Expression___init__ => k_is)
    (case k_Expression___init__ => k_is)
    (case f_Expression___init__ => k_is)
    (case c_Expression_leaf => k_is)
    (case k_Expression_leaf => k_is)
    (case c_Expression_parts => k_is)
    (case k_Expression_parts => k_is)
    (case f_Expression_parts => k_is)
    (case c_Expression___len__ => k_is)
    (case k_Expression___len__ => k_is)
    (case f_Expression___len__ => k_is)
    (case q1_TooMany => kx_is)
    (case q2_TooMany => kx_is)
    (case sb_TooMany => k_is)
    (case so_TooMany => k_is)
    (case ss_TooMany => k_is)
    (case hd_TooMany => k_is)
    (case kC_TooMany => k_is)
    (case ty_TooMany => k_is)
    (case c_TooMany___init__ => k_is)
    (case k_TooMany___init__ => k_is)
    (case f_TooMany___init__ => k_is)
    (case c__checked => k_is)
    (case k__checked => k_is)
    (case c_Expression_read => k_is)
    (case k_Expression_read => k_is)
    (case fn_Expression_read => k_is)
    (case hm_Expression => k_is)
    (case c_Expression___eq__ => k_is)
    (case k_Expression___eq__ => k_is)
    (case f_Expression___eq__ => k_is)
    (case c__joined => k_is)
    (case k__joined => k_is)
    (case c_arity_of => k_is)
    (case k_arity_of => k_is)
    (case c__written => k_is)
    (case k__written => k_is)
    (case c_Expression___add__ => k_is)
    (case k_Expression___add__ => k_is)
    (case f_Expression___add__ => k_is)
    (case c_Expression___sub__ => k_is)
    (case k_Expression___sub__ => k_is)
    (case f_Expression___sub__ => k_is)
    (case c_Expression___mul__ => k_is)
    (case k_Expression___mul__ => k_is)
    (case f_Expression___mul__ => k_is)
    (case c_Expression___floordiv__ => k_is)
    (case k_Expression___floordiv__ => k_is)
    (case f_Expression___floordiv__ => k_is)
    (case c_Expression___and__ => k_is)
    (case k_Expression___and__ => k_is)
    (case f_Expression___and__ => k_is)
    (case c_Expression___or__ => k_is)
    (case k_Expression___or__ => k_is)
    (case f_Expression___or__ => k_is)
    (case c_Expression___xor__ => k_is)
    (case k_Expression___xor__ => k_is)
    (case f_Expression___xor__ => k_is)
    (case c_Expression___lshift__ => k_is)
    (case k_Expression___lshift__ => k_is)
    (case f_Expression___lshift__ => k_is)
    (case c_Expression___rshift__ => k_is)
    (case k_Expression___rshift__ => k_is)
    (case f_Expression___rshift__ => k_is)
    (case c_Expression___neg__ => k_is)
    (case k_Expression___neg__ => k_is)
    (case f_Expression___neg__ => k_is)
    (case c_Expression___pos__ => k_is)
    (case k_Expression___pos__ => k_is)
    (case f_Expression___pos__ => k_is)
    (case c_Expression___invert__ => k_is)
    (case k_Expression___invert__ => k_is)
    (case f_Expression___invert__ => k_is)
    (case c_Expression___abs__ => k_is)
    (case k_Expression___abs__ => k_is)
    (case f_Expression___abs__ => k_is)
    (case c_Expression___str__ => k_is)
    (case k_Expression___str__ => k_is)
    (case f_Expression___str__ => k_is)
    (case c__law_take => k_is)
    (case k__law_take => k_is)
    (case c__law_bag => k_is)
    (case k__law_bag => k_is)
    (case c__law_of => k_is)
    (case k__law_of => k_is)
    (case c__law_read => k_is)
    (case k__law_read => k_is)
    (case c__law_nested => k_is)
    (case k__law_nested => k_is)
    (case c__law_nested_right => k_is)
    (case k__law_nested_right => k_is)
    (case c__law_long => k_is)
    (case k__law_long => k_is)
    (case c_law => k_is)
    (case k_law => k_is)
    (case o_BINARY_SIGNS => decide +kernel)
    (case o_UNARY_SIGNS => decide +kernel)
