import PyProof.Rows.All
import Wide.All
import OpenK.AllK
import Wide.FinOn
import KE.KExcInit
import KE.KExcIs
import PyProof.ListStr
import PyProof.FitsInt
import HandS.ExcInit
import HandS.ExcField
import HandS.ExcIs
import HandS.IsInst
import HandS.Words
import HandS.WordsList
import HandS.Wide
import HandS.Comp
import HandS.Text
import HandS.Iter
import HandS.Walk
import KE.KCallOwn
import OpenK.KMeth
import OpenK.KOps
import HandS.Exc
import HandS.ExcOwn
import HandS.WordsExc
import HandS.ClsMeth
import HandS.More
import HandS.Property
import HandS.FStr
import HandS.DictComp
import HandS.Conv
import HandS.List
import PySem.Challenge.RW_heirsback_k31_leaves_and_requests
import HandS.Star
import HandS.OwnEq
import HandS.Defaults
import HandS.AnyAll
import HandS.TryOnly
import HandS.RaiseMore
import KE.KExcLine
set_option Elab.async false
set_option linter.all false
set_option maxRecDepth 100000
set_option maxHeartbeats 8000000
/-! own exceptions held as values: made by their own __init__, their fields stored and read, isinstance -/
namespace EV
open PySem PySem.Spec PyProof.Rows L2 PySem.Builtin PySem.Builtin.ObjectAttr
abbrev Fg := PySem.W.Frag
/-- what the text says of an own exception class at C -/
structure XCls (K : Fg) (C : Addr) : Prop where
  base : ∃ (B nI iI : String) (bmB : List Value), ExcBaseFacts B nI iI bmB ∧ StoreFacts B bmB "object.__setattr__" "object" ∧
    PySem.W.excInitIn K C bmB nI = true ∧ PySem.W.excOver K C bmB = true
  sa : PySem.W.findIn K (.ref C) "__setattr__" = some (some (.builtin "object.__setattr__"))
  ex : ExcC K C
  kC : PySem.W.keepIn K (.ref C) = true
section
variable {X : Cx} {pins : List (Addr × Obj)} {σ : L2.St} {H : Hp} {s : Shared} {a C dx : Addr} {f : Str} {y : V} {u : Value}
variable {fs : List (Str × V)} {Q : Unit → Shared → Prop} {E : Value → Shared → Prop} {A : Around}

/-- the first field -/
theorem put_first (T : XCls X.K C) (I : Inv X pins σ H s) (e : H a = some (exo a C none)) (no : NoAttr X.K C f) (ry : RelV y u)
    (h : ∀ dx s', H dx = none → dx ≠ a → Inv X pins σ (upd (upd H dx (exd dx [(f, y)])) a (exo a C (some dx))) s' → Q () s') :
    wpAny (model X.prog X.w) A (setAttr (.ref a) f u) Q E s := by
  obtain ⟨B, nI, iI, bmB, FB, SF, q1, q2⟩ := T.base
  obtain ⟨t1, ho⟩ := exo_at I.hok e
  obtain ⟨hp, g, d, t, os⟩ := s
  have J : PySem.W.InstAt hp a { cls := .ref C, dict := none, data := .fields #[.ref t1, .none, .none, .none, .bool false, .none] } C none :=
    ⟨ho, rfl, rfl, trivial⟩
  refine PySem.W.set_plain I.kIn J T.sa ?_
  refine PySem.W.osa_openX (s := ⟨hp, g, d, t + 1, os⟩) (r := none) SF I.kIn J q2 no.taker fun b => ?_
  show wpAny _ _ (storeInOwnDict (.ref a) (.ref C) (.str f t) f u b) _ _ _
  obtain ⟨cd, hc, hh⟩ := PySem.W.any_some T.ex.hd
  have hcls : PySem.W.Looks (model X.prog X.w) hp (classData C) cd := PySem.W.looks_clsIn I.kIn hc
  have hxs : a ≠ hp.objs.size := Nat.ne_of_lt (Heap.lt_size ho)
  obtain ⟨nm, bs, mro, ns, qn, hd, sn, sb, ab, col, del⟩ := cd
  dsimp only at hh
  subst hh
  unfold storeInOwnDict ownDictForStores
  repeat (first
    | with_reducible refine PySem.HandSPX.store_in_new ?_ ?_
    | with_reducible refine wpAny_loadPart_at ho ?_
    | with_reducible refine hcls.at ?_
    | wp_step)
  · exact ⟨_, #[], _, (Heap.get?_update_ne _ _ _ _ hxs.symm).trans (Heap.get?_push_at rfl rfl), rfl, fun z hz => absurd hz (by simp), fun _ => rfl⟩
  · intro h' tk' hn hs
    have en : H hp.objs.size = none := I.hok.fresh (Nat.le_refl _)
    have g1 : (hp.push { cls := .type "dict", data := .dict #[] }).get? hp.objs.size = some { cls := .type "dict", data := .dict #[] } :=
      Heap.get?_push_size hp rfl
    have e3 : (hp.push { cls := .type "dict", data := .dict #[] }).Ns hp.objs.size (fun _ => none) :=
      ⟨_, #[], _, g1, rfl, fun z hz => absurd hz (by simp), fun _ => rfl⟩
    have I1 := I.laid (a := hp.objs.size) (o := exd hp.objs.size []) (t' := tk') (h' := hp.push { cls := .type "dict", data := .dict #[] })
      (fun b o q => Heap.get?_push_of_some _ q) (Nat.le_refl _) (exd_ok (fs := []) (Heap.Ns1.of_empty e3) fun _ => True.intro)
    have g2 := Heap.get?_push_of_some (h := hp) { cls := .type "dict", data := .dict #[] } ho
    have ga := Heap.get?_update_self (fun o : Obj => { cls := o.cls, dict := some hp.objs.size, data := o.data, slots := o.slots }) g2 rfl
    have I2 := I1.write (x := a) (e := a) (o := exo a C (some hp.objs.size)) (t' := tk')
      (h' := (hp.push { cls := .type "dict", data := .dict #[] }).update a fun o => { cls := o.cls, dict := some hp.objs.size, data := o.data, slots := o.slots })
      (by rw [upd_ne hxs, e]; exact True.intro) (.inl rfl) (fun b o hb q => (Heap.get?_update_ne _ _ _ _ hb).trans q) ⟨_, ga⟩ (exo_ok ga)
    have I3 := I2.write (x := hp.objs.size) (e := hp.objs.size) (o := exd hp.objs.size [(f, y)]) (t' := tk') (h' := h')
      (by rw [upd_ne hxs.symm, upd_same]; exact True.intro) (.inl rfl) (fun b o hb q => (hs.2 b hb).trans q)
      (let ⟨o, _, _, z, _⟩ := hn; ⟨o, z⟩) (exd_ok hn (relO_put (fs := []) ry fun _ => True.intro))
    have eu : upd (upd (upd H hp.objs.size (exd hp.objs.size [])) a (exo a C (some hp.objs.size))) hp.objs.size (exd hp.objs.size [(f, y)])
        = upd (upd H hp.objs.size (exd hp.objs.size [(f, y)])) a (exo a C (some hp.objs.size)) := by
      funext b
      unfold upd
      by_cases h1 : b = a
      · subst h1
        rw [if_neg hxs, if_pos rfl, if_pos rfl]
      · by_cases h2 : b = hp.objs.size
        · rw [if_pos h2, if_neg h1, if_pos h2]
        · rw [if_neg h2, if_neg h1, if_neg h2, if_neg h1, if_neg h2]
    rw [eu] at I3
    exact h hp.objs.size _ en hxs.symm I3
/-- a further field -/
theorem put_more (T : XCls X.K C) (I : Inv X pins σ H s) (e : H a = some (exo a C (some dx))) (ed : H dx = some (exd dx fs)) (hl : fs.length ≤ 900)
    (no : NoAttr X.K C f) (ry : RelV y u) (h : ∀ s', Inv X pins σ (upd H dx (exd dx ((f, y) :: fs))) s' → Q () s') :
    wpAny (model X.prog X.w) A (setAttr (.ref a) f u) Q E s := by
  obtain ⟨B, nI, iI, bmB, FB, SF, q1, q2⟩ := T.base
  obtain ⟨t1, ho⟩ := exo_at I.hok e
  obtain ⟨mA, hns, rel⟩ := exd_at I.hok ed
  have hw := within_of rel
  obtain ⟨hp, g, d, t, os⟩ := s
  obtain ⟨oD, esD, epD, hoD, hdD, _⟩ := hns.count hw
  have J : PySem.W.InstAt hp a { cls := .ref C, dict := some dx, data := .fields #[.ref t1, .none, .none, .none, .bool false, .none] } C (some oD) :=
    ⟨ho, rfl, rfl, hoD⟩
  refine PySem.W.set_plain I.kIn J T.sa ?_
  refine PySem.W.osa_openX (s := ⟨hp, g, d, t + 1, os⟩) (r := none) SF I.kIn J q2 no.taker fun b => ?_
  show wpAny _ _ (storeInOwnDict (.ref a) (.ref C) (.str f t) f u b) _ _ _
  obtain ⟨cd, hc, hh⟩ := PySem.W.any_some T.ex.hd
  have hcls : PySem.W.Looks (model X.prog X.w) hp (classData C) cd := PySem.W.looks_clsIn I.kIn hc
  obtain ⟨nm, bs, mro, ns, qn, hd, sn, sb, ab, col, del⟩ := cd
  dsimp only at hh
  subst hh
  unfold storeInOwnDict ownDictForStores
  repeat (first
    | with_reducible refine PySem.OEX.store_in_old hns hw ?_ ?_
    | with_reducible refine wpAny_loadPart_at ho ?_
    | with_reducible refine hcls.at ?_
    | wp_step)
  · rw [List.length_map]; omega
  · intro h' tk' hn hs
    have hd : ∃ o, h'.get? dx = some o := by
      obtain ⟨o, _, _, z, _⟩ := hn
      exact ⟨o, z⟩
    exact h _ (I.write (t' := tk') (x := dx) (e := dx) (o := exd dx ((f, y) :: fs)) (by rw [ed]; exact True.intro) (.inl rfl)
      (fun b o hb q => (hs.2 b hb).trans q) hd (exd_ok hn (relO_put ry rel)))
end
/-! ### the statement self.f = e -/
/-- the error at a is of the class at C, its fields are fs -/
def ErrAt (H : Hp) (a C : Addr) (fs : List (Str × V)) : Prop := ∃ d, H a = some (exo a C (some d)) ∧ H d = some (exd d fs)
section
variable {X : Cx} {o e : Expr} {es : List Expr} {to te : TE} {ta : TA} {f : Str} {p p' pos : Pos} {C : Addr}
def tPut1 (K : Fg) (f : Str) (to te : TE) : TS := fun D σ H => te σ H fun y H1 => to σ H1 fun x H2 => ∃ a C : Addr, x = .ref a ∧ XCls K C ∧ NoAttr K C f ∧
  H2 a = some (exo a C none) ∧ ∀ dx, H2 dx = none → dx ≠ a → D.nx σ (upd (upd H2 dx (exd dx [(f, y)])) a (exo a C (some dx)))
def tPut2 (K : Fg) (f : Str) (to te : TE) : TS := fun D σ H => te σ H fun y H1 => to σ H1 fun x H2 => ∃ (a C dx : Addr) (fs : List (Str × V)), x = .ref a ∧ XCls K C ∧ NoAttr K C f ∧
  H2 a = some (exo a C (some dx)) ∧ H2 dx = some (exd dx fs) ∧ fs.length ≤ 900 ∧ D.nx σ (upd H2 dx (exd dx ((f, y) :: fs)))
theorem ps_put1 (ho : PE X o to) (he : PE X e te) (hs : swapsWith e (some (.Attribute o f p')) pos.line X.env = pure false := by rfl) :
    PS X (.Assign [.Attribute o f p'] e pos) (tPut1 X.K f to te) := by
  refine ⟨fun pins s σ H D I h => ?_⟩
  refine plainObj_wpAny_Assign_Attribute (thn (he.run pins s σ H _ I h) fun v s1 hv => ?_) hs
  obtain ⟨y, H1, I1, r1, q1⟩ := hv
  refine thn (ho.run pins s1 σ H1 _ I1 q1) fun u s2 hu => ?_
  obtain ⟨x, H2, I2, r2, a, C, ex, T, no, ea, q⟩ := hu
  subst ex
  obtain rfl : u = Value.ref a := r2
  exact put_first T I2 ea no r1 fun dx s' n ne J => ⟨σ, _, J, q dx n ne⟩
theorem ps_put2 (ho : PE X o to) (he : PE X e te) (hs : swapsWith e (some (.Attribute o f p')) pos.line X.env = pure false := by rfl) :
    PS X (.Assign [.Attribute o f p'] e pos) (tPut2 X.K f to te) := by
  refine ⟨fun pins s σ H D I h => ?_⟩
  refine plainObj_wpAny_Assign_Attribute (thn (he.run pins s σ H _ I h) fun v s1 hv => ?_) hs
  obtain ⟨y, H1, I1, r1, q1⟩ := hv
  refine thn (ho.run pins s1 σ H1 _ I1 q1) fun u s2 hu => ?_
  obtain ⟨x, H2, I2, r2, a, C, dx, fs, ex, T, no, ea, ed, hl, q⟩ := hu
  subst ex
  obtain rfl : u = Value.ref a := r2
  exact put_more T I2 ea ed hl no r1 fun s' J => ⟨σ, _, J, q⟩
/-! ### C(e, ..), a new error as a value -/
def tNew (C : Addr) (sp : Sp) (dvs : List V) (ta : TA) : TE := fun σ H Q => ta σ H fun vs H1 => vs.length ≤ 1000 ∧ ∀ a, H1 a = none →
  sp (.ref a :: (vs ++ dvs)) (upd H1 a (exo a C none)) (fun v H2 => v = .non ∧ Q (.ref a) H2) (fun _ _ _ => False)
theorem pe_new {CX : CXT} {x : Str} {fI : Addr} {k : Nat} {fd : FuncData} {ps : List Str} {sp : Sp} {ds : List Value} {dvs : List V} (T : XCls X.K C)
    (iC : PySem.W.findIn X.K (.ref C) "__init__" = some (some (.ref fI))) (tI : PySem.W.isFn X.K (.ref fI) = true)
    (F1 : FnOk X.prog X.w X.K X.mg X.base CX k fI fd ps sp) (hr : Room (k + 1) X.A) (hb : Binds X.K fd ps ds) (hd : Vals dvs ds)
    (hx : Passes CX X (fun _ _ _ => False)) (hg : Gl X x) (hm : X.mg x = some (.ref C)) (ha : PA X (e :: es) ta)
    (hdb : (x == ("__debug__" : Str)) = false := by decide) (he : starEach (e :: es) X.env = (false, eval e X.env) :: starEach es X.env := by rfl)
    (hpl : (backTo pos (starEach es X.env)).any (·.1) = false := by rfl) :
    PE X (.Call (.Name x p) (e :: es) [] pos) (tNew C sp dvs ta) := by
  refine ⟨fun pins s σ H Q I h => ?_⟩
  obtain ⟨B, nI, iI, bmB, FB, SF, q1, q2⟩ := T.base
  refine wpAny_Call_Name_kw (ld_glob I hg hm ?_ hdb)
  refine PySem.W.callWith_K (h₀ := X.base) I.ok.mod.kin T.kC (thn (ha.run pos pins s σ H _ I h) fun us s1 hu => ?_) he hpl
  obtain ⟨vs, H1, I1, r1, hz, q⟩ := hu
  refine ⟨I1.kIn, ?_⟩
  show wpAny _ _ (call (.ref C) us) _ _ _
  obtain ⟨nm, N', qn, bs, bm, hdct, sn, sub, ab, col, dd, k0, k1, k2, k3, k5, hC, hT⟩ := PySem.W.excInit_of I1.kIn q1
  obtain ⟨oI, hoI, hcI⟩ : ∃ oI, s1.heap.get? fI = some oI ∧ oI.cls = .type "function" := by
    obtain ⟨o, z1, z2⟩ := Option.map_eq_some_iff.mp (show (X.K.lookup fI).map (·.cls) = some (.type "function") from beq_iff_eq.mp tI)
    exact ⟨o, I1.kIn _ _ z1, z2⟩
  obtain ⟨hp, g, dr, tk, os⟩ := s1
  have hsz : hp.objs.size ≤ hp.objs.size + 1 := Nat.le_succ _
  have hn : H1 (hp.objs.size + 1) = none := I1.hok.fresh hsz
  have hq := q (hp.objs.size + 1) hn
  have kk : ∀ b o, hp.get? b = some o → ((hp.push (PySem.W.kdv_tup us)).push (PySem.HandSPX.excO C hp.objs.size)).get? b = some o :=
    fun b o z => Heap.get?_push_of_some _ (Heap.get?_push_of_some _ z)
  have hget : ((hp.push (PySem.W.kdv_tup us)).push (PySem.HandSPX.excO C hp.objs.size)).get? (hp.objs.size + 1) = some (PySem.HandSPX.excO C hp.objs.size) := by heap_get
  have I2 := I1.laid (t' := tk) (a := hp.objs.size + 1) (o := exo (hp.objs.size + 1) C none)
    (h' := (hp.push (PySem.W.kdv_tup us)).push (PySem.HandSPX.excO C hp.objs.size)) kk hsz (exo_ok hget)
  have r2 : Vals (V.ref (hp.objs.size + 1) :: (vs ++ dvs)) (Value.ref (hp.objs.size + 1) :: (us ++ ds)) := .cons rfl (r1.append hd)
  have hl : (Value.ref (hp.objs.size + 1) :: us ++ ds).length = ps.length := by
    have z := r2.length
    rw [F1.len _ _ _ _ hq] at z
    exact z.symm
  have hus : us.length ≤ sizeLine := by
    rw [← Paired.length r1, sizeLine_eq]
    omega
  refine wpAny_call (PySem.HandSPX.call_own FB hT hC (PySem.W.looks_findIn I1.kIn iC) (fun self => PySem.W.exc_bind hoI hcI self) hus
    (codeAny_mono (F1.run _ X.stack _ _ ⟨Value.ref (hp.objs.size + 1) :: us, []⟩ (Value.ref (hp.objs.size + 1) :: (us ++ ds)) _ _ (fun _ _ _ => False)
      (hr.make C us []) (I2.env0.make C us []) (hb _ (Value.ref (hp.objs.size + 1) :: us) I2.kIn hl) r2 hq) fun r s' hq' => ?_))
  cases r with
  | error er => exact hx pins σ _ _ er s' I2 hq'
  | ok fl =>
    cases fl with
    | ret u =>
      obtain ⟨v, H2, I3, rv, ev, q2⟩ := I2.after hq'
      subst ev
      exact ⟨rv, .ref (hp.objs.size + 1), H2, I3, rfl, q2⟩
    | next => exact False.elim hq'
    | brk => exact False.elim hq'
    | cont => exact False.elim hq'
/-! ### e.f of an error -/
def tGet (K : Fg) (te : TE) (f : Str) : TE := fun σ H Q => te σ H fun x H1 => ∃ (a C : Addr) (fs : List (Str × V)) (v : V), x = .ref a ∧ XCls K C ∧ NoAttr K C f ∧
  ErrAt H1 a C fs ∧ fs.lookup f = some v ∧ Q v H1
theorem pe_get {te : TE} (he : PE X e te) (hb : attributeBase e f X.env (eval e X.env) = eval e X.env := by rfl) :
    PE X (.Attribute e f pos) (tGet X.K te f) := by
  refine ⟨fun pins s σ H Q I h => ?_⟩
  refine attr_of hb (thn (he.run pins s σ H _ I h) fun u s1 hu => ?_)
  obtain ⟨x, H1, I1, rx, a, C, fs, v, ex, T, no, ⟨d, ea, ed⟩, l, q⟩ := hu
  subst ex
  obtain rfl : u = Value.ref a := rx
  obtain ⟨t1, ho⟩ := exo_at I1.hok ea
  obtain ⟨mA, hns, hr⟩ := exd_at I1.hok ed
  obtain ⟨od, hod, hl⟩ := lookIn_ns hns
  obtain ⟨u, hu, ru⟩ := RelO.some_of (v := v) (o := mA f) (by rw [← l]; exact hr f)
  have J : PySem.W.InstAt s1.heap a { cls := .ref C, dict := some d, data := .fields #[.ref t1, .none, .none, .none, .bool false, .none] } C (some od) :=
    ⟨ho, rfl, rfl, hod⟩
  exact PySem.HandSPX.exc_get I1.kIn J T.ex.hg T.ex.hk T.ex.hs (PySem.W.findObj_own T.ex.hd no rfl (by rw [hl, hu])) (handed_of ru)
    ⟨v, H1, I1.tok _, ru, q⟩
/-! ### isinstance of an error -/
def rIsX (K : Fg) : List V → Hp → VK → Prop := fun xs H Q => ∃ (a C : Addr) (c : V) (u : Value) (b : Bool) (fs : List (Str × V)), xs = [.ref a, c] ∧ ClsV c u ∧
  ErrAt H a C fs ∧ XCls K C ∧ PySem.W.kitOne K (.ref C) u = some b ∧ Q (.bl b) H
theorem call_isX : CallR X (.builtin "isinstance") (rIsX X.K) := by
  intro pins s σ H xs us Q I r h
  obtain ⟨a, C, c, u, b, fs, rfl, hc, ⟨d, ea, ed⟩, T, ek, q⟩ := h
  obtain ⟨u1, u2, rfl, r1, r2⟩ := vals2 r
  obtain rfl : u1 = Value.ref a := r1
  have e2 := hc.eq r2
  subst e2
  obtain ⟨t1, ho⟩ := exo_at I.hok ea
  obtain ⟨mA, hns, hr⟩ := exd_at I.hok ed
  obtain ⟨od, hod, hl⟩ := lookIn_ns hns
  have J : PySem.W.InstAt s.heap a { cls := .ref C, dict := some d, data := .fields #[.ref t1, .none, .none, .none, .bool false, .none] } C (some od) :=
    ⟨ho, rfl, rfl, hod⟩
  exact PySem.W.kia_one (PySem.W.kitx_exc (by obtain ⟨cd, hc, _⟩ := PySem.W.any_some T.ex.hd; rw [hc]; rfl) T.ex.hg T.ex.hk T.ex.hs T.ex.ha T.ex.hn T.ex.ht T.ex.hm) I.kIn J ek (fun z => nomatch z)
    fun tk => ⟨.bl b, H, I.kept (t' := tk) fun _ _ z => z, rfl, q⟩
end
/-! ### a def, a class by its name -/
structure Ok (P : Program) (w : World) (K : Fg) (mg : Str → Option Value) (base : Heap) (k : Nat) (x : Str) (ps : List Str) (sp : Sp) : Prop where
  ex : ∃ (f : Addr) (fd : FuncData), FnOk P w K mg base CX0 k f fd ps sp ∧ mg x = some (.ref f) ∧ PySem.W.keepIn K (.ref f) = true ∧ Binds K fd ps []
structure OkC (P : Program) (w : World) (K : Fg) (mg : Str → Option Value) (base : Heap) (k : Nat) (x : Str) (C : Addr) (ps : List Str) (sp : Sp) : Prop where
  cl : XCls K C
  nm : mg x = some (.ref C)
  ex : ∃ (f : Addr) (fd : FuncData), FnOk P w K mg base CX0 k f fd ps sp ∧ PySem.W.findIn K (.ref C) "__init__" = some (some (.ref f)) ∧
    PySem.W.isFn K (.ref f) = true ∧ Binds K fd ps []
section
variable {X : Cx} {e : Expr} {es : List Expr} {t : TA} {x : Str} {p pos : Pos} {k : Nat} {ps : List Str} {sp : Sp} {C : Addr}
theorem pe_callO (O : Ok X.prog X.w X.K X.mg X.base k x ps sp) (hr : Room k X.A) (ha : PA X (e :: es) t) (hg : Gl X x := by rfl)
    (hdb : (x == ("__debug__" : Str)) = false := by decide) (he : starEach (e :: es) X.env = (false, eval e X.env) :: starEach es X.env := by rfl)
    (hpl : (backTo pos (starEach es X.env)).any (·.1) = false := by rfl) : PE X (.Call (.Name x p) (e :: es) [] pos) (tCall sp [] E0 t) := by
  obtain ⟨f, fd, G, m, kp, b⟩ := O.ex
  exact pe_call G hr hg m kp b .nil pass0 ha hdb he hpl
theorem pe_newO (O : OkC X.prog X.w X.K X.mg X.base k x C ps sp) (hr : Room (k + 1) X.A) (ha : PA X (e :: es) t) (hg : Gl X x := by rfl)
    (hdb : (x == ("__debug__" : Str)) = false := by decide) (he : starEach (e :: es) X.env = (false, eval e X.env) :: starEach es X.env := by rfl)
    (hpl : (backTo pos (starEach es X.env)).any (·.1) = false := by rfl) : PE X (.Call (.Name x p) (e :: es) [] pos) (tNew C sp [] t) := by
  obtain ⟨f, fd, G, i, kp, b⟩ := O.ex
  exact pe_new O.cl i kp G hr b .nil pass0 hg O.nm ha hdb he hpl
end
/-! ### what is said of heaps -/
theorem same_upd {H : Hp} {p : Addr} {o : HO} (h : H p = none) : Same H (upd H p o) := fun b u z => by
  rw [upd_ne (ne_of_none z h)]
  exact z
theorem same_upd' {H0 H : Hp} {p : Addr} {o : HO} (s : Same H0 H) (h : H0 p = none) : Same H0 (upd H p o) := fun b u z => by
  rw [upd_ne (ne_of_none z h)]
  exact s b u z
theorem ErrAt.same {H H' : Hp} {a C : Addr} {fs : List (Str × V)} (s : Same H H') (h : ErrAt H a C fs) : ErrAt H' a C fs :=
  let ⟨d, z1, z2⟩ := h
  ⟨d, s _ _ z1, s _ _ z2⟩
/-- all but what stands at b is as it was -/
def Keep (b : Addr) (H H' : Hp) : Prop := ∀ a o, a ≠ b → H a = some o → H' a = some o
theorem Keep.refl {b : Addr} (H : Hp) : Keep b H H := fun _ _ _ z => z
theorem Keep.trans {b : Addr} {H H1 H2 : Hp} (x : Keep b H H1) (y : Keep b H1 H2) : Keep b H H2 := fun a o n z => y a o n (x a o n z)
theorem Keep.of {b : Addr} {H H' : Hp} (s : Same H H') : Keep b H H' := fun a o _ z => s a o z
theorem Keep.upd {b : Addr} {H : Hp} {o : HO} : Keep b H (upd H b o) := fun a u n z => by
  rw [upd_ne n]
  exact z
theorem ErrAt.keep {b : Addr} {H H' : Hp} {a C : Addr} {fs : List (Str × V)} (s : Keep b H H') (h : ErrAt H a C fs) {l : List V} (hb : H b = some (.lst l)) : ErrAt H' a C fs :=
  let ⟨d, z1, z2⟩ := h
  ⟨d, s _ _ (ne_of z1 hb (by intro q; cases q)) z1, s _ _ (ne_of z2 hb (by intro q; cases q)) z2⟩
/-! ### list(text) -/
def signsV (z : Str) : List V := z.cps.toList.map fun c => V.str ⟨#[c]⟩
theorem signs_vals (z : Str) : ∀ (l : List Nat) (its : List Value), its.length = l.length →
    (∀ (j : Nat) (v : Value), its[j]? = some v → ∃ (c : Nat) (u : Tok), l[j]? = some c ∧ v = Value.str ⟨#[c]⟩ u) → Vals (l.map fun c => V.str ⟨#[c]⟩) its
  | [], [], _, _ => .nil
  | [], _ :: _, h, _ => absurd h (by simp)
  | _ :: _, [], h, _ => absurd h (by simp)
  | c :: l, v :: its, h, k => by
    refine .cons ?_ (signs_vals z l its (by simpa using h) fun j u q => ?_)
    · obtain ⟨c', u, e1, e2⟩ := k 0 v rfl
      cases e1
      exact ⟨u, e2⟩
    · exact k (j + 1) u (by simpa using q)
theorem call_list_text {X : Cx} (hc : X.calm = true) : CallR X (.type "list") (fun xs H Q => ∃ z, xs = [.str z] ∧ z.length ≤ sizeLine ∧
    ∀ l, H l = none → Q (.ref l) (upd H l (.lst (signsV z)))) := by
  intro pins s σ H xs us Q I r h
  obtain ⟨z, rfl, hz, q⟩ := h
  obtain ⟨u, rfl, t, rfl⟩ := vals1 r
  have hl : z.cps.size ≤ sizeLine := hz
  refine call_list_str (hn := hl) (I.ok.hd hc) z t fun h' tk acc' c' hk hS hacc => ?_
  have hn : H s.heap.objs.size = none := I.hok.fresh (Nat.le_refl _)
  have hv : Vals (signsV z) acc'.toList := by
    refine signs_vals z _ _ (by rw [Array.length_toList, Array.length_toList, hacc.1]) fun j v q => ?_
    obtain ⟨c, u, e1, e2⟩ := hacc.2 j v (by rw [← Array.getElem?_toList]; exact q)
    exact ⟨c, u, by rw [Array.getElem?_toList]; exact e1, e2⟩
  refine ⟨.ref s.heap.objs.size, _, I.laid (a := s.heap.objs.size) (o := .lst (signsV z)) (t' := tk) hk (Nat.le_refl _) ⟨?_, acc'.toList, c', hv, ?_⟩, rfl, q _ hn⟩
  · show (z.cps.toList.map _).length ≤ sizeLine
    rw [List.length_map, Array.length_toList]
    exact hl
  · simpa using hS
/-! ### where ways meet: what is wanted between -/
section
variable {X : Cx} {e : Expr} {te : TE} {tt : TT} {st : Stmt} {ts : TS}
def tMid (t : TE) : TE := fun σ H Q => ∃ Q0 : VK, t σ H Q0 ∧ ∀ x H1, Q0 x H1 → Q x H1
theorem pe_mid (h : PE X e te) : PE X e (tMid te) := by
  refine ⟨fun pins s σ H Q I hq => ?_⟩
  obtain ⟨Q0, h0, k⟩ := hq
  exact thn (h.run pins s σ H Q0 I h0) fun u s1 hu => by
    obtain ⟨v, H1, I1, r, q⟩ := hu
    exact ⟨v, H1, I1, r, k _ _ q⟩
def bMid (t : TT) : TT := fun σ H Q => ∃ Q0 : Bool → Hp → Prop, t σ H Q0 ∧ ∀ x H1, Q0 x H1 → Q x H1
theorem pt_mid (h : PT X e tt) : PT X e (bMid tt) := by
  refine ⟨fun pins s σ H Q I hq => ?_⟩
  obtain ⟨Q0, h0, k⟩ := hq
  exact thn (h.run pins s σ H Q0 I h0) fun u s1 hu => by
    obtain ⟨H1, I1, q⟩ := hu
    exact ⟨H1, I1, k _ _ q⟩
def sMid (t : TS) : TS := fun D σ H => ∃ M : L2.St → Hp → Prop, t { D with nx := M } σ H ∧ ∀ σ' H', M σ' H' → D.nx σ' H'
theorem ps_mid (h : PS X st ts) : PS X st (sMid ts) := by
  refine ⟨fun pins s σ H D I hq => ?_⟩
  obtain ⟨M, h0, k⟩ := hq
  refine thn (h.run pins s σ H _ I h0) fun f s1 hf => ?_
  cases f with
  | next =>
    obtain ⟨σ', H', I', q⟩ := hf
    exact ⟨σ', H', I', k _ _ q⟩
  | ret v => exact hf
  | brk => exact hf
  | cont => exact hf
end
theorem same_keep {H0 H H' : Hp} {b : Addr} (s : Same H0 H) (n : H0 b = none) (k : Keep b H H') : Same H0 H' := fun a o z =>
  k a o (ne_of_none z n) (s a o z)
/-! ### lists of truth values, compared -/
theorem dp_bools {K : Fg} {H : Hp} {p : Addr} {bs : List Bool} (h : H p = some (.lst (bs.map V.bl))) : Dp K H (.ref p) (.list (bs.map PyData.bool)) := by
  refine .lst (SqL.of h) ?_
  clear h
  induction bs with
  | nil => exact .nil
  | cons b bs ih => exact .cons (.bl b) ih
theorem can_bools (bs : List Bool) : PyData.canLay0 (.list (bs.map PyData.bool)) = true := by
  rw [PyData.canLay0]
  induction bs with
  | nil => rfl
  | cons b bs ih =>
    rw [List.map_cons, PyData.canLayAll0, PyData.canLay0, ih]
    rfl
theorem depth_bools (bs : List Bool) : PyData.depthAll (bs.map PyData.bool) ≤ 1 := by
  induction bs with
  | nil => simp [PyData.depthAll]
  | cons b bs ih => simp only [List.map_cons, PyData.depthAll, PyData.depth]; omega
theorem shaped_bools (bs : List Bool) : SeqAt.shaped (.list (bs.map PyData.bool)) = true := by
  unfold SeqAt.shaped
  rw [can_bools, Bool.true_and]
  refine decide_eq_true ?_
  have q := depth_bools bs
  rw [PyData.depth]
  omega
/-- two lists of the same truth values are not unlike -/
theorem ne_bools {K : Fg} {H : Hp} {p q : Addr} {bs : List Bool} {Q : VK} (h1 : H p = some (.lst (bs.map V.bl))) (h2 : H q = some (.lst (bs.map V.bl))) (k : Q (.bl false) H) :
    rNeD K (.ref p) (.ref q) H Q := by
  refine ⟨_, _, dp_bools h1, dp_bools h2, shaped_bools bs, shaped_bools bs, ?_⟩
  rw [SeqAt.eqv_refl _ (can_bools bs)]
  exact k
end EV

/-! rules for objects of own classes: methods by one word, own __contains__, __len__, __str__, cls(..), own errors raised -/
namespace EV
open PySem PySem.Spec PyProof.Rows L2
/-- a def that may raise -/
structure OkX (P : Program) (w : World) (K : Fg) (mg : Str → Option Value) (base : Heap) (k : Nat) (x : Str) (ps : List Str) (sp : Sp) : Prop where
  ex : ∃ (f : Addr) (fd : FuncData), FnOk P w K mg base (L2.CX P w) k f fd ps sp ∧ mg x = some (.ref f) ∧ PySem.W.keepIn K (.ref f) = true ∧ Binds K fd ps []
/-- a method of the class at C (cx: what leaves it) -/
structure OkM (cx : CXT) (P : Program) (w : World) (K : Fg) (mg : Str → Option Value) (base : Heap) (k : Nat) (C : Addr) (m : Str) (ps : List Str) (sp : Sp) : Prop where
  ex : ∃ (f : Addr) (fd : FuncData), FnOk P w K mg base cx k f fd ps sp ∧ Meth K C m f ∧ Binds K fd ps []
/-- the class at C, made by its own __init__ -/
structure OkI (P : Program) (w : World) (K : Fg) (mg : Str → Option Value) (base : Heap) (k : Nat) (x : Str) (C : Addr) (ps : List Str) (sp : Sp) : Prop where
  nm : mg x = some (.ref C)
  ex : ∃ (f : Addr) (fd : FuncData), FnOk P w K mg base CX0 k f fd ps sp ∧ Mk K C f ∧ Binds K fd ps []
/-- a classmethod of the class at C -/
structure OkCM (P : Program) (w : World) (K : Fg) (mg : Str → Option Value) (base : Heap) (k : Nat) (C : Addr) (m : Str) (ps : List Str) (sp : Sp) : Prop where
  ex : ∃ (p g : Addr) (fd : FuncData) (mc : Value), FnOk P w K mg base (L2.CX P w) k g fd ps sp ∧ ClX.CRead K C mc ∧ ClX.CMet K C mc m p g ∧ Binds K fd ps []
section
variable {X : Cx} {e o : Expr} {es : List Expr} {t : TA} {ta : TE} {x m : Str} {p pos apos : Pos} {k : Nat} {ps : List Str} {sp : Sp} {C : Addr} {W : WX}
/-! ### calls whose error is taken by W -/
theorem pe_callX (tk : Takes X W) (O : OkX X.prog X.w X.K X.mg X.base k x ps sp) (hr : Room k X.A) (ha : PA X (e :: es) t) (hg : Gl X x := by rfl)
    (hdb : (x == ("__debug__" : Str)) = false := by decide) (he : starEach (e :: es) X.env = (false, eval e X.env) :: starEach es X.env := by rfl)
    (hpl : (backTo pos (starEach es X.env)).any (·.1) = false := by rfl) : PE X (.Call (.Name x p) (e :: es) [] pos) (tCallS sp (WE W) t) := by
  obtain ⟨f, fd, G, m, kp, b⟩ := O.ex
  exact pe_callS G hr hg m kp b (fun σ => passAt tk σ) ha hdb he hpl
def tMethS (C : Addr) (m : Str) (sp : Sp) (E : L2.St → XK) (ta : TE) (t : TA) : TE := fun σ H Q => ta σ H fun x H1 => ∃ a dx fs, x = .ref a ∧ H1 a = some (.ins C dx fs) ∧ fs.lookup m = none ∧ t σ H1 fun vs H2 => sp (x :: vs) H2 Q (E σ)
theorem pe_methX {pl : Sem Bool} (tk : Takes X W) (he : PE X o ta) (c : Cls X.K C) (O : OkM (L2.CX X.prog X.w) X.prog X.w X.K X.mg X.base k C m ps sp) (hr : Room k X.A) (ha : PA X (e :: es) t)
    (hst : starEach (e :: es) X.env = (false, eval e X.env) :: starEach es X.env := by rfl) (hpl : (backTo pos (starEach es X.env)).any (·.1) = false := by rfl)
    (ht : eval (.Call (.Attribute o m apos) (e :: es) [] pos) X.env = (do
      let ov ← eval o X.env
      standAt apos.atName
      let (f, first) ← holding [ov] (getMethod ov m pl)
      callWith pos f first (backTo pos (starEach (e :: es) X.env)) (backToKw pos (keywordEach [] X.env))) := by rfl) :
    PE X (.Call (.Attribute o m apos) (e :: es) [] pos) (tMethS C m sp (WE W) ta t) := by
  obtain ⟨f, fd, F, hm, hb⟩ := O.ex
  refine ⟨fun pins s σ H Q I h => ?_⟩
  refine PySem.W.methodCall_KW (pl := pl) (thn (he.run pins s σ H _ I h) fun u s1 ⟨x, H1, I1, rx, a, dx, fs, ex, ea, l, q⟩ => ?_) ht
  subst ex
  obtain rfl : u = Value.ref a := rx
  refine getmeth_ok I1 ea c hm l ?_
  refine PySem.W.callWith_K (first := [.ref a]) (h₀ := X.base) I.ok.mod.kin hm.kp (thn (ha.run pos pins s1 σ H1 _ I1 q) fun us s2 ⟨vs, H2, I2, r, q2⟩ => ⟨I2.kIn, ?_⟩) hst hpl
  exact run_fnS (us := .ref a :: us) (vs := .ref a :: vs) (E := WE W) F hr hb (passAt tk σ) I2 (.cons rfl r) q2
theorem pe_methO {pl : Sem Bool} (he : PE X o ta) (c : Cls X.K C) (O : OkM CX0 X.prog X.w X.K X.mg X.base k C m ps sp) (hr : Room k X.A) (ha : PA X (e :: es) t)
    (hst : starEach (e :: es) X.env = (false, eval e X.env) :: starEach es X.env := by rfl) (hpl : (backTo pos (starEach es X.env)).any (·.1) = false := by rfl)
    (ht : eval (.Call (.Attribute o m apos) (e :: es) [] pos) X.env = (do
      let ov ← eval o X.env
      standAt apos.atName
      let (f, first) ← holding [ov] (getMethod ov m pl)
      callWith pos f first (backTo pos (starEach (e :: es) X.env)) (backToKw pos (keywordEach [] X.env))) := by rfl) :
    PE X (.Call (.Attribute o m apos) (e :: es) [] pos) (tMeth C m sp [] E0 ta t) := by
  obtain ⟨f, fd, F, hm, hb⟩ := O.ex
  exact pe_meth he c hm F hr hb .nil pass0 ha hst hpl ht
theorem pe_methO0 {pl : Sem Bool} (he : PE X o ta) (c : Cls X.K C) (O : OkM CX0 X.prog X.w X.K X.mg X.base k C m ps sp) (hr : Room k X.A)
    (ht : eval (.Call (.Attribute o m apos) [] [] pos) X.env = (do
      let ov ← eval o X.env
      standAt apos.atName
      let (f, first) ← holding [ov] (getMethod ov m pl)
      callWith pos f first (backTo pos (starEach [] X.env)) (backToKw pos (keywordEach [] X.env))) := by rfl) :
    PE X (.Call (.Attribute o m apos) [] [] pos) (tMeth C m sp [] E0 ta tNil) := by
  obtain ⟨f, fd, F, hm, hb⟩ := O.ex
  exact pe_meth0 he c hm F hr hb .nil pass0 ht
/-- C(e, ..), the class by its name -/
theorem pe_makeO (O : OkI X.prog X.w X.K X.mg X.base k x C ps sp) (hr : Room (k + 1) X.A) (ha : PA X (e :: es) t) (hg : Gl X x := by rfl)
    (hdb : (x == ("__debug__" : Str)) = false := by decide) (he : starEach (e :: es) X.env = (false, eval e X.env) :: starEach es X.env := by rfl)
    (hpl : (backTo pos (starEach es X.env)).any (·.1) = false := by rfl) : PE X (.Call (.Name x p) (e :: es) [] pos) (tMake C sp [] E0 t) := by
  obtain ⟨f, fd, F, M, b⟩ := O.ex
  exact pe_make M F hr hg O.nm b .nil pass0 ha hdb he hpl
/-- cls(e, ..), the class in a slot -/
def tMakeV (C : Addr) (sp : Sp) (tf : TE) (t : TA) : TE := fun σ H Q => tf σ H fun c H1 => c = .ref C ∧ tMake C sp [] E0 t σ H1 Q
theorem pe_makeV {y : Str} (O : OkI X.prog X.w X.K X.mg X.base k y C ps sp) (hr : Room (k + 1) X.A) (hf : PE X (.Name x p) ta) (ha : PA X (e :: es) t)
    (he : starEach (e :: es) X.env = (false, eval e X.env) :: starEach es X.env := by rfl)
    (hpl : (backTo pos (starEach es X.env)).any (·.1) = false := by rfl) : PE X (.Call (.Name x p) (e :: es) [] pos) (tMakeV C sp ta t) := by
  obtain ⟨f, fd, F, M, b⟩ := O.ex
  refine ⟨fun pins s σ H Q I h => ?_⟩
  refine wpAny_Call_Name_kw (thn (hf.run pins s σ H _ I h) fun u s1 ⟨c, H1, I1, rc, ec, q1⟩ => ?_)
  subst ec
  obtain rfl : u = Value.ref C := rc
  refine PySem.W.callWith_K (h₀ := X.base) I.ok.mod.kin M.kp (thn (ha.run pos pins s1 σ H1 _ I1 q1) fun us s2 ⟨vs, H2, I2, r, q⟩ => ⟨I2.kIn, ?_⟩) he hpl
  exact run_make M F hr b .nil pass0 I2 r q
/-! ### x in o, len(o), str(o) -/
theorem ins_inst {pins : List (Addr × Obj)} {σ : L2.St} {H : Hp} {s : Shared} {a dx : Addr} {fs : List (Str × V)} (I : Inv X pins σ H s) (ea : H a = some (.ins C dx fs)) : ∃ ox od, PySem.W.InstAt s.heap a ox C (some od) := by
  obtain ⟨mA, O, _, _, _, _⟩ := ins_get I.hok ea
  obtain ⟨od, J, _⟩ := O.look
  exact ⟨_, od, J⟩
def rInOwn (C : Addr) (sp : Sp) (neg : Bool) : R2 := fun x y H Q => ∃ a dx fs, y = .ref a ∧ H a = some (.ins C dx fs) ∧ sp [.ref a, x] H (fun v H2 => ∃ b : Bool, v = .bl b ∧ Q (.bl (if neg then !b else b)) H2) E0
theorem op_inO (O : OkM CX0 X.prog X.w X.K X.mg X.base k C "__contains__" ps sp) (hr : Room k X.A) : OpR X (compareOp .In) (rInOwn C sp false) := by
  intro pins s σ H x y v u Q I rx ry h
  obtain ⟨a, dx, fs, rfl, ea, q⟩ := h
  obtain rfl : u = Value.ref a := ry
  obtain ⟨f, fd, F, hm, hb⟩ := O.ex
  obtain ⟨ox, od, J⟩ := ins_inst I ea
  obtain ⟨m, fr⟩ := I.fr
  refine PySem.W.in_K fr I.ok.mod.kin J hm.at_ hm.fn ?_
  refine thn (run_fn (us := [.ref a, v]) (vs := [.ref a, x]) (dvs := []) F hr hb .nil pass0 I (.cons rfl (.cons rx .nil)) q) fun r s1 hh => ?_
  obtain ⟨z, H2, I2, rz, b, ez, q2⟩ := hh
  subst ez
  obtain rfl : r = Value.bool b := rz
  exact wpAny_truthy_bool ⟨.bl b, H2, I2, rfl, q2⟩
theorem op_notInO (O : OkM CX0 X.prog X.w X.K X.mg X.base k C "__contains__" ps sp) (hr : Room k X.A) : OpR X (compareOp .NotIn) (rInOwn C sp true) := by
  intro pins s σ H x y v u Q I rx ry h
  obtain ⟨a, dx, fs, rfl, ea, q⟩ := h
  obtain rfl : u = Value.ref a := ry
  obtain ⟨f, fd, F, hm, hb⟩ := O.ex
  obtain ⟨ox, od, J⟩ := ins_inst I ea
  obtain ⟨m, fr⟩ := I.fr
  refine PySem.W.notIn_K fr I.ok.mod.kin J hm.at_ hm.fn ?_
  refine thn (run_fn (us := [.ref a, v]) (vs := [.ref a, x]) (dvs := []) F hr hb .nil pass0 I (.cons rfl (.cons rx .nil)) q) fun r s1 hh => ?_
  obtain ⟨z, H2, I2, rz, b, ez, q2⟩ := hh
  subst ez
  obtain rfl : r = Value.bool b := rz
  exact wpAny_truthy_bool ⟨.bl (!b), H2, I2, rfl, q2⟩
/-- a def, run where a builtin runs -/
theorem run_in {A : Around} {Q : Value → Shared → Prop} {E : Value → Shared → Prop} {f : Addr} {fd : FuncData} {ps : List Str} {sp : Sp} {pins : List (Addr × Obj)} {σ : L2.St} {H : Hp} {s : Shared} {us : List Value} {vs : List V} {QV : VK}
    (F : FnOk X.prog X.w X.K X.mg X.base CX0 k f fd ps sp) (hr : Room k A) (hf : A.frames = X.A.frames) (hb : Binds X.K fd ps []) (I : Inv X pins σ H s) (r : Vals vs us) (h : sp vs H QV E0)
    (hQ : ∀ v s', EP X pins σ QV v s' → Q v s') : wpAny (model X.prog X.w) A (call (.ref f) us) Q E s := by
  have hl : us.length = ps.length := by rw [← r.length]; exact F.len _ _ _ _ h
  have b := hb s us I.kIn (by rw [List.append_nil]; exact hl)
  rw [List.append_nil] at b
  have e0 := I.env0
  refine wpAny_call (codeAny_mono (F.run A X.stack s H ⟨us, []⟩ us vs QV E0 hr { e0 with frames := hf.trans e0.frames } b r h) fun z s' hq => ?_)
  cases z with
  | error er => exact False.elim hq
  | ok fl =>
    cases fl with
    | ret u => exact hQ _ _ (I.after hq)
    | next => exact False.elim hq
    | brk => exact False.elim hq
    | cont => exact False.elim hq
theorem call_lenO (O : OkM CX0 X.prog X.w X.K X.mg X.base k C "__len__" ps sp) (hr : Room (k + 1) X.A) : CallR X (.builtin "len") (fun xs H Q => ∃ a dx fs, xs = [.ref a] ∧ H a = some (.ins C dx fs) ∧
    sp [.ref a] H (fun v H2 => ∃ n : Int, v = .int n ∧ 0 ≤ n ∧ n < 2 ^ 63 ∧ Q (.int n) H2) E0) := by
  intro pins s σ H xs us Q I r h
  obtain ⟨a, dx, fs, rfl, ea, q⟩ := h
  obtain ⟨u, rfl, ru⟩ := vals1 r
  obtain rfl : u = Value.ref a := ru
  obtain ⟨f, fd, F, hm, hb⟩ := O.ex
  obtain ⟨ox, od, J⟩ := ins_inst I ea
  obtain ⟨m, fr⟩ := I.fr
  refine PySem.W.len_K fr I.ok.mod.kin J hm.at_ hm.fn (run_in (vs := [.ref a]) F hr.in1 rfl hb I (.cons rfl .nil) q fun v s' hh => ?_)
  obtain ⟨z, H2, I2, rz, n, ez, n0, n1, q2⟩ := hh
  subst ez
  obtain ⟨t, rfl⟩ := rz
  exact ⟨⟨n0, n1⟩, ⟨.int n, H2, I2.tok _, ⟨_, rfl⟩, q2⟩⟩
theorem call_strO (O : OkM CX0 X.prog X.w X.K X.mg X.base k C "__str__" ps sp) (hr : Room (k + 2) X.A) : CallR X (.type "str") (fun xs H Q => ∃ a dx fs, xs = [.ref a] ∧ H a = some (.ins C dx fs) ∧
    sp [.ref a] H (fun v H2 => ∃ z : Str, v = .str z ∧ Q (.str z) H2) E0) := by
  intro pins s σ H xs us Q I r h
  obtain ⟨a, dx, fs, rfl, ea, q⟩ := h
  obtain ⟨u, rfl, ru⟩ := vals1 r
  obtain rfl : u = Value.ref a := ru
  obtain ⟨f, fd, F, hm, hb⟩ := O.ex
  obtain ⟨ox, od, J⟩ := ins_inst I ea
  have h2 : Room k X.A.in1.in1 := (Room.in1 (k := k + 1) hr).in1
  refine PySem.W.kso_call (h2.units0) I.kIn J hm.at_ hm.fn (run_in (vs := [.ref a]) F h2 rfl hb I (.cons rfl .nil) q fun v s' hh => ?_)
  obtain ⟨z, H2, I2, rz, y, ez, q2⟩ := hh
  subst ez
  obtain ⟨t, rfl⟩ := rz
  exact ⟨.str y, H2, I2, ⟨_, rfl⟩, q2⟩
/-! ### a == b, both of the class at C, by C's own __eq__ -/
def rEqO (C : Addr) (sp : Sp) : R2 := fun x y H Q => ∃ a b dx dy fs gs, x = .ref a ∧ y = .ref b ∧ H a = some (.ins C dx fs) ∧ H b = some (.ins C dy gs) ∧
  sp [.ref a, .ref b] H (fun v H2 => ∃ c : Bool, v = .bl c ∧ Q (.bl c) H2) E0
theorem op_eqO (O : OkM CX0 X.prog X.w X.K X.mg X.base k C "__eq__" ps sp) (hr : Room k X.A) : OpR X (compareOp .Eq) (rEqO C sp) := by
  intro pins s σ H x y v u Q I rx ry h
  obtain ⟨a, b, dx, dy, fs, gs, rfl, rfl, ea, eb, q⟩ := h
  obtain rfl : v = Value.ref a := rx
  obtain rfl : u = Value.ref b := ry
  obtain ⟨f, fd, F, hm, hb⟩ := O.ex
  obtain ⟨ox, od, J⟩ := ins_inst I ea
  obtain ⟨oy, od', J'⟩ := ins_inst I eb
  obtain ⟨m, fr⟩ := I.fr
  show wpAny (model X.prog X.w) X.A (richCompare .Eq (.ref a) (.ref b)) (EP X pins σ Q) X.xe s
  refine PySem.W.cmp_K (op := .Eq) (tb := .ref C) hr.units0 fr I.ok.mod.kin J J'.type (by simp [PySem.W.notFirst]) hm.at_ hm.fn ?_
  refine thn (run_fn (us := [.ref a, .ref b]) (vs := [.ref a, .ref b]) (dvs := []) F hr hb .nil pass0 I (.cons rfl (.cons rfl .nil)) q) fun r s1 hh => ?_
  obtain ⟨z, H2, I2, rz, c, ez, q2⟩ := hh
  subst ez
  obtain rfl : r = Value.bool c := rz
  exact ⟨.bl c, H2, I2, rfl, q2⟩
/-! ### C.m(..), m a classmethod that may raise -/
theorem pe_cmethX {pl : Sem Bool} (tk : Takes X W) (he : PE X o ta) (O : OkCM X.prog X.w X.K X.mg X.base k C m ps sp) (hr : Room k X.A) (ha : PA X (e :: es) t)
    (hst : starEach (e :: es) X.env = (false, eval e X.env) :: starEach es X.env := by rfl) (hpl : (backTo pos (starEach es X.env)).any (·.1) = false := by rfl)
    (ht : eval (.Call (.Attribute o m apos) (e :: es) [] pos) X.env = (do
      let ov ← eval o X.env
      standAt apos.atName
      let (f, first) ← holding [ov] (getMethod ov m pl)
      callWith pos f first (backTo pos (starEach (e :: es) X.env)) (backToKw pos (keywordEach [] X.env))) := by rfl) :
    PE X (.Call (.Attribute o m apos) (e :: es) [] pos) (fun σ H Q => ta σ H fun x H1 => x = .ref C ∧ t σ H1 fun vs H2 => sp (.ref C :: vs) H2 Q (WE W σ)) := by
  obtain ⟨p, g, fd, mc, F, r, c, hb⟩ := O.ex
  refine ⟨fun pins s σ H Q I h => ?_⟩
  refine PySem.W.methodCall_KW (pl := pl) (thn (he.run pins s σ H _ I h) fun u s1 ⟨x, H1, I1, rx, ex, q⟩ => ?_) ht
  subst ex
  obtain rfl : u = Value.ref C := rx
  refine ClX.getmethcm_ok I1 r c fun s2 I2 => ?_
  refine ClX.callwith_cm I2 (ClX.base_none I1 (Nat.le_refl _)) c.fi (thn (ha.run pos _ s2 σ H1 _ I2 q) fun us s3 ⟨vs, H2, I3, rv, q2⟩ => ⟨⟨ClX.pin_at I3, I3.kIn⟩, ?_⟩) hst hpl
  have hl : (Value.ref C :: us).length = ps.length := by
    have z : Vals (V.ref C :: vs) (Value.ref C :: us) := .cons rfl rv
    rw [← z.length]
    exact F.len _ _ _ _ q2
  have bb := hb s3 (.ref C :: us) I3.kIn (by rw [List.append_nil]; exact hl)
  rw [List.append_nil] at bb
  refine thn (Q := EP X ((s1.heap.objs.size, PySem.W.methodObj (.ref g) (.ref C)) :: pins) σ Q) (wpAny_call (PySem.W.method_call (ClX.pin_at I3) (codeAny_mono (F.run X.A X.stack s3 H2 ⟨.ref C :: us, []⟩ (.ref C :: us) (.ref C :: vs) Q (WE W σ) hr I3.env0 bb (.cons rfl rv) q2) fun z s' hq => ?_))) fun _ _ y => ClX.unpinE y
  cases z with
  | error er => exact passAt tk σ _ _ _ _ _ I3 hq
  | ok fl =>
    cases fl with
    | ret u => exact I3.after hq
    | next => exact False.elim hq
    | brk => exact False.elim hq
    | cont => exact False.elim hq
/-! ### raise C(e, ..), C an own error with its own __init__ -/
theorem pmk_x {C : Addr} (O : OkC X.prog X.w X.K X.mg X.base k x C ps sp) (ty : PySem.W.typeIn X.K (.ref C) = some (.type "type")) (hr : Room (k + 1) X.A) (ha : PA X (e :: es) t) (hg : Gl X x := by rfl)
    (hdb : (x == ("__debug__" : Str)) = false := by decide) (he : starEach (e :: es) X.env = (false, eval e X.env) :: starEach es X.env := by rfl)
    (hpl : (backTo pos (starEach es X.env)).any (·.1) = false := by rfl) : PMk X (.Call (.Name x p) (e :: es) [] pos) (tMkO C sp [] t) := by
  obtain ⟨fI, fd, F1, iC, tI, hb⟩ := O.ex
  intro pins s σ H Q I h
  obtain ⟨B, nI, iI, bmB, FB, SF, q1, q2⟩ := O.cl.base
  refine wpAny_Call_Name_kw (ld_glob I hg O.nm ?_ hdb)
  refine PySem.W.callWith_K (h₀ := X.base) I.ok.mod.kin O.cl.kC (thn (ha.run pos pins s σ H _ I h) fun us s1 hu => ?_) he hpl
  obtain ⟨vs, H1, I1, r1, hz, q⟩ := hu
  refine ⟨I1.kIn, ?_⟩
  show wpAny _ _ (call (.ref C) us) _ _ _
  obtain ⟨nm, N', qn, bs, bm, hdct, sn, sub, ab, col, dd, k0, k1, k2, k3, k5, hC, hT⟩ := PySem.W.excInit_of I1.kIn q1
  obtain ⟨oI, hoI, hcI⟩ : ∃ oI, s1.heap.get? fI = some oI ∧ oI.cls = .type "function" := by
    obtain ⟨o, z1, z2⟩ := Option.map_eq_some_iff.mp (show (X.K.lookup fI).map (·.cls) = some (.type "function") from beq_iff_eq.mp tI)
    exact ⟨o, I1.kIn _ _ z1, z2⟩
  obtain ⟨hp, g, dr, tk, os⟩ := s1
  have hsz : hp.objs.size ≤ hp.objs.size + 1 := Nat.le_succ _
  have hq := q (hp.objs.size + 1) (I1.hok.fresh hsz)
  rw [List.append_nil] at hq
  have kk : ∀ b o, hp.get? b = some o → ((hp.push (PySem.W.kdv_tup us)).push (PySem.HandSPX.excO C hp.objs.size)).get? b = some o :=
    fun b o z => Heap.get?_push_of_some _ (Heap.get?_push_of_some _ z)
  have hget : ((hp.push (PySem.W.kdv_tup us)).push (PySem.HandSPX.excO C hp.objs.size)).get? (hp.objs.size + 1) = some (PySem.HandSPX.excO C hp.objs.size) := by heap_get
  have I2 := I1.laid (t' := tk) (a := hp.objs.size + 1) (o := exo (hp.objs.size + 1) C none)
    (h' := (hp.push (PySem.W.kdv_tup us)).push (PySem.HandSPX.excO C hp.objs.size)) kk hsz (exo_ok hget)
  have r2 : Vals (V.ref (hp.objs.size + 1) :: vs) (Value.ref (hp.objs.size + 1) :: us) := .cons rfl r1
  have hl : (Value.ref (hp.objs.size + 1) :: us ++ []).length = ps.length := by
    have z := r2.length
    rw [F1.len _ _ _ _ hq] at z
    rw [List.append_nil]
    exact z.symm
  have bb := hb _ (Value.ref (hp.objs.size + 1) :: us) I2.kIn hl
  rw [List.append_nil] at bb
  have hus : us.length ≤ sizeLine := by
    rw [← Paired.length r1, sizeLine_eq]
    omega
  refine wpAny_call (PySem.HandSPX.call_own FB hT hC (PySem.W.looks_findIn I1.kIn iC) (fun self => PySem.W.exc_bind hoI hcI self) hus
    (codeAny_mono (F1.run _ X.stack _ _ ⟨Value.ref (hp.objs.size + 1) :: us, []⟩ (Value.ref (hp.objs.size + 1) :: us) _ _ (fun _ _ _ => False)
      (hr.make C us []) (I2.env0.make C us []) bb r2 hq) fun r s' hq' => ?_))
  cases r with
  | error er => exact False.elim hq'
  | ok fl =>
    cases fl with
    | ret u =>
      obtain ⟨v, H2, os2, bare2, un2, hok2, rv, ev, d, fs, ea, ed, hd1, q2⟩ := hq'
      subst ev
      obtain ⟨h2, g2, d2, t2, os'⟩ := s'
      exact ⟨rv, mk_end (raises_own O.cl.ex.hs ty) I1 hsz kk un2 hok2 os2 bare2 ea ed hd1 q2⟩
    | next => exact False.elim hq'
    | brk => exact False.elim hq'
    | cont => exact False.elim hq'
/-- a global by its name, its value known up to the token -/
theorem pe_gv {v : V} {x : Str} {pos : Pos} (h : ∃ u, X.mg x = some u ∧ RelV v u) (hg : Gl X x := by rfl) (hd : (x == ("__debug__" : Str)) = false := by decide) : PE X (.Name x pos) (tC v) := by
  obtain ⟨u, hm, r⟩ := h
  exact pe_glob hg hm r hd
/-- isinstance(e, c), e the error that the suite holds -/
theorem call_isEX {a D : Addr} {oe : Obj} {cls : Value} {d : Option Addr} {pn : List (Addr × Obj)} (T : ExcC X.K D) (hz : Zc cls d oe) (hf : ∃ vs, oe.data = .fields vs) : CallR (X.suite a ((a, oe) :: pn)) (.builtin "isinstance")
    (fun xs H Q => ∃ (c : V) (cv : Value) (b : Bool) (dd : Addr) (fs : List (Str × V)), xs = [.ref a, c] ∧ cls = .ref D ∧ d = some dd ∧ H dd = some (.xd fs) ∧ (∀ u, RelV c u → u = cv) ∧ PySem.W.kitOne X.K (.ref D) cv = some b ∧ Q (.bl b) H) := by
  intro pins s σ H xs us Q I r h
  obtain ⟨c, cv, b, dd, fs, rfl, ec, edd, ed, hcv, e, q⟩ := h
  obtain ⟨u1, u2, rfl, r1, r2⟩ := vals2 r
  obtain rfl : u1 = Value.ref a := r1
  have e2 := hcv _ r2
  subst e2
  subst ec
  subst edd
  obtain ⟨ha, _⟩ := I.pin (a, oe) (List.mem_append_left _ List.mem_cons_self)
  obtain ⟨vs, hd⟩ := hf
  have hx : ObjOk X.prog X.w H s.heap dd (.xd fs) := I.hok dd _ ed
  obtain ⟨mA, hns, hr⟩ := hx
  obtain ⟨od, ho, hl⟩ := lookIn_ns hns
  have J : PySem.W.InstAt s.heap a oe D (some od) := ⟨ha, hz.1, by unfold PySem.W.notCls; rw [hd] <;> rfl, by rw [hz.2]; exact ho⟩
  exact PySem.W.kia_one (PySem.W.kitx_exc (by obtain ⟨cd, hc, _⟩ := PySem.W.any_some T.hd; rw [hc]; rfl) T.hg T.hk T.hs T.ha T.hn T.ht T.hm) I.kIn J e (fun z => nomatch z)
    fun tk => ⟨.bl b, H, I.kept (t' := tk) fun _ _ z => z, rfl, q⟩
/-! ### static methods -/
/-- C.m is a static method: its record at p, its def at f -/
structure SM (K : Fg) (C : Addr) (m : Str) (f : Addr) : Prop where
  ex : ∃ (mc : Value) (p : Addr) (rest : List Value), ClX.CRead K C mc ∧ PySem.W.findCls K (.ref C) mc m = some (.get (.builtin "staticmethod.__get__") (.ref p) .none (.ref C)) ∧
    PySem.W.recIn K p "staticmethod" = some (.ref f :: rest)
  kp : PySem.W.keepIn K (.ref f) = true
/-- .. reached through an instance -/
structure SMI (K : Fg) (C : Addr) (m : Str) (f : Addr) : Prop where
  pg : PySem.W.plainGet K C Str.empty = true
  ic : PySem.W.isClsIn K C = true
  cp : PySem.W.copiedNames.contains m = false
  ex : ∃ (p : Addr) (rest : List Value), PySem.W.findIn K (.ref C) m = some (some (.ref p)) ∧ PySem.W.typeIn K (.ref p) = some (.type "staticmethod") ∧
    PySem.W.specialIn K (.ref p) "__get__" = some (some (.builtin "staticmethod.__get__")) ∧ PySem.W.takesIn K (.ref p) = some false ∧ PySem.W.recIn K p "staticmethod" = some (.ref f :: rest)
  kp : PySem.W.keepIn K (.ref f) = true
theorem SMI.get' {K : Fg} {C f : Addr} {m : Str} (k : SMI K C m f) : PySem.W.plainGet K C m = true := k.pg
section
variable {X : Cx} {e o : Expr} {es : List Expr} {t tk : TA} {ta : TE} {x m : Str} {p pos apos : Pos} {k : Nat} {ps ks : List Str} {sp : Sp} {C f : Addr} {fd : FuncData} {kws : List Keyword} {ds : List Value} {dvs : List V}
  {g : List Value → List Value → List Value} {gV : List V → List V → List V} {pins : List (Addr × Obj)} {σ : L2.St} {H : Hp} {s : Shared}
theorem getsm_ok {pl : Sem Bool} {A : Around} {E : Value → Shared → Prop} {Q : Value × List Value → Shared → Prop} (I : Inv X pins σ H s) (S : SM X.K C m f) (h : ∀ s', Inv X pins σ H s' → Q (.ref f, []) s') :
    wpAny (model X.prog X.w) A (getMethod (.ref C) m pl) Q E s := by
  obtain ⟨mc, q, rest, r, at_, rc⟩ := S.ex
  refine PySem.W.method_cls I.kIn r.ga (PySem.W.cls_bind I.kIn r.rd at_ ?_)
  exact wpAny_call (PySem.W.sm_get (s := { s with toks := s.toks + 1 }) I.kIn rc (PySem.W.handed_on rfl (h _ (I.tok _))))
theorem getsmi_ok {pl : Sem Bool} {A : Around} {E : Value → Shared → Prop} {Q : Value × List Value → Shared → Prop} {a dx : Addr} {fs : List (Str × V)} (I : Inv X pins σ H s) (S : SMI X.K C m f) (ea : H a = some (.ins C dx fs)) (l : fs.lookup m = none)
    (h : ∀ s', Inv X pins σ H s' → Q (.ref f, []) s') : wpAny (model X.prog X.w) A (getMethod (.ref a) m pl) Q E s := by
  obtain ⟨q, rest, at_, ty, get, tk, rc⟩ := S.ex
  obtain ⟨mA, O, rr, _, _, _⟩ := ins_get I.hok ea
  have hn : mA m = none := RelO.none_of (by rw [← l]; exact rr m)
  obtain ⟨od, J, hl⟩ := O.look
  refine PySem.W.method_usual (r := some (.ref q)) I.kIn J (PySem.W.plainGet_of S.get').1 (PySem.W.plainGet_of S.get').2 at_ ?_ ?_
  · show ((PySem.W.typeIn X.K (.ref q)).any fun t => t != .type "function" && t != .type "method_descriptor" && t != .type "wrapper_descriptor") = true
    rw [ty]
    first
    | rfl
    | decide +kernel
  · refine PySem.W.get_bind I.kIn J (PySem.W.plainGet_of S.get').1 (ClX.find_cm S.ic at_ get tk S.cp (by rw [hl m, hn])) (PySem.W.plainGet_of S.get').2 ?_
    exact wpAny_call (PySem.W.sm_get (s := { s with toks := s.toks + 1 }) I.kIn rc (PySem.W.handed_on rfl (h _ (I.tok _))))
/-- C.m(e, ..), the lacking ones by their defaults -/
theorem pe_smeth {pl : Sem Bool} (he : PE X o ta) (S : SM X.K C m f) (F : FnOk X.prog X.w X.K X.mg X.base CX0 k f fd ps sp) (hr : Room k X.A) (hb : Binds X.K fd ps ds) (hd : Vals dvs ds) (ha : PA X (e :: es) t)
    (hst : starEach (e :: es) X.env = (false, eval e X.env) :: starEach es X.env := by rfl) (hpl : (backTo pos (starEach es X.env)).any (·.1) = false := by rfl)
    (ht : eval (.Call (.Attribute o m apos) (e :: es) [] pos) X.env = (do
      let ov ← eval o X.env
      standAt apos.atName
      let (f, first) ← holding [ov] (getMethod ov m pl)
      callWith pos f first (backTo pos (starEach (e :: es) X.env)) (backToKw pos (keywordEach [] X.env))) := by rfl) :
    PE X (.Call (.Attribute o m apos) (e :: es) [] pos) (fun σ H Q => ta σ H fun x H1 => x = .ref C ∧ t σ H1 fun vs H2 => sp (vs ++ dvs) H2 Q E0) := by
  refine ⟨fun pins s σ H Q I h => ?_⟩
  refine PySem.W.methodCall_KW (pl := pl) (thn (he.run pins s σ H _ I h) fun u s1 ⟨x, H1, I1, rx, ex, q⟩ => ?_) ht
  subst ex
  obtain rfl : u = Value.ref C := rx
  refine getsm_ok I1 S fun s2 I2 => ?_
  refine PySem.W.callWith_K (first := []) (h₀ := X.base) I.ok.mod.kin S.kp (thn (ha.run pos pins s2 σ H1 _ I2 q) fun us s3 ⟨vs, H2, I3, r, q2⟩ => ⟨I3.kIn, ?_⟩) hst hpl
  exact run_fn (us := us) (vs := vs) F hr hb hd pass0 I3 r q2
/-- C.m(e, .., k = v, ..) -/
theorem pe_smethK {pl : Sem Bool} (he : PE X o ta) (S : SM X.K C m f) (F : FnOk X.prog X.w X.K X.mg X.base CX0 k f fd ps sp) (hr : Room k X.A) (hb : KBinds X.K fd ps ks g gV) (ha : PA X (e :: es) t) (hkw : PK X kws tk)
    (hall : (backToKw pos (keywordEach kws X.env)).all (·.1.isSome) = true := by rfl) (hks : (backToKw pos (keywordEach kws X.env)).filterMap (·.1) = ks := by rfl)
    (hst : starEach (e :: es) X.env = (false, eval e X.env) :: starEach es X.env := by rfl)
    (hpl : ((backTo pos (starEach (e :: es) X.env)).any (·.1) || (backToKw pos (keywordEach kws X.env)).any (·.1.isNone)) = false := by rfl)
    (ht : eval (.Call (.Attribute o m apos) (e :: es) kws pos) X.env = (do
      let ov ← eval o X.env
      standAt apos.atName
      let (f, first) ← holding [ov] (getMethod ov m pl)
      callWith pos f first (backTo pos (starEach (e :: es) X.env)) (backToKw pos (keywordEach kws X.env))) := by rfl) :
    PE X (.Call (.Attribute o m apos) (e :: es) kws pos) (fun σ H Q => ta σ H fun x H1 => x = .ref C ∧ t σ H1 fun vs H2 => tk σ H2 fun zs H3 => sp (gV vs zs) H3 Q E0) := by
  refine ⟨fun pins s σ H Q I h => ?_⟩
  refine PySem.W.methodCall_KW (pl := pl) (thn (he.run pins s σ H _ I h) fun u s1 ⟨x, H1, I1, rx, ex, q⟩ => ?_) ht
  subst ex
  obtain rfl : u = Value.ref C := rx
  refine getsm_ok I1 S fun s2 I2 => ?_
  refine PySem.W.callWith_KW (first := []) (h₀ := X.base) I.ok.mod.kin S.kp hall (thn (ha.run pos pins s2 σ H1 _ I2 q) fun us s3 ⟨vs, H2, I3, r, q2⟩ => ?_) hpl hst
  refine thn (hkw.run pos pins s3 σ H2 _ I3 q2) fun ws s4 ⟨zs, H3, I4, rz, q3⟩ => ⟨I4.kIn, ?_⟩
  rw [hks]
  exact run_fnk F hr hb pass0 I4 r rz q3
/-- o.m(e, .., k = v, ..), o an instance of C -/
theorem pe_smethI {pl : Sem Bool} (he : PE X o ta) (S : SMI X.K C m f) (F : FnOk X.prog X.w X.K X.mg X.base CX0 k f fd ps sp) (hr : Room k X.A) (hb : KBinds X.K fd ps ks g gV) (ha : PA X (e :: es) t) (hkw : PK X kws tk)
    (hall : (backToKw pos (keywordEach kws X.env)).all (·.1.isSome) = true := by rfl) (hks : (backToKw pos (keywordEach kws X.env)).filterMap (·.1) = ks := by rfl)
    (hst : starEach (e :: es) X.env = (false, eval e X.env) :: starEach es X.env := by rfl)
    (hpl : ((backTo pos (starEach (e :: es) X.env)).any (·.1) || (backToKw pos (keywordEach kws X.env)).any (·.1.isNone)) = false := by rfl)
    (ht : eval (.Call (.Attribute o m apos) (e :: es) kws pos) X.env = (do
      let ov ← eval o X.env
      standAt apos.atName
      let (f, first) ← holding [ov] (getMethod ov m pl)
      callWith pos f first (backTo pos (starEach (e :: es) X.env)) (backToKw pos (keywordEach kws X.env))) := by rfl) :
    PE X (.Call (.Attribute o m apos) (e :: es) kws pos) (fun σ H Q => ta σ H fun x H1 => ∃ a dx fs, x = .ref a ∧ H1 a = some (.ins C dx fs) ∧ fs.lookup m = none ∧ t σ H1 fun vs H2 => tk σ H2 fun zs H3 => sp (gV vs zs) H3 Q E0) := by
  refine ⟨fun pins s σ H Q I h => ?_⟩
  refine PySem.W.methodCall_KW (pl := pl) (thn (he.run pins s σ H _ I h) fun u s1 ⟨x, H1, I1, rx, a, dx, fs, ex, ea, l, q⟩ => ?_) ht
  subst ex
  obtain rfl : u = Value.ref a := rx
  refine getsmi_ok I1 S ea l fun s2 I2 => ?_
  refine PySem.W.callWith_KW (first := []) (h₀ := X.base) I.ok.mod.kin S.kp hall (thn (ha.run pos pins s2 σ H1 _ I2 q) fun us s3 ⟨vs, H2, I3, r, q2⟩ => ?_) hpl hst
  refine thn (hkw.run pos pins s3 σ H2 _ I3 q2) fun ws s4 ⟨zs, H3, I4, rz, q3⟩ => ⟨I4.kIn, ?_⟩
  rw [hks]
  exact run_fnk F hr hb pass0 I4 r rz q3
end
end
end EV

/-! comprehensions that only make objects: what the new list holds -/
namespace EV
open PySem PySem.Spec PyProof.Rows L2
/-- what the first i turns leave in the new list -/
def gath (f : Nat → Option V) : Nat → List V
  | 0 => []
  | i + 1 => gath f i ++ (f i).toList
theorem gath_le (f : Nat → Option V) : ∀ i, (gath f i).length ≤ i
  | 0 => Nat.le_refl _
  | i + 1 => by
    have := gath_le f i
    show (gath f i ++ (f i).toList).length ≤ i + 1
    rw [List.length_append]
    have : (f i).toList.length ≤ 1 := by cases f i <;> simp
    omega
theorem gath_fm {α : Type} (xs : List α) (f : α → Option V) : ∀ i, i ≤ xs.length → gath (fun j : Nat => xs[j]?.bind f) i = (xs.take i).filterMap f
  | 0, _ => by rw [List.take_zero]; rfl
  | i + 1, h => by
    have hi : i < xs.length := h
    show gath _ i ++ (xs[i]?.bind f).toList = _
    rw [gath_fm xs f i (Nat.le_of_lt hi), List.take_succ, List.filterMap_append, List.getElem?_eq_getElem hi]
    cases e : f xs[i] <;> simp [e]
theorem gath_map {α : Type} (xs : List α) (f : α → V) {n : Nat} (hn : n = xs.length) : gath (fun j : Nat => xs[j]?.map f) n = xs.map f := by
  have e : (fun j : Nat => xs[j]?.map f) = fun j : Nat => xs[j]?.bind fun x => some (f x) := by
    funext j
    cases xs[j]? <;> rfl
  subst hn
  rw [e, gath_fm xs _ _ (Nat.le_refl _), List.take_length]
  induction xs with
  | nil => rfl
  | cons x xs ih => simp
theorem gath_filter {α : Type} (xs : List α) (p : α → Bool) (f : α → V) {n : Nat} (hn : n = xs.length) : gath (fun j : Nat => xs[j]?.bind fun x => if p x = true then some (f x) else none) n = (xs.filter p).map f := by
  subst hn
  rw [gath_fm xs _ _ (Nat.le_refl _), List.take_length]
  induction xs with
  | nil => rfl
  | cons x xs ih =>
    by_cases h : p x = true
    · simp [h, ih]
    · simp [h, ih]
section
variable {J : It} {n : Nat} {G : Hp → Prop} {Y : Nat → Hp → V → Hp → Prop} {g : TG} {tt : TT} {te : TE} {vs : List Nat} {σ : L2.St} {H1 : Hp} {D : Addr} {Qd : Hp → Prop}
theorem lc_fm (w : Walk J n G Y) (f : Nat → Option V) (nD : H1 D = none) (hz : n ≤ 1000000) (hG : ∀ H, Same H1 H → G H)
    (hs : ∀ i x H H' (NT : Hp → Prop) (NE : V → Hp → Prop), i < n → Same H1 H → Y i H x H' → (f i = none → ∀ H3, Same H H3 → NT H3) → (∀ y H4, f i = some y → Same H H4 → NE y H4) →
      g x (wipe σ vs) H' fun σ2 H2 => wipe σ2 vs = wipe σ vs ∧ tt σ2 H2 fun b H3 => if b = true then te σ2 H3 NE else NT H3)
    (hd : ∀ H, Same H1 H → H D = some (.lst (gath f n)) → Qd H) :
    ∃ W : Nat → Nat → Hp → Prop, (∃ m, W 0 m (upd H1 D (.lst []))) ∧ ∀ i m H, W i m H →
      (J.stop i H ∧ Qd H) ∨ (J.go i H ∧ ∃ Nx : Hp → Prop, (∀ H', Nx H' → ∃ m', m' < m ∧ W (i + 1) m' H') ∧ ∀ x H', J.yld i H x H' → g x (wipe σ vs) H' fun σ2 H2 => wipe σ2 vs = wipe σ vs ∧ tt σ2 H2 fun b H3 =>
        if b = true then te σ2 H3 fun y H4 => ∃ acc, H4 D = some (.lst acc) ∧ acc.length < sizeLine ∧ Nx (upd H4 D (.lst (acc ++ [y]))) else Nx H3) := by
  refine lc_it w (fun i H => Same H1 H ∧ H D = some (.lst (gath f i))) ⟨same_upd nD, upd_same⟩ (fun i H _ q => hG H q.1) ?_ fun H q => hd H q.1 q.2
  intro i x H H' hi q y
  refine hs i x H H' _ _ hi q.1 y (fun e H3 s3 => ⟨q.1.trans s3, ?_⟩) (fun y H4 e s4 => ⟨gath f i, s4 _ _ q.2, Nat.lt_of_le_of_lt (gath_le f i) (by rw [sizeLine_eq]; omega), ?_, ?_⟩)
  · show H3 D = some (.lst (gath f i ++ (f i).toList))
    rw [e]
    simpa using s3 _ _ q.2
  · exact same_upd' (q.1.trans s4) nD
  · show upd H4 D _ D = some (.lst (gath f i ++ (f i).toList))
    rw [upd_same, e]
    rfl
end
/-- for a, b in ..: two slots (K told, so that a block's own state does not come into the reading) -/
theorem pg_pair {X : Cx} {K : Fg} {x y : Str} {p1 p2 pos : Pos} {k : Nat} (i j : Nat) (hc : X.calm = true) (hN : X.N.Nodup) (hi : X.N[i]? = some x) (hj : X.N[j]? = some y) (lx : X.env.scope.names.lookup x = some .local)
    (ly : X.env.scope.names.lookup y = some .local) (hK : X.K = K := by rfl) : PG X (.Tuple [.Name x p1, .Name y p2] k pos) (gTup K 2 (gCons (gName i) (gCons (gName j) gNil))) := by
  subst hK
  exact pg_tup hc (pgs_cons (pg_name hN hi (Or.inl lx) (.inr lx)) (pgs_cons (pg_name hN hj (Or.inl ly) (.inr ly)) pgs_nil))
theorem pg_three {X : Cx} {K : Fg} {x y z : Str} {p1 p2 p3 pos : Pos} {k : Nat} (i j l : Nat) (hc : X.calm = true) (hN : X.N.Nodup) (hi : X.N[i]? = some x) (hj : X.N[j]? = some y) (hl : X.N[l]? = some z) (lx : X.env.scope.names.lookup x = some .local)
    (ly : X.env.scope.names.lookup y = some .local) (lz : X.env.scope.names.lookup z = some .local) (hK : X.K = K := by rfl) : PG X (.Tuple [.Name x p1, .Name y p2, .Name z p3] k pos) (gTup K 3 (gCons (gName i) (gCons (gName j) (gCons (gName l) gNil)))) := by
  subst hK
  exact pg_tup hc (pgs_cons (pg_name hN hi (Or.inl lx) (.inr lx)) (pgs_cons (pg_name hN hj (Or.inl ly) (.inr ly)) (pgs_cons (pg_name hN hl (Or.inl lz) (.inr lz)) pgs_nil)))
/-- f'..' of two parts or more, its reading as one word -/
def tJoin (ts : List TE) : TE := fun σ H Q => tJs ts Str.empty σ H fun out H1 => Q (.str out) H1
theorem pe_joinedT {X : Cx} {v1 v2 : Expr} {rest : List Expr} {ts : List TE} {pos : Pos} (h : PJ X (v1 :: v2 :: rest) ts) : PE X (.JoinedStr (v1 :: v2 :: rest) pos) (tJoin ts) := pe_joined h
/-- a value's truth as a test, K told -/
theorem pt_truthK {X : Cx} {K : Fg} {a : Expr} {ta : TE} (ha : PE X a ta) (he : ∀ whole, isTrue a X.env whole = (do let v ← whole; standAt a.pos; holding [v] (truthy v))) (hK : X.K = K := by rfl) :
    PT X a (fun σ H Q => ta σ H fun x H' => ∃ k, TruV K x H' k ∧ Q k H') := by
  subst hK
  exact pt_truth ha he
/-- xs.pop() where K is told -/
theorem pe_popK {X : Cx} {K : Fg} {o : Expr} {to : TE} {apos cpos : Pos} (ho : PE X o to) (hbase : attributeBase o "pop" X.env (eval o X.env) = eval o X.env := by rfl)
    (hline : (apos.endLine == cpos.line) = true := by rfl) (hK : X.K = K := by rfl) : PE X (.Call (.Attribute o "pop" apos) [] [] cpos) (tBM0 K "list" rPop to) := by
  subst hK
  exact pe_bm0 PySem.F.plainAttrs_list PySem.F.slot_list_pop PySem.F.type_list_pop mt_pop ho hbase hline
end EV

/-! a static method by keywords alone -/
namespace EV
open PySem PySem.Spec PyProof.Rows L2
section
variable {X : Cx} {o : Expr} {ta tk : TE} {k : Nat} {C f : Addr} {fd : FuncData} {m : Str} {ps ks : List Str} {sp : Sp} {pos apos : Pos} {kws : List Keyword} {g : List Value → List Value → List Value} {gV : List V → List V → List V}
/-- C.m(k = v, ..) -/
theorem pe_smethK0 {pl : Sem Bool} {tk : TA} (he : PE X o ta) (S : SM X.K C m f) (F : FnOk X.prog X.w X.K X.mg X.base CX0 k f fd ps sp) (hr : Room k X.A) (hb : KBinds X.K fd ps ks g gV) (hkw : PK X kws tk)
    (hall : (backToKw pos (keywordEach kws X.env)).all (·.1.isSome) = true := by rfl) (hks : (backToKw pos (keywordEach kws X.env)).filterMap (·.1) = ks := by rfl)
    (hpl : ((backTo pos (starEach [] X.env)).any (·.1) || (backToKw pos (keywordEach kws X.env)).any (·.1.isNone)) = false := by rfl)
    (ht : eval (.Call (.Attribute o m apos) [] kws pos) X.env = (do
      let ov ← eval o X.env
      standAt apos.atName
      let (f, first) ← holding [ov] (getMethod ov m pl)
      callWith pos f first (backTo pos (starEach [] X.env)) (backToKw pos (keywordEach kws X.env))) := by rfl) :
    PE X (.Call (.Attribute o m apos) [] kws pos) (fun σ H Q => ta σ H fun x H1 => x = .ref C ∧ tk σ H1 fun zs H3 => sp (gV [] zs) H3 Q E0) := by
  constructor
  intro pins s σ H Q I h
  refine PySem.W.methodCall_KW (pl := pl) (thn (he.run pins s σ H _ I h) fun u s1 told => ?_) ht
  obtain ⟨x, H1, I1, rx, ex, q⟩ := told
  subst ex
  obtain rfl : u = Value.ref C := rx
  refine getsm_ok I1 S fun s2 I2 => PySem.W.callWith_KW0 (first := []) (h₀ := X.base) I.ok.mod.kin S.kp hall ?_ hpl
  refine thn (hkw.run pos pins s2 σ H1 _ I2 q) fun ws s4 got => ?_
  obtain ⟨zs, H3, I4, rz, q3⟩ := got
  refine ⟨I4.kIn, ?_⟩
  rw [hks]
  exact run_fnk F hr hb pass0 I4 .nil rz q3
/-- C.m(k = v, ..), m a classmethod -/
theorem pe_cmethK0 {mc : Value} {q : Addr} {pl : Sem Bool} {tk : TA} (he : PE X o ta) (r : ClX.CRead X.K C mc) (c : ClX.CMet X.K C mc m q f) (F : FnOk X.prog X.w X.K X.mg X.base CX0 k f fd ps sp) (hr : Room k X.A) (hb : KBinds X.K fd ps ks g gV) (hkw : PK X kws tk)
    (hall : (backToKw pos (keywordEach kws X.env)).all (·.1.isSome) = true := by rfl) (hks : (backToKw pos (keywordEach kws X.env)).filterMap (·.1) = ks := by rfl)
    (hpl : ((backTo pos (starEach [] X.env)).any (·.1) || (backToKw pos (keywordEach kws X.env)).any (·.1.isNone)) = false := by rfl)
    (ht : eval (.Call (.Attribute o m apos) [] kws pos) X.env = (do
      let ov ← eval o X.env
      standAt apos.atName
      let (f, first) ← holding [ov] (getMethod ov m pl)
      callWith pos f first (backTo pos (starEach [] X.env)) (backToKw pos (keywordEach kws X.env))) := by rfl) :
    PE X (.Call (.Attribute o m apos) [] kws pos) (fun σ H Q => ta σ H fun x H1 => x = .ref C ∧ tk σ H1 fun zs H3 => sp (gV [.ref C] zs) H3 Q E0) := by
  constructor
  intro pins s σ H Q I h
  refine PySem.W.methodCall_KW (pl := pl) (thn (he.run pins s σ H _ I h) fun u s1 told => ?_) ht
  obtain ⟨x, H1, I1, rx, ex, w1⟩ := told
  subst ex
  obtain rfl : u = Value.ref C := rx
  refine ClX.getmethcm_ok I1 r c fun s2 I2 => ?_
  refine PySem.W.callWith_of (P := fun h => PySem.W.MethP X.K s1.heap.objs.size f (.ref C) h) hpl (PySem.W.keeps_M c.fi) (PyProof.Rows.evalArgs_kw2_nil hall (thn (hkw.run pos _ s2 σ H1 _ I2 w1) fun ws s3 got => ?_))
  obtain ⟨zs, H3, I3, rz, w3⟩ := got
  refine ⟨⟨ClX.pin_at I3, I3.kIn⟩, ?_⟩
  rw [hks]
  have r2 := hb.rel (.cons rfl .nil : Vals [V.ref C] [Value.ref C]) rz
  have hl : (g [Value.ref C] ws).length = ps.length := by rw [← r2.length]; exact F.len _ _ _ _ w3
  refine thn (Q := EP X ((s1.heap.objs.size, PySem.W.methodObj (.ref f) (.ref C)) :: pins) σ Q) (wpAny_call (PySem.W.method_call (ClX.pin_at I3) (codeAny_mono (F.run X.A X.stack s3 H3 ⟨[Value.ref C], ks.zip ws⟩ (g [Value.ref C] ws) (gV [.ref C] zs) Q E0 hr I3.env0 (hb.to s3 _ ws I3.kIn hl) r2 w3) fun z s' hq => ?_))) fun _ _ y => ClX.unpinE y
  cases z with
  | error er => exact pass0 _ σ _ _ _ _ I3 hq
  | ok fl =>
    cases fl with
    | ret u => exact I3.after hq
    | next => exact False.elim hq
    | brk => exact False.elim hq
    | cont => exact False.elim hq
end
/-! ### static and class methods, by position and by name -/
/-- one by position, one by name -/
def gOne {α : Type} : List α → List α → List α
  | [u], [v] => [u, v]
  | _, _ => []
/-- two by name, in the other order -/
def gSwap {α : Type} : List α → List α → List α
  | [], [u, v] => [v, u]
  | _, _ => []
theorem kb_one {K : Fg} {x qual p1 p2 n : Str} {st : Stmt} {f : Addr} {fd : FuncData} (U : Fun K x qual st f fd)
    (h : ∀ (kV doc pm : Value) (an : Option Addr) (cdv ct u v : Value), bindArgs (PySem.W.fnOf x qual (defArgs st) (defBody st) (defScope st) .none kV doc pm an cdv ct) ⟨[u], [(n, v)]⟩ = pure [(p1, u), (p2, v)]) : KBinds K fd [p1, p2] [n] gOne gOne := by
  obtain ⟨oc, od, kV, doc, pm, an, cdv, ct, osl, rfl, lk, hcd⟩ := U.ex
  refine ⟨fun s us ws _ hl => ?_, fun r rz => ?_⟩
  · match us, ws, hl with
    | [u], [v], _ => exact .of_eq (h ..)
  · cases r with
    | nil => exact .nil
    | cons r1 r2 =>
      cases r2 with
      | nil =>
        cases rz with
        | nil => exact .nil
        | cons z1 z2 =>
          cases z2 with
          | nil => exact .cons r1 (.cons z1 .nil)
          | cons _ _ => exact .nil
      | cons _ _ => exact .nil
theorem kb_swap {K : Fg} {x qual p1 p2 n1 n2 : Str} {st : Stmt} {f : Addr} {fd : FuncData} (U : Fun K x qual st f fd)
    (h : ∀ (kV doc pm : Value) (an : Option Addr) (cdv ct u v : Value), bindArgs (PySem.W.fnOf x qual (defArgs st) (defBody st) (defScope st) .none kV doc pm an cdv ct) ⟨[], [(n1, u), (n2, v)]⟩ = pure [(p1, v), (p2, u)]) : KBinds K fd [p1, p2] [n1, n2] gSwap gSwap := by
  obtain ⟨oc, od, kV, doc, pm, an, cdv, ct, osl, rfl, lk, hcd⟩ := U.ex
  refine ⟨fun s us ws _ hl => ?_, fun r rz => ?_⟩
  · match us, ws, hl with
    | [], [u, v], _ => exact .of_eq (h ..)
  · cases r with
    | cons _ _ => exact .nil
    | nil =>
      cases rz with
      | nil => exact .nil
      | cons z1 z2 =>
        cases z2 with
        | nil => exact .nil
        | cons z2 z3 =>
          cases z3 with
          | nil => exact .cons z2 (.cons z1 .nil)
          | cons _ _ => exact .nil
structure OkS (P : Program) (w : World) (K : Fg) (mg : Str → Option Value) (base : Heap) (k : Nat) (C : Addr) (m : Str) (ps : List Str) (sp : Sp) : Prop where
  ex : ∃ (f : Addr) (fd : FuncData), FnOk P w K mg base CX0 k f fd ps sp ∧ SM K C m f ∧ Binds K fd ps []
structure OkSK (P : Program) (w : World) (K : Fg) (mg : Str → Option Value) (base : Heap) (k : Nat) (C : Addr) (m : Str) (ps ks : List Str) (sp : Sp) : Prop where
  ex : ∃ (f : Addr) (fd : FuncData), FnOk P w K mg base CX0 k f fd ps sp ∧ SM K C m f ∧ KBinds K fd ps ks gSwap gSwap
structure OkC0 (P : Program) (w : World) (K : Fg) (mg : Str → Option Value) (base : Heap) (k : Nat) (C : Addr) (m : Str) (ps : List Str) (sp : Sp) : Prop where
  ex : ∃ (p f : Addr) (fd : FuncData) (mc : Value), FnOk P w K mg base CX0 k f fd ps sp ∧ ClX.CRead K C mc ∧ ClX.CMet K C mc m p f ∧ Binds K fd ps []
structure OkCK (P : Program) (w : World) (K : Fg) (mg : Str → Option Value) (base : Heap) (k : Nat) (C : Addr) (m : Str) (ps ks : List Str) (sp : Sp) : Prop where
  ex : ∃ (p f : Addr) (fd : FuncData) (mc : Value), FnOk P w K mg base CX0 k f fd ps sp ∧ ClX.CRead K C mc ∧ ClX.CMet K C mc m p f ∧ KBinds K fd ps ks gOne gOne
section
variable {X : Cx} {o e : Expr} {es : List Expr} {ta : TE} {t : TA} {k : Nat} {C : Addr} {m : Str} {ps ks : List Str} {sp : Sp} {pos apos : Pos} {kws : List Keyword}
theorem pe_smethS {pl : Sem Bool} (he : PE X o ta) (O : OkS X.prog X.w X.K X.mg X.base k C m ps sp) (hr : Room k X.A) (ha : PA X (e :: es) t)
    (hst : starEach (e :: es) X.env = (false, eval e X.env) :: starEach es X.env := by rfl) (hpl : (backTo pos (starEach es X.env)).any (·.1) = false := by rfl)
    (ht : eval (.Call (.Attribute o m apos) (e :: es) [] pos) X.env = (do
      let ov ← eval o X.env
      standAt apos.atName
      let (f, first) ← holding [ov] (getMethod ov m pl)
      callWith pos f first (backTo pos (starEach (e :: es) X.env)) (backToKw pos (keywordEach [] X.env))) := by rfl) :
    PE X (.Call (.Attribute o m apos) (e :: es) [] pos) (fun σ H Q => ta σ H fun x H1 => x = .ref C ∧ t σ H1 fun vs H2 => sp vs H2 Q E0) := by
  obtain ⟨f, fd, F, S, hb⟩ := O.ex
  have z := pe_smeth (dvs := []) he S F hr hb .nil ha hst hpl ht
  simp only [List.append_nil] at z
  exact z
theorem pe_smethSK {pl : Sem Bool} {tk : TA} (he : PE X o ta) (O : OkSK X.prog X.w X.K X.mg X.base k C m ps ks sp) (hr : Room k X.A) (hkw : PK X kws tk)
    (hall : (backToKw pos (keywordEach kws X.env)).all (·.1.isSome) = true := by rfl) (hks : (backToKw pos (keywordEach kws X.env)).filterMap (·.1) = ks := by rfl)
    (hpl : ((backTo pos (starEach [] X.env)).any (·.1) || (backToKw pos (keywordEach kws X.env)).any (·.1.isNone)) = false := by rfl)
    (ht : eval (.Call (.Attribute o m apos) [] kws pos) X.env = (do
      let ov ← eval o X.env
      standAt apos.atName
      let (f, first) ← holding [ov] (getMethod ov m pl)
      callWith pos f first (backTo pos (starEach [] X.env)) (backToKw pos (keywordEach kws X.env))) := by rfl) :
    PE X (.Call (.Attribute o m apos) [] kws pos) (fun σ H Q => ta σ H fun x H1 => x = .ref C ∧ tk σ H1 fun zs H3 => sp (gSwap [] zs) H3 Q E0) := by
  obtain ⟨f, fd, F, S, hb⟩ := O.ex
  exact pe_smethK0 he S F hr hb hkw hall hks hpl ht
theorem pe_cmethSK {pl : Sem Bool} {tk : TA} (he : PE X o ta) (O : OkCK X.prog X.w X.K X.mg X.base k C m ps ks sp) (hr : Room k X.A) (hkw : PK X kws tk)
    (hall : (backToKw pos (keywordEach kws X.env)).all (·.1.isSome) = true := by rfl) (hks : (backToKw pos (keywordEach kws X.env)).filterMap (·.1) = ks := by rfl)
    (hpl : ((backTo pos (starEach [] X.env)).any (·.1) || (backToKw pos (keywordEach kws X.env)).any (·.1.isNone)) = false := by rfl)
    (ht : eval (.Call (.Attribute o m apos) [] kws pos) X.env = (do
      let ov ← eval o X.env
      standAt apos.atName
      let (f, first) ← holding [ov] (getMethod ov m pl)
      callWith pos f first (backTo pos (starEach [] X.env)) (backToKw pos (keywordEach kws X.env))) := by rfl) :
    PE X (.Call (.Attribute o m apos) [] kws pos) (fun σ H Q => ta σ H fun x H1 => x = .ref C ∧ tk σ H1 fun zs H3 => sp (gOne [.ref C] zs) H3 Q E0) := by
  obtain ⟨p, f, fd, mc, F, r, c, hb⟩ := O.ex
  exact pe_cmethK0 he r c F hr hb hkw hall hks hpl ht
theorem pe_cmethS {pl : Sem Bool} (he : PE X o ta) (O : OkC0 X.prog X.w X.K X.mg X.base k C m ps sp) (hr : Room k X.A) (ha : PA X (e :: es) t)
    (hst : starEach (e :: es) X.env = (false, eval e X.env) :: starEach es X.env := by rfl) (hpl : (backTo pos (starEach es X.env)).any (·.1) = false := by rfl)
    (ht : eval (.Call (.Attribute o m apos) (e :: es) [] pos) X.env = (do
      let ov ← eval o X.env
      standAt apos.atName
      let (f, first) ← holding [ov] (getMethod ov m pl)
      callWith pos f first (backTo pos (starEach (e :: es) X.env)) (backToKw pos (keywordEach [] X.env))) := by rfl) :
    PE X (.Call (.Attribute o m apos) (e :: es) [] pos) (fun σ H Q => ta σ H fun x H1 => x = .ref C ∧ t σ H1 fun vs H2 => sp (.ref C :: vs) H2 Q E0) := by
  obtain ⟨p, g, fd, mc, F, r, c, hb⟩ := O.ex
  constructor
  intro pins s σ H Q I want
  refine PySem.W.methodCall_KW (pl := pl) (thn (he.run pins s σ H _ I want) fun u s1 told => ?_) ht
  obtain ⟨x, H1, I1, rx, ex, w1⟩ := told
  subst ex
  cases (show u = Value.ref C from rx)
  refine ClX.getmethcm_ok I1 r c fun s2 I2 => ClX.callwith_cm I2 (ClX.base_none I1 (Nat.le_refl _)) c.fi (thn (ha.run pos _ s2 σ H1 _ I2 w1) ?_) hst hpl
  rintro us s3 ⟨vs, H2, I3, rv, w2⟩
  refine ⟨⟨ClX.pin_at I3, I3.kIn⟩, ?_⟩
  have r2 : Vals (V.ref C :: vs) (Value.ref C :: us) := .cons rfl rv
  have hl : (Value.ref C :: us).length = ps.length := r2.length ▸ F.len _ _ _ _ w2
  have bb := hb s3 (.ref C :: us) I3.kIn ((List.append_nil _).symm ▸ hl)
  rw [List.append_nil] at bb
  refine thn (Q := EP X ((s1.heap.objs.size, PySem.W.methodObj (.ref g) (.ref C)) :: pins) σ Q) (wpAny_call (PySem.W.method_call (ClX.pin_at I3) (codeAny_mono (F.run X.A X.stack s3 H2 ⟨.ref C :: us, []⟩ (.ref C :: us) (.ref C :: vs) Q E0 hr I3.env0 bb r2 w2) ?_))) fun _ _ y => ClX.unpinE y
  intro z s' hq
  cases z with
  | error er => exact False.elim hq
  | ok fl =>
    cases fl with
    | ret u => exact I3.after hq
    | _ => exact False.elim hq
end
end EV

/-! an object of an own class with an own __eq__, compared with any value: == and != -/
namespace EV
open PySem PySem.Spec PyProof.Rows L2
/-- the type of a value, as a comparison asks for it -/
inductive TyN (H : Hp) : V → Value → Prop where
  | non : TyN H .non (.type "NoneType")
  | bl (b : Bool) : TyN H (.bl b) (.type "bool")
  | int (i : Int) : TyN H (.int i) (.type "int")
  | str (z : Str) : TyN H (.str z) (.type "str")
  | lst {a : Addr} {xs : List V} (e : H a = some (.lst xs)) : TyN H (.ref a) (.type "list")
  | tup {a : Addr} {xs : List V} (e : H a = some (.tup xs)) : TyN H (.ref a) (.type "tuple")
  | ins {a C dx : Addr} {fs : List (Str × V)} (e : H a = some (.ins C dx fs)) : TyN H (.ref a) (.ref C)
/-- the built-in kinds among them -/
def plainTys : List String := ["NoneType", "bool", "int", "str", "list", "tuple"]
theorem plain_sub {K : Fg} {C : Addr} : ∀ T ∈ plainTys, PySem.W.subIn K (.type T) (.ref C) = some false := by
  intro T hT
  have key : ∀ T ∈ plainTys, ∃ l, fastBuiltinMro T = some l ∧ l.all (fun v => match v with | .type _ => true | _ => false) = true := by
    intro T hT
    simp only [plainTys, List.mem_cons, List.not_mem_nil, or_false] at hT
    rcases hT with rfl | rfl | rfl | rfl | rfl | rfl
    · exact ⟨[.type "NoneType", .type "object"], by decide +kernel, rfl⟩
    · exact ⟨[.type "bool", .type "int", .type "object"], by decide +kernel, rfl⟩
    · exact ⟨[.type "int", .type "object"], by decide +kernel, rfl⟩
    · exact ⟨[.type "str", .type "object"], by decide +kernel, rfl⟩
    · exact ⟨[.type "list", .type "object"], by decide +kernel, rfl⟩
    · exact ⟨[.type "tuple", .type "object"], by decide +kernel, rfl⟩
  obtain ⟨l, e, hl⟩ := key T hT
  show (fastBuiltinMro T).map (·.contains (.ref C)) = some false
  rw [e]
  refine congrArg some (show l.contains (.ref C) = false from ?_)
  clear e
  induction l with
  | nil => rfl
  | cons x l ih =>
    rw [List.all_cons, Bool.and_eq_true] at hl
    rw [List.contains_cons]
    have h1 : (Value.ref C == x) = false := by
      cases x with
      | type n => exact beq_eq_false_iff_ne.mpr (fun q => nomatch q)
      | _ => exact absurd hl.1 Bool.false_ne_true
    rw [h1, Bool.false_or]
    exact ih hl.2
theorem TyN.first {H : Hp} {K : Fg} {C : Addr} {y : V} {tb : Value} (t : TyN H y tb) (hc : ∀ a D dx fs, y = .ref a → H a = some (.ins D dx fs) → D = C) : PySem.W.notFirst K C tb = true := by
  unfold PySem.W.notFirst
  have pl : ∀ T ∈ plainTys, (Value.type T == .ref C || PySem.W.subIn K (.type T) (.ref C) == some false) = true := fun T hT => by
    rw [plain_sub T hT]
    exact Bool.or_true _
  cases t with
  | non => exact pl _ (by decide)
  | bl b => exact pl _ (by decide)
  | int i => exact pl _ (by decide)
  | str z => exact pl _ (by decide)
  | lst e => exact pl _ (by decide)
  | tup e => exact pl _ (by decide)
  | ins e =>
    rw [hc _ _ _ _ rfl e]
    simp
section
variable {X : Cx} {k : Nat} {C : Addr} {ps : List Str} {sp : Sp} {pins : List (Addr × Obj)} {σ : L2.St} {H : Hp} {s : Shared}
theorem TyN.sees {y : V} {u tb : Value} (I : Inv X pins σ H s) (r : RelV y u) (t : TyN H y tb) : PySem.W.Looks (model X.prog X.w) s.heap (typeOf u) tb := by
  have at_obj : ∀ (a : Addr) (T : String), (∃ o, s.heap.get? a = some o ∧ o.cls = .type T) → PySem.W.Looks (model X.prog X.w) s.heap (typeOf (.ref a)) (.type T) := by
    rintro a T ⟨o, ho, hc⟩ A Q E s2 kp q
    exact wpAny_typeOf (show s2.TypeIs (.ref a) T from ⟨o, kp _ _ ho, hc⟩) q
  cases t with
  | non => cases (show u = Value.none from r); exact PySem.W.Looks.of_pure rfl
  | bl b => cases (show u = Value.bool b from r); exact PySem.W.Looks.of_pure rfl
  | int i => obtain ⟨_, q⟩ := (show ∃ t, u = Value.int i t from r); cases q; exact PySem.W.Looks.of_pure rfl
  | str z => obtain ⟨_, q⟩ := (show ∃ t, u = Value.str z t from r); cases q; exact PySem.W.Looks.of_pure rfl
  | lst e =>
    cases (show u = Value.ref _ from r)
    obtain ⟨_, _, n, _, h1⟩ := (show ObjOk X.prog X.w H s.heap _ (.lst _) from I.hok _ _ e)
    exact at_obj _ _ ⟨_, h1, rfl⟩
  | tup e =>
    cases (show u = Value.ref _ from r)
    obtain ⟨_, _, _, o, h1, h2, _⟩ := (show ObjOk X.prog X.w H s.heap _ (.tup _) from I.hok _ _ e)
    exact at_obj _ _ ⟨o, h1, h2⟩
  | ins e =>
    cases (show u = Value.ref _ from r)
    obtain ⟨_, _, J⟩ := ins_inst I e
    exact J.type
/-- x == y, x of the class at C, y any value of these kinds, by C's own __eq__ -/
def rEqA (C : Addr) (sp : Sp) : R2 := fun x y H Q => ∃ a dx fs tb, x = .ref a ∧ H a = some (.ins C dx fs) ∧ TyN H y tb ∧ (∀ b D dy gs, y = .ref b → H b = some (.ins D dy gs) → D = C) ∧ sp [.ref a, y] H (fun v H2 => ∃ c : Bool, v = .bl c ∧ Q (.bl c) H2) E0
theorem op_eqA (O : OkM CX0 X.prog X.w X.K X.mg X.base k C "__eq__" ps sp) (hr : Room k X.A) : OpR X (compareOp .Eq) (rEqA C sp) := by
  intro pins s σ H x y v u Q I rx ry want
  obtain ⟨a, dx, fs, tb, rfl, ea, ty, only, q⟩ := want
  cases (show v = Value.ref a from rx)
  obtain ⟨f, fd, F, hm, hb⟩ := O.ex
  obtain ⟨_, _, J⟩ := ins_inst I ea
  obtain ⟨_, fr⟩ := I.fr
  show wpAny (model X.prog X.w) X.A (richCompare .Eq (.ref a) u) (EP X pins σ Q) X.xe s
  refine PySem.W.cmp_K (op := .Eq) hr.units0 fr I.ok.mod.kin J (ty.sees I ry) (ty.first only) hm.at_ hm.fn ?_
  refine thn (run_fn (us := [.ref a, u]) (vs := [.ref a, y]) (dvs := []) F hr hb .nil pass0 I (.cons rfl (.cons ry .nil)) q) ?_
  rintro r s1 ⟨z, H2, I2, rz, c, rfl, q2⟩
  cases (show r = Value.bool c from rz)
  exact ⟨.bl c, H2, I2, rfl, q2⟩
/-- x != y: the class has no __ne__ of its own -/
def rNeA (C : Addr) (sp : Sp) : R2 := fun x y H Q => ∃ a dx fs tb, x = .ref a ∧ H a = some (.ins C dx fs) ∧ TyN H y tb ∧ (∀ b D dy gs, y = .ref b → H b = some (.ins D dy gs) → D = C) ∧ sp [.ref a, y] H (fun v H2 => ∃ c : Bool, v = .bl c ∧ Q (.bl (!c)) H2) E0
structure NeC (K : Fg) (C : Addr) : Prop where
  at_ : PySem.W.findIn K (.ref C) "__ne__" = some (some (.builtin "object.__ne__"))
  obj : PySem.W.mroIn K C (.type "object") = some true
theorem bound_ne {K : Fg} {M : Model} {A : Around} {E : Value → Shared → Prop} {a : Addr} {ox : Obj} {od : Option Obj} {us : List Value} {Q : Option Value → Shared → Prop} (kin : K.In s.heap) (J : PySem.W.InstAt s.heap a ox C od) (nc : NeC K C)
    (go : wpAny M A (call (.builtin "object.__ne__") (.ref a :: us)) (fun v => Q (some v)) E s) : wpAny M A (callSpecialIfBound? (.ref a) "__ne__" us) Q E s := by
  simp only [callSpecialIfBound?, bindSpecialIfBound?]
  refine wpAny_holding (wpAny_bind (wpAny_bind (wpAny_bind (J.type.here ((PySem.W.looks_findIn kin nc.at_).here ?_)))))
  refine wpAny_bind (wpAny_askSetting (wpAny_ite ?_))
  have last : wpAny M A (call (.builtin "object.__ne__") ([.ref a] ++ us) >>= fun v => pure (some v)) Q E s := wpAny_bind (wpAny_mono go (fun v s2 q => wpAny_pure q) (fun _ _ q => q))
  split
  · exact wpAny_bind (wpAny_of_eq (F.cmp_object.ne.bind _) (wpAny_pure last))
  · exact wpAny_tryCatch (wpAny_bind (wpAny_of_eq (F.cmp_object.ne.bind _) (wpAny_pure last)))
theorem op_neA (O : OkM CX0 X.prog X.w X.K X.mg X.base k C "__eq__" ps sp) (nc : NeC X.K C) (hr : Room (k + 2) X.A) : OpR X (compareOp .NotEq) (rNeA C sp) := by
  intro pins s σ H x y v u Q I rx ry want
  obtain ⟨a, dx, fs, tb, rfl, ea, ty, only, q⟩ := want
  cases (show v = Value.ref a from rx)
  obtain ⟨f, fd, Fo, hm, hb⟩ := O.ex
  obtain ⟨ox, od, J⟩ := ins_inst I ea
  obtain ⟨_, fr⟩ := I.fr
  have kin := I.kIn
  have inner : wpAny (model X.prog X.w) X.A (tryCompare (.ref a) "__ne__" u) (fun r s' => ∃ v, r = some v ∧ EP X pins σ Q v s') X.xe s := by
    unfold tryCompare
    refine wpAny_bind (bound_ne kin J nc (wpAny_call (codeAny_call_builtin F.cmp_object.ne.plain F.cmpEntry_ne (PySem.W.check_slot F.cmpKind_ne F.cmpSplit_ne (J.type.andThen (PySem.W.looks_mroIn kin nc.obj)) (F.cmpArgs_ne _ _) ?_))))
    have h1 : Room (k + 1) X.A.in1 := Room.in1 (k := k + 1) hr
    have hu1 := h1.units0
    have ask : ∀ (R : Option Value → Shared → Prop) (Er : Value → Shared → Prop), (∀ (c : Bool) s', EP X pins σ Q (.bool (!c)) s' → R (some (.bool c)) s') → wpAny (model X.prog X.w) X.A.in1 (callSpecialIfBound? (.ref a) "__eq__" [u]) R Er s := by
      intro R Er hR
      refine PySem.W.ifBound_K kin J hm.at_ hm.fn (run_in (vs := [.ref a, y]) Fo (h1.mono (by omega)) rfl hb I (.cons rfl (.cons ry .nil)) q ?_)
      rintro v s' ⟨z, H2, I2, rz, c, rfl, q2⟩
      cases (show v = Value.bool c from rz)
      exact hR c s' ⟨.bl (!c), H2, I2, rfl, q2⟩
    unfold Builtin.«object.__ne__»
    repeat (first | with_reducible refine ask _ _ ?_ | with_reducible refine wpAny_cRoomFor hu1 ?_ | wp_step)
    intro c s' e
    exact wpAny_bind (wpAny_truthy_bool (wpAny_pure (wpAny_pure ⟨_, rfl, e⟩)))
  have hu0 := hr.units0
  have firstly := ty.first (K := X.K) only
  show wpAny (model X.prog X.w) X.A (richCompare .NotEq (.ref a) u) (EP X pins σ Q) X.xe s
  unfold richCompare
  simp only [oneThing_ref]
  refine wpAny_holding (wpAny_bind (wpAny_cRoomFor hu0 (wpAny_bind (J.type.here (wpAny_bind ((ty.sees I ry).here ?_))))))
  by_cases same : tb = .ref C
  · rw [if_neg (by rw [same]; simp)]
    refine wpAny_bind (wpAny_pure ?_)
    simp only [Bool.false_eq_true, if_false]
    refine wpAny_bind (wpAny_mono inner ?_ (fun _ _ z => z))
    rintro r s' ⟨v, rfl, done⟩
    exact wpAny_pure done
  · have other : PySem.W.subIn X.K tb (.ref C) = some false := by
      unfold PySem.W.notFirst at firstly
      rw [beq_eq_false_iff_ne.mpr same, Bool.false_or] at firstly
      exact eq_of_beq firstly
    rw [if_pos (by simpa using Ne.symm same)]
    refine wpAny_bind ((PySem.W.looks_subIn kin other).here ?_)
    simp only [Bool.false_eq_true, if_false]
    refine wpAny_bind (wpAny_mono inner ?_ (fun _ _ z => z))
    rintro r s' ⟨v, rfl, done⟩
    exact wpAny_pure done
end
end EV

/-! a dict made by a comprehension whose keys are tuples of ints and texts -/
namespace EV
open PySem PySem.Spec PyProof.Rows L2
/-- the pair goes into the new dict -/
def PutT (H : Hp) (D : Addr) (y z : V) (N : Hp → Prop) : Prop := ∃ (old : List (List Key × V)) (k : List Key) (b : Addr), y = .ref b ∧ H D = some (.dT old) ∧ H b = some (.tup (k.map kV)) ∧ old.length < sizeLine ∧ N (upd H D (.dT (putK old k z)))
theorem put_runs {X : Cx} {ps : List (Addr × Obj)} {τ : L2.St} {G : Hp} {t : Shared} {Er : Value → Shared → Prop} {D : Addr} {y z : V} {ry rz : Value} {N : Hp → Prop} {R : Unit → Shared → Prop} (room : X.A.units + 64 < cLine) (inv : Inv X ps τ G t)
    (p : PutT G D y z N) (hy : RelV y ry) (hz : RelV z rz) (go : ∀ G' t', N G' → Inv X ps τ G' t' → R () t') : wpAny (model X.prog X.w) X.A (dictSet D ry rz) R Er t := by
  obtain ⟨old, k, b, rfl, hD, hb, short, n⟩ := p
  obtain rfl : ry = Value.ref b := hy
  obtain ⟨le, own, xs, rel, dd⟩ := dt_of inv.hok hD
  have le' : xs.length ≤ sizeLine := (Paired.length rel) ▸ le
  have more : (putK old k z).length ≤ sizeLine := Nat.le_trans (length_putK old k z) short
  refine wpAny_dictSet_heap (hsz := le') (show X.A.units < cLine from Nat.lt_of_le_of_lt (Nat.le_add_right _ _) room) (key_of inv.hok hb) dd (fun g dd' same => ?_)
  obtain ⟨o, es, ep, ho, q1, q2, q3, _, q5⟩ := dd'
  refine go _ _ n (d_write inv (by rw [hD]; trivial) same ⟨o, ho⟩ ⟨more, own, _, (rel.put k hb hz).keeps (fun c ys e => ?_), o, es, ep, ho, q1, q2, q3, q5⟩)
  exact (upd_ne (ne_of e hD (fun q => nomatch q))).trans e
section
variable {X : Cx}
/-- {(..): v for target in iter if ..}: D the new dict -/
def tDcT (wi : TI) (g : TG) (tt : TT) (tk tv : TE) (vs : List Nat) : TE := fun σ H Q => wi σ H fun J H1 => ∀ D, H1 D = none → ∃ W : Nat → Nat → Hp → Prop, (∃ m, W 0 m (upd H1 D (.dT []))) ∧ ∀ i m H, W i m H →
  (J.stop i H ∧ Q (.ref D) H) ∨ (J.go i H ∧ ∃ Nx : Hp → Prop, (∀ H', Nx H' → ∃ m', m' < m ∧ W (i + 1) m' H') ∧ ∀ x H', J.yld i H x H' → g x (wipe σ vs) H' fun σ2 H2 => wipe σ2 vs = wipe σ vs ∧ tt σ2 H2 fun b H3 =>
    if b = true then tk σ2 H3 fun y H4 => tv σ2 H4 fun z H5 => PutT H5 D y z Nx else Nx H3)
/-- the form of a new comprehension block's names -/
abbrev boxes (sc : Scope) (Y : Cx) (n : Nat) := cellsFrom (n + 1) sc.names (cloFrom Y.env.cells sc.names [])
theorem pe_dcT {kx vx tg src : Expr} {ifs : List Expr} {sc : Scope} {own : List (Str × Nat)} {p0 : Pos} {ws : TI} {g : TG} {tt : TT} {tk tv : TE} (room : X.A.units + 64 < cLine) (calm : X.calm = true) (uq : X.N.Nodup) (hsrc : PI X tg src ws) (blk : BlkOk X.N X.env.scope sc own)
    (htg : ∀ (t : Shared) (G : Hp) (C : Addr) (cs : List (Str × Addr)) (fs : List Addr), PG (X.blk t G sc (compEnvC sc cs C X.env) fs) tg g)
    (htt : ∀ (t : Shared) (G : Hp) (C : Addr) (cs : List (Str × Addr)) (fs : List Addr), PTs (X.blk t G sc (compEnvC sc cs C X.env) fs) ifs tt)
    (hkx : ∀ (t : Shared) (G : Hp) (C : Addr) (cs : List (Str × Addr)) (fs : List Addr), PE (X.blk t G sc (compEnvC sc cs C X.env) fs) kx tk)
    (hvx : ∀ (t : Shared) (G : Hp) (C : Addr) (cs : List (Str × Addr)) (fs : List Addr), PE (X.blk t G sc (compEnvC sc cs C X.env) fs) vx tv)
    (fold : ∀ x, foldedSetIterable src X.env x = pure x := by intro _; rfl) : PE X (.DictComp kx vx [⟨tg, src, ifs, 0⟩] sc p0) (tDcT ws g tt tk tv (own.map (·.2))) := by
  refine ⟨fun ps t τ G Q inv want => ?_⟩
  rw [arm_eval_DictComp]
  have closed : ∀ y ∈ sc.names, y.2 = .free → ∃ c, X.env.cells.lookup y.1 = some c := by
    intro y hy e
    exact (blk.free y hy e).elim (fun k => inv.ok.has _ (.inl k)) (fun k => inv.ok.has _ (.inr k))
  refine wpAny_comprehension_free (use := none) rfl fold (closure_ok closed) blk.kind (fun y hy e => by rw [blk.uniq y hy, e]) (thn (hsrc.run ps t τ G _ inv want) fun sv t1 q1 => thn q1 fun iv t2 q2 => ?_)
  obtain ⟨it, fs, at_, J, G2, rfl, inv2, W2, now2, ok2, loopQ⟩ := q2
  refine wpAny_newObj_type (newEnv_comp ?_)
  obtain ⟨D, eD⟩ : ∃ D, D = t2.heap.objs.size := ⟨_, rfl⟩
  have noD : G2 D = none := inv2.hok.fresh (Nat.le_of_eq eD.symm)
  obtain ⟨W, ⟨m0, start⟩, turns⟩ := loopQ D noD
  obtain ⟨t3, et3⟩ : ∃ t3 : Shared, t3 = { t2 with heap := t2.heap.push { cls := .type "dict", data := .dict #[] } } := ⟨_, rfl⟩
  have hp3 : t3.heap = t2.heap.push { cls := .type "dict", data := .dict #[] } := by rw [et3]
  have inv3 : Inv X ps τ (upd G2 D (.dT [])) t3 := by
    subst et3 eD
    exact inv2.laid (t' := t2.toks) (fun b o e => Heap.get?_push_of_some _ e) (Nat.le_refl _) (dt_empty t2.heap inv2.big)
  have old : ∀ b ∈ fs, b < t2.heap.objs.size := fun b hb => (W2.obj _ _ now2 b hb).elim fun o e => Heap.lt_size e.1
  have ok3 : ∀ b ∈ fs, FpOk X ps (upd G2 D (.dT [])) b ∧ b < t3.heap.objs.size := by
    intro b hb
    have lt := old b hb
    have nb : upd G2 D (.dT []) b = none := (upd_ne (by rw [eD]; exact Nat.ne_of_lt lt)).trans (ok2 b hb).1
    exact ⟨⟨nb, (ok2 b hb).2⟩, by rw [hp3, Heap.size_push]; exact Nat.lt_succ_of_lt lt⟩
  have now3 : at_ 0 t3.heap := W2.keep _ _ _ now2 (fun b _ o e => by rw [hp3]; exact Heap.get?_push_of_some _ e)
  have inv4 := block_start inv3 blk uq ok3
  have hg := htg t3 (upd G2 D (.dT [])) t3.heap.objs.size (boxes sc X t3.heap.objs.size) fs
  have ht := htt t3 (upd G2 D (.dT [])) t3.heap.objs.size (boxes sc X t3.heap.objs.size) fs
  have hk := hkx t3 (upd G2 D (.dT [])) t3.heap.objs.size (boxes sc X t3.heap.objs.size) fs
  have hv := hvx t3 (upd G2 D (.dT [])) t3.heap.objs.size (boxes sc X t3.heap.objs.size) fs
  rw [← eD, ← hp3]
  have none3 : ∀ b ∈ fs, upd G2 D (.dT []) b = none := fun b hb => (ok3 b hb).1.1
  obtain ⟨ce, ece⟩ : ∃ ce, ce = compEnvC sc (boxes sc X t3.heap.objs.size) t3.heap.objs.size X.env := ⟨_, rfl⟩
  rw [← ece] at inv4 hg ht hk hv
  have own_at : ce.locals = t3.heap.objs.size := by rw [ece]; rfl
  generalize upd G2 D (.dT []) = G3 at inv3 inv4 hg ht hk hv start none3 ok3
  have free_of : ∀ {τ' : L2.St} {G' : Hp} {t' : Shared}, Inv (X.blk t3 G3 sc ce fs) [] τ' G' t' → (∀ b ∈ fs, G' b = none) → ∀ b ∈ fs, FpOk (X.blk t3 G3 sc ce fs) [] G' b := by
    intro τ' G' t' iv nn b hb
    exact ⟨nn b hb, (iv.ok.exf b hb).1, iv.ok.exfs b hb, .inl hb, fun x c e => (iv.ok.exf b hb).2 x c e, fun q hq => by cases hq⟩
  have whole : codeAny (model X.prog X.w) X.A (.compLoop (.DictComp kx vx [⟨tg, src, ifs, 0⟩] sc p0) 0 (.ref it) (.ref D) ce) (compPost (model X.prog X.w) X.A X.xe none
      (fun v t' => ∃ y G', Inv X ps τ G' t' ∧ RelV y v ∧ Q y G') (.ref D) t3.heap.objs.size) { t3 with heap := pushCells (t3.heap.push { cls := .type "dict", data := .dict #[] }) sc.names } := by
    refine compLoop_anyD (fun n u => ∃ i G', Inv (X.blk t3 G3 sc ce fs) [] (wipe τ (own.map (·.2))) G' u ∧ at_ i u.heap ∧ (∀ b ∈ fs, G' b = none) ∧ W i n G') ?_ m0
      ⟨0, G3, inv4, W2.keep _ _ _ now3 (fun b _ o e => pushCells_keeps _ _ _ _ (Heap.get?_push_of_some _ e)), none3, start⟩
    rintro n u5 ⟨i, G5, inv5, now5, none5, w5⟩
    rcases turns i n G5 w5 with ⟨stops, fin⟩ | ⟨goes, Nx, less, each⟩
    · refine thnF (W2.done (X.blk t3 G3 sc ce fs) rfl rfl rfl calm i [] u5 _ G5 (fun _ _ => False) inv5 (free_of inv5 none5) now5 stops) ?_
      rintro r u6 ⟨rfl, inv6⟩
      have back : Inv X ps τ G5 u6 := inv3.call' (ch := fs) inv6.os inv6.base inv6.hok inv6.bare fun b hb => by
        obtain ⟨_, z1, z2, z3, z4, z5⟩ := (ok3 b hb).1
        exact ⟨z3, z1, z4, z5⟩
      have noC : G5 t3.heap.objs.size = none := own_at ▸ (show G5 ce.locals = none from inv6.free)
      obtain ⟨m, ns, _⟩ := inv6.loc
      have ns' : u6.heap.Ns t3.heap.objs.size m := own_at ▸ (show u6.heap.Ns ce.locals m from ns)
      obtain ⟨f0, f1, f2, f3, f4, f5⟩ := inv3.fpOk (Nat.le_refl _) noC
      refine ⟨m, ns', fun g sb => ⟨.ref D, G5, back.turned (t' := u6.toks) (fun b o hb e => (sb.2 b hb).trans e) f0 f1 f3 f4 f5, rfl, fin⟩⟩
    · refine thnF (W2.item (X.blk t3 G3 sc ce fs) rfl rfl rfl calm i [] u5 _ G5 (fun _ _ => False) inv5 (free_of inv5 none5) now5 goes) ?_
      rintro r u6 ⟨v, rfl, more⟩
      refine thnF more fun _ u7 ⟨x, G7, inv7, rel7, y7, now7, none7⟩ => ?_
      have pin7 := inv7.pinned (free_of inv7 none7) (W2.obj _ _ now7)
      refine thnF (hg.run _ u7 _ G7 x v _ pin7 rel7 (each x G7 y7)) fun _ u8 ⟨τ8, G8, inv8, wp8, test8⟩ => ?_
      have ends : ∀ {u' : Shared} {G' : Hp}, Inv (X.blk t3 G3 sc ce fs) ([] ++ pinsAt fs u7.heap) τ8 G' u' → Nx G' →
          ∃ m, m < n ∧ ∃ i G', Inv (X.blk t3 G3 sc ce fs) [] (wipe τ (own.map (·.2))) G' u' ∧ at_ i u'.heap ∧ (∀ b ∈ fs, G' b = none) ∧ W i m G' := by
        intro u' G' iv nx
        obtain ⟨m', lt, w'⟩ := less G' nx
        have kept : ∀ b ∈ fs, ∀ o, u7.heap.get? b = some o → u'.heap.get? b = some o ∧ G' b = none := by
          intro b hb o e
          obtain ⟨k1, k2, _⟩ := iv.pin (b, o) (List.mem_append_right _ (List.mem_append_right _ (mem_pinsAt hb e)))
          exact ⟨k1, k2⟩
        have same_len : (wipe τ (own.map (·.2))).length = τ8.length := by rw [← wp8, wipe_length]
        refine ⟨m', lt, i + 1, G', (iv.unpinned (pins := [])).weak same_len (fun j v e => (wipe_some (wp8 ▸ e)).1), W2.keep _ _ _ now7 (fun b hb o e => (kept b hb o e).1), ?_, w'⟩
        intro b hb
        obtain ⟨o, e, _⟩ := W2.obj _ _ now7 b hb
        exact (kept b hb o e).2
      refine thnF (ht.run _ u8 τ8 G8 _ inv8 test8) fun b u9 ⟨G9, inv9, q9⟩ => ?_
      cases b
      · exact ends inv9 q9
      · refine thnF (hk.run _ u9 τ8 G9 _ inv9 q9) fun kv u10 ⟨yk, G10, inv10, rel10, q10⟩ => ?_
        refine thnF (hv.run _ u10 τ8 G10 _ inv10 q10) fun vv u11 ⟨yv, G11, inv11, rel11, put⟩ => ?_
        exact put_runs (X := X.blk t3 G3 sc ce fs) room inv11 put rel10 rel11 fun G' t' nx iv => ends iv nx
  have st4 := W2.keep _ _ _ now3 (fun b _ o e => pushCells_keeps sc.names (t3.heap.push { cls := .type "dict", data := .dict #[] }) b o (Heap.get?_push_of_some _ e))
  rw [ece] at whole
  subst et3
  exact codeAny_compStart_dict whole (W2.self X.A 0 _ _ _ st4 whole)
/-- what the first i turns leave in the new dict, each value true -/
def gatK (f : Nat → Option (List Key)) : Nat → List (List Key × V)
  | 0 => []
  | i + 1 => match f i with
    | none => gatK f i
    | some k => putK (gatK f i) k (.bl true)
theorem gatK_le (f : Nat → Option (List Key)) : ∀ i, (gatK f i).length ≤ i
  | 0 => Nat.le_refl _
  | i + 1 => by
    have := gatK_le f i
    show (match f i with | none => gatK f i | some k => putK (gatK f i) k (.bl true)).length ≤ i + 1
    cases f i with
    | none => exact Nat.le_succ_of_le this
    | some k => exact Nat.le_trans (length_putK _ _ _) (Nat.succ_le_succ this)
/-- {(..): True for .. if ..} that only makes objects -/
theorem dcT_fm {J : It} {n : Nat} {G : Hp → Prop} {Y : Nat → Hp → V → Hp → Prop} {g : TG} {tt : TT} {tk tv : TE} {vs : List Nat} {σ : L2.St} {H1 : Hp} {D : Addr} {Qd : Hp → Prop} (w : Walk J n G Y) (f : Nat → Option (List Key)) (nD : H1 D = none) (hz : n ≤ 1000000)
    (hG : ∀ H, Same H1 H → G H)
    (hs : ∀ i x H H' (NT : Hp → Prop) (NE : V → V → Hp → Prop), i < n → Same H1 H → Y i H x H' → (f i = none → ∀ H3, Same H H3 → NT H3) → (∀ k b H5, f i = some k → Same H H5 → H5 b = some (.tup (k.map kV)) → NE (.ref b) (.bl true) H5) →
      g x (wipe σ vs) H' fun σ2 H2 => wipe σ2 vs = wipe σ vs ∧ tt σ2 H2 fun b H3 => if b = true then tk σ2 H3 fun y H4 => tv σ2 H4 fun z H5 => NE y z H5 else NT H3)
    (hd : ∀ H, Same H1 H → H D = some (.dT (gatK f n)) → Qd H) :
    ∃ W : Nat → Nat → Hp → Prop, (∃ m, W 0 m (upd H1 D (.dT []))) ∧ ∀ i m H, W i m H →
      (J.stop i H ∧ Qd H) ∨ (J.go i H ∧ ∃ Nx : Hp → Prop, (∀ H', Nx H' → ∃ m', m' < m ∧ W (i + 1) m' H') ∧ ∀ x H', J.yld i H x H' → g x (wipe σ vs) H' fun σ2 H2 => wipe σ2 vs = wipe σ vs ∧ tt σ2 H2 fun b H3 =>
        if b = true then tk σ2 H3 fun y H4 => tv σ2 H4 fun z H5 => PutT H5 D y z Nx else Nx H3) := by
  let St : Nat → Hp → Prop := fun i H => Same H1 H ∧ H D = some (.dT (gatK f i))
  refine ⟨fun i m H => m = n - i ∧ i ≤ n ∧ St i H, ⟨n, rfl, Nat.zero_le _, same_upd nD, upd_same⟩, ?_⟩
  rintro i m H ⟨rfl, le, s1, hD⟩
  have fits := hG H s1
  by_cases lt : i < n
  · refine .inr ⟨w.goes i H lt fits, St (i + 1), fun H' p => ⟨n - (i + 1), by omega, rfl, lt, p⟩, fun x H' y => ?_⟩
    refine hs i x H H' _ (fun y z H5 => PutT H5 D y z (St (i + 1))) lt s1 (w.yields i H x H' lt fits y) (fun e H3 s3 => ⟨s1.trans s3, ?_⟩) (fun k b H5 e s5 hb => ?_)
    · show H3 D = some (.dT (match f i with | none => gatK f i | some k => putK (gatK f i) k (.bl true)))
      rw [e]
      exact s3 _ _ hD
    · refine ⟨gatK f i, k, b, rfl, s5 _ _ hD, hb, Nat.lt_of_le_of_lt (gatK_le f i) (by rw [sizeLine_eq]; omega), same_upd' (s1.trans s5) nD, ?_⟩
      show upd H5 D _ D = some (.dT (match f i with | none => gatK f i | some k => putK (gatK f i) k (.bl true)))
      rw [upd_same, e]
  · obtain rfl : i = n := by omega
    exact .inl ⟨w.stops H fits, hd H s1 hD⟩
end
end EV

/-! names, signs, makers and texts of libraries, as plain functions -/
namespace LM
open PySem TL L2
abbrev Rw := List Str
structure Op where
  sign : Str
  changed : List Str
  maker : Str
deriving DecidableEq
structure Lib where
  name : Str
  ps : List Str
  kept : List (Str × Str)
  hook : Option Str
  ops : List Op
deriving DecidableEq
def noFields : List Str := ["by", "changes", "name", "of", "to", "world"]
def binary : List Str := ["+", "-", "*", "//", "&", "|", "^", "<<", ">>"]
def unary : List Str := ["neg", "pos", "abs", "invert"]
def rootHooks : List Str := ["named", "call", "names", "renew", "copy", "bare"]
def makers0 : List Str := ["named", "call own", "names own", "bare own"]
def makers1 : List Str := ["named", "call own", "names own", "renew own", "copy own", "bare own", "hook"]
def makers2 : List Str := ["named", "call own", "call other", "call deeper", "call common", "names own", "names other", "names deeper", "names common", "renew own", "renew other", "renew deeper",
  "copy own", "copy other", "copy deeper", "bare own", "hook"]
def makersOf : Nat → List Str
  | 0 => makers0
  | 1 => makers1
  | _ => makers2
def within (lo hi : Nat) (l : List Nat) : Bool := l.all fun c => decide (lo ≤ c) && decide (c ≤ hi)
def small (w : Str) : Bool := decide (1 ≤ w.length) && decide (w.length ≤ 8) && within 97 122 (tl w)
def className (w : Str) : Bool := decide (1 ≤ w.length) && decide (w.length ≤ 8) && within 65 90 ((tl w).take 1) && within 97 122 ((tl w).drop 1)
def fieldName (w : Str) : Bool := small w && !noFields.contains w
def request (w : Str) : Bool := small w && !unary.contains w
def arity (w : Str) : Nat := if binary.contains w then 2 else if unary.contains w then 1 else 0
def firstRow (r : Rw) : Bool := match r with
  | [a, n] => a == "library" && className n
  | _ => false
def hookRow (r : Rw) : Bool := match r with
  | [a, w] => a == "hook" && rootHooks.contains w
  | _ => false
/-- one right `needs` row -/
def needsRow (r : Rw) (found : List Str) : Option Str := match r with
  | [a, f] => if a == "needs" && fieldName f && !found.contains f then some f else none
  | _ => none
def paramsM : List Rw → List Str → List Str
  | [], found => found
  | r :: rs, found => match needsRow r found with
    | some f => paramsM rs (found ++ [f])
    | none => found
def keepsRow (r : Rw) (known : List Str) : Option (Str × Str) := match r with
  | [a, f, o, s] => if a == "keeps" && o == "of" && fieldName f && !known.contains f && known.contains s then some (f, s) else none
  | _ => none
def keptM : List Rw → List Str → List (Str × Str) → List (Str × Str)
  | [], _, found => found
  | r :: rs, known, found => match keepsRow r known with
    | some p => keptM rs (known ++ [p.1]) (found ++ [p])
    | none => found
def selection (ws ps : List Str) : Bool := match ws with
  | [] => true
  | a :: chosen => a == "changes" && !chosen.isEmpty && decide (chosen = ps.filter fun f => chosen.contains f)
def requestM (r : Rw) (ps : List Str) : Option Op := match r with
  | a :: w :: b :: rest => if b == "by" && request w && makers0.contains (Str.join " " rest) then some ⟨w, ps, Str.join " " rest⟩ else none
  | _ => none
def opM (r : Rw) (ps : List Str) : Option Op := match r with
  | [] => none
  | s :: rest =>
    if s == "make" then requestM r ps
    else if (!binary.contains s && !unary.contains s) || !rest.contains "by" then none
    else
      let e := rest.findIdx (· == ("by" : Str))
      let maker := Str.join " " (rest.drop (e + 1))
      if !(makersOf (arity s)).contains maker || !selection (rest.take e) ps then none
      else some ⟨s, (rest.take e).drop 1, maker⟩
/-- from row k on: the operations, or the number of the first wrong row -/
def opsM (ps : List Str) (hook : Option Str) : Nat → List Rw → List Op → Except Nat (List Op)
  | _, [], found => .ok found
  | k, r :: rs, found => match opM r ps with
    | none => .error k
    | some o => if found.length = 6 || (found.map (·.sign)).contains o.sign || (o.maker == "hook" && hook.isNone) then .error k else opsM ps hook (k + 1) rs (found ++ [o])
def opsOf (rows : List Rw) (at_ : Nat) (ps : List Str) (hook : Option Str) : Except Nat (List Op) :=
  if at_ = rows.length then .error at_ else opsM ps hook at_ (rows.drop at_) []
def rowsM (z : Str) : List Rw := (Txt.split z "\n").map fun l => Txt.split l " "
def hookAt (rows : List Rw) (k : Nat) : Option Str := match rows[k]? with
  | some r => if hookRow r then some (r.getD 1 "") else none
  | none => none
def readRows (rows : List Rw) : Except Nat Lib :=
  if !firstRow (rows.headD []) then .error 0 else
  let ps := paramsM ((rows.drop 1).take 3) []
  if ps.isEmpty then .error 1 else
  let at1 := 1 + ps.length
  let kept := keptM ((rows.drop at1).take 2) ps []
  let at2 := at1 + kept.length
  let hk := hookAt rows at2
  let at3 := if hk.isSome then at2 + 1 else at2
  match opsOf rows at3 ps hk with
  | .error k => .error k
  | .ok ops => .ok ⟨(rows.headD []).getD 1 "", ps, kept, hk, ops⟩
def readM (z : Str) : Except Nat Lib := readRows (rowsM z)
def opLine (o : Op) : Str :=
  if arity o.sign = 0 then ("make " : Str) ++ o.sign ++ (" by " : Str) ++ o.maker
  else if o.changed = [] then o.sign ++ (" by " : Str) ++ o.maker
  else o.sign ++ (" changes " : Str) ++ Str.join " " o.changed ++ (" by " : Str) ++ o.maker
def rootLines (n : Str) (ps : List Str) (kept : List (Str × Str)) (hook : Option Str) : List Str :=
  [("library " : Str) ++ n] ++ ps.map (fun p => ("needs " : Str) ++ p) ++ kept.map (fun p => ("keeps " : Str) ++ p.1 ++ (" of " : Str) ++ p.2) ++ (match hook with | some h => [("hook " : Str) ++ h] | none => [])
def linesM (L : Lib) : List Str := rootLines L.name L.ps L.kept L.hook ++ L.ops.map opLine
def textM (L : Lib) : Str := Str.join "\n" (linesM L)
end LM

/-! the text of a library, cut into rows and read back -/
namespace LM
open PySem TL L2
/-! ### cutting at one sign -/
theorem pre1_self (s : Nat) (q : List Nat) : pre [s] (s :: q) = true := pre_self [s] q
theorem pre1_ne {s c : Nat} (q : List Nat) (h : c ≠ s) : pre [s] (c :: q) = false := pre_of_head [] q h
theorem spl1_app (s : Nat) : ∀ (p acc q : List Nat), spl [s] 0 acc (p ++ s :: q) = spl [s] 0 acc p ++ spl [s] 0 [] q
  | [], acc, q => by
    rw [List.nil_append, spl_hit (pre1_self s q), spl_nil]
    rfl
  | c :: p, acc, q => by
    by_cases h : c = s
    · subst h
      rw [List.cons_append, spl_hit (pre1_self _ _), spl_hit (pre1_self _ _)]
      show acc :: spl [c] 0 [] (p ++ c :: q) = acc :: spl [c] 0 [] p ++ spl [c] 0 [] q
      rw [spl1_app c p [] q]
      rfl
    · rw [List.cons_append, spl_miss (pre1_ne _ h), spl_miss (pre1_ne _ h), spl1_app s p _ q]
theorem spl1_join (s : Nat) : ∀ (p acc : List Nat), joinL [s] (spl [s] 0 acc p) = acc ++ p
  | [], acc => by
    rw [spl_nil, List.append_nil]
    rfl
  | c :: p, acc => by
    by_cases h : c = s
    · subst h
      rw [spl_hit (pre1_self _ _)]
      show joinL [c] (acc :: spl [c] 0 [] p) = _
      cases e : spl [c] 0 [] p with
      | nil =>
        have z := spl1_join c p []
        cases p with
        | nil => rw [spl_nil] at e; cases e
        | cons d r =>
          by_cases hd : d = c
          · subst hd; rw [spl_hit (pre1_self _ _)] at e; cases e
          · rw [e] at z; cases z
      | cons a r =>
        show acc ++ ([c] ++ joinL [c] (a :: r)) = _
        rw [← e, spl1_join c p []]
        rfl
    · rw [spl_miss (pre1_ne _ h), spl1_join s p _, List.append_assoc]
      rfl
theorem spl1_ne (s : Nat) (p acc : List Nat) : spl [s] 0 acc p ≠ [] := by
  cases p with
  | nil => rw [spl_nil]; simp
  | cons c p =>
    intro e
    induction p generalizing c acc with
    | nil =>
      by_cases h : c = s
      · subst h; rw [spl_hit (pre1_self _ _)] at e; cases e
      · rw [spl_miss (pre1_ne _ h), spl_nil] at e; cases e
    | cons d p ih =>
      by_cases h : c = s
      · subst h; rw [spl_hit (pre1_self _ _)] at e; cases e
      · rw [spl_miss (pre1_ne _ h)] at e
        exact ih _ _ e
theorem tl_sp : tl (" " : Str) = [32] := by decide +kernel
theorem tl_nl : tl ("\n" : Str) = [10] := by decide +kernel
theorem sp_all : ((" " : Str)).cps.all (· < 256) = true := by decide +kernel
theorem nl_all : (("\n" : Str)).cps.all (· < 256) = true := by decide +kernel
theorem split_sp (x : Str) : (Txt.split x " ").map tl = spl [32] 0 [] (tl x) := by
  rw [split_spl x " " (by rw [tl_sp]; simp) (kind_ok sp_all), tl_sp]
theorem split_app (x y : Str) : Txt.split (x ++ (" " : Str) ++ y) " " = Txt.split x " " ++ Txt.split y " " := by
  refine map_tl_inj ?_
  rw [List.map_append, split_sp, split_sp, split_sp, tl_append, tl_append, tl_sp, List.append_assoc]
  exact spl1_app 32 (tl x) [] (tl y)
theorem split_one {x : Str} (h : 32 ∉ tl x) : Txt.split x " " = [x] := by
  refine map_tl_inj ?_
  rw [split_sp, spl_last1 h]
  rfl
theorem join_split (x : Str) : Str.join " " (Txt.split x " ") = x := by
  refine ext_tl ?_
  rw [tl_join, split_sp, tl_sp, spl1_join 32 (tl x) [], List.nil_append]
theorem split_ne (x : Str) : Txt.split x " " ≠ [] := fun e => by
  have z := split_sp x
  rw [e] at z
  exact spl1_ne 32 (tl x) [] z.symm
theorem split_nl_ne (x : Str) : Txt.split x "\n" ≠ [] := fun e => by
  have z := split_spl x "\n" (by rw [tl_nl]; simp) (kind_ok nl_all)
  rw [e, tl_nl] at z
  exact spl1_ne 10 (tl x) [] z.symm
/-! ### words without blanks -/
def Plain (w : Str) : Prop := 32 ∉ tl w ∧ 10 ∉ tl w
def NoNl (w : Str) : Prop := 10 ∉ tl w
instance (w : Str) : Decidable (Plain w) := inferInstanceAs (Decidable (_ ∧ _))
instance (w : Str) : Decidable (NoNl w) := inferInstanceAs (Decidable (_ ∉ _))
theorem NoNl.app {x y : Str} (h : NoNl x) (k : NoNl y) : NoNl (x ++ y) := by
  unfold NoNl at *
  rw [tl_append, List.mem_append]
  exact fun z => z.elim h k
theorem join_cons2 (s x y : Str) (r : List Str) : Str.join s (x :: y :: r) = x ++ s ++ Str.join s (y :: r) := rfl
theorem split_joinP {ws : List Str} (hne : ws ≠ []) (h : ∀ w ∈ ws, Plain w) : Txt.split (Str.join " " ws) " " = ws := by
  have := split_join (y := (" " : Str)) (s := 32) (S := []) tl_sp sp_all hne (fun p hp => (h p hp).1)
  rwa [join_eq] at this
theorem nonl_join {s : Str} (hs : NoNl s) : ∀ {ws : List Str}, (∀ w ∈ ws, NoNl w) → NoNl (Str.join s ws)
  | [], _ => fun z => by cases z
  | [x], h => h x (List.mem_singleton.mpr rfl)
  | x :: y :: r, h => ((h x (List.mem_cons_self ..)).app hs).app (nonl_join hs fun w hw => h w (List.mem_cons_of_mem _ hw))
theorem within_ne {lo hi c : Nat} {l : List Nat} (h : within lo hi l = true) (hc : c < lo ∨ hi < c) : c ∉ l := fun hm => by
  have := List.all_eq_true.mp h c hm
  simp only [Bool.and_eq_true, decide_eq_true_eq] at this
  omega
theorem plain_small {w : Str} (h : small w = true) : Plain w := by
  unfold small at h
  rw [Bool.and_eq_true] at h
  exact ⟨within_ne h.2 (by omega), within_ne h.2 (by omega)⟩
theorem plain_class {w : Str} (h : className w = true) : Plain w := by
  unfold className at h
  rw [Bool.and_eq_true, Bool.and_eq_true] at h
  have e : tl w = (tl w).take 1 ++ (tl w).drop 1 := (List.take_append_drop 1 _).symm
  constructor
  · rw [e, List.mem_append]
    exact fun z => z.elim (within_ne h.1.2 (by omega)) (within_ne h.2 (by omega))
  · rw [e, List.mem_append]
    exact fun z => z.elim (within_ne h.1.2 (by omega)) (within_ne h.2 (by omega))
theorem plain_field {w : Str} (h : fieldName w = true) : Plain w := by
  unfold fieldName at h
  rw [Bool.and_eq_true] at h
  exact plain_small h.1
theorem plain_of {l : List Str} (h : ∀ w ∈ l, Plain w) {w : Str} (k : l.contains w = true) : Plain w := h w (List.contains_iff_mem.mp k)
/-! ### the rows of a library -/
def opRow (o : Op) : Rw :=
  if arity o.sign = 0 then ([("make" : Str), o.sign, ("by" : Str)] : Rw) ++ Txt.split o.maker " "
  else if o.changed = [] then ([o.sign, ("by" : Str)] : Rw) ++ Txt.split o.maker " "
  else ([o.sign, ("changes" : Str)] : Rw) ++ o.changed ++ ([("by" : Str)] : Rw) ++ Txt.split o.maker " "
def rootRows (n : Str) (ps : List Str) (kept : List (Str × Str)) (hook : Option Str) : List Rw :=
  ([[("library" : Str), n]] : List Rw) ++ ps.map (fun p => [("needs" : Str), p]) ++ kept.map (fun p => [("keeps" : Str), p.1, ("of" : Str), p.2]) ++ (match hook with | some h => [[("hook" : Str), h]] | none => [])
def rowsOf (L : Lib) : List Rw := rootRows L.name L.ps L.kept L.hook ++ L.ops.map opRow
/-- names that make no trouble in a text -/
structure Clean (L : Lib) : Prop where
  name : Plain L.name
  ps : ∀ p ∈ L.ps, Plain p
  kept : ∀ p ∈ L.kept, Plain p.1 ∧ Plain p.2
  hook : ∀ h, L.hook = some h → Plain h
  ops : ∀ o ∈ L.ops, Plain o.sign ∧ (∀ p ∈ o.changed, Plain p) ∧ NoNl o.maker
theorem split_two {x y : Str} (hx : Plain x) (hy : Plain y) : Txt.split (x ++ (" " : Str) ++ y) " " = [x, y] := by
  rw [split_app, split_one hx.1, split_one hy.1]
  rfl
theorem app_assoc (x y z : Str) : x ++ y ++ z = x ++ (y ++ z) := ext_tl (by simp only [tl_append, List.append_assoc])
theorem opLine_row {o : Op} (h : Plain o.sign) (hc : ∀ p ∈ o.changed, Plain p) : Txt.split (opLine o) " " = opRow o := by
  unfold opLine opRow
  have e1 : ("make " : Str) = ("make" : Str) ++ (" " : Str) := by decide +kernel
  have e2 : (" by " : Str) = (" " : Str) ++ ("by" : Str) ++ (" " : Str) := by decide +kernel
  have e3 : (" changes " : Str) = (" " : Str) ++ ("changes" : Str) ++ (" " : Str) := by decide +kernel
  have b : Txt.split ("by" : Str) " " = [("by" : Str)] := split_one (x := ("by" : Str)) (by decide +kernel)
  have m : Txt.split ("make" : Str) " " = [("make" : Str)] := split_one (x := ("make" : Str)) (by decide +kernel)
  have c : Txt.split ("changes" : Str) " " = [("changes" : Str)] := split_one (x := ("changes" : Str)) (by decide +kernel)
  by_cases h0 : arity o.sign = 0
  · rw [if_pos h0, if_pos h0, e1, e2]
    have e : ("make" : Str) ++ (" " : Str) ++ o.sign ++ ((" " : Str) ++ ("by" : Str) ++ (" " : Str)) ++ o.maker = ("make" : Str) ++ (" " : Str) ++ (o.sign ++ (" " : Str) ++ (("by" : Str) ++ (" " : Str) ++ o.maker)) := by
      simp only [app_assoc]
    rw [e, split_app, split_app, split_app, m, b, split_one h.1]
    rfl
  · rw [if_neg h0, if_neg h0]
    by_cases h1 : o.changed = []
    · rw [if_pos h1, if_pos h1, e2]
      have e : o.sign ++ ((" " : Str) ++ ("by" : Str) ++ (" " : Str)) ++ o.maker = o.sign ++ (" " : Str) ++ (("by" : Str) ++ (" " : Str) ++ o.maker) := by simp only [app_assoc]
      rw [e, split_app, split_app, b, split_one h.1]
      rfl
    · rw [if_neg h1, if_neg h1, e2, e3]
      have e : o.sign ++ ((" " : Str) ++ ("changes" : Str) ++ (" " : Str)) ++ Str.join " " o.changed ++ ((" " : Str) ++ ("by" : Str) ++ (" " : Str)) ++ o.maker
          = o.sign ++ (" " : Str) ++ (("changes" : Str) ++ (" " : Str) ++ (Str.join " " o.changed ++ (" " : Str) ++ (("by" : Str) ++ (" " : Str) ++ o.maker))) := by simp only [app_assoc]
      rw [e, split_app, split_app, split_app, split_app, b, c, split_one h.1, split_joinP h1 hc]
      simp only [List.append_assoc, List.cons_append, List.nil_append]
theorem lines_rows {L : Lib} (C : Clean L) : (linesM L).map (fun l => Txt.split l " ") = rowsOf L := by
  unfold linesM rowsOf rootLines rootRows
  have k2 : ∀ {w : Str} (x : Str), Plain w → Plain x → Txt.split (w ++ (" " : Str) ++ x) " " = [w, x] := fun x hw hx => split_two hw hx
  have e1 : ("library " : Str) = ("library" : Str) ++ (" " : Str) := by decide +kernel
  have e2 : ("needs " : Str) = ("needs" : Str) ++ (" " : Str) := by decide +kernel
  have e3 : ("keeps " : Str) = ("keeps" : Str) ++ (" " : Str) := by decide +kernel
  have e4 : (" of " : Str) = (" " : Str) ++ ("of" : Str) ++ (" " : Str) := by decide +kernel
  have e5 : ("hook " : Str) = ("hook" : Str) ++ (" " : Str) := by decide +kernel
  simp only [List.map_append, List.map_map]
  congr 1
  · congr 1
    · congr 1
      · congr 1
        · show [Txt.split (("library " : Str) ++ L.name) " "] = _
          rw [e1, k2 _ (by decide +kernel) C.name]
        · refine List.map_congr_left fun p hp => ?_
          show Txt.split (("needs " : Str) ++ p) " " = _
          rw [e2, k2 _ (by decide +kernel) (C.ps p hp)]
      · refine List.map_congr_left fun p hp => ?_
        show Txt.split (("keeps " : Str) ++ p.1 ++ (" of " : Str) ++ p.2) " " = _
        have e : ("keeps" : Str) ++ (" " : Str) ++ p.1 ++ ((" " : Str) ++ ("of" : Str) ++ (" " : Str)) ++ p.2 = ("keeps" : Str) ++ (" " : Str) ++ (p.1 ++ (" " : Str) ++ (("of" : Str) ++ (" " : Str) ++ p.2)) := by simp only [app_assoc]
        rw [e3, e4, e, split_app, split_app, split_app, split_one (by decide +kernel), split_one (C.kept p hp).1.1, split_one (by decide +kernel), split_one (C.kept p hp).2.1]
        rfl
    · cases e : L.hook with
      | none => rfl
      | some h =>
        show [Txt.split (("hook " : Str) ++ h) " "] = _
        rw [e5, k2 _ (by decide +kernel) (C.hook h e)]
  · refine List.map_congr_left fun o ho => ?_
    exact opLine_row (C.ops o ho).1 (C.ops o ho).2.1
theorem lines_ne (L : Lib) : linesM L ≠ [] := by
  unfold linesM rootLines
  simp
theorem nonl_lit {z : Str} (h : (tl z).contains 10 = false) : NoNl z := fun k => by
  rw [List.contains_iff_mem.mpr k] at h
  cases h
theorem lines_nl {L : Lib} (C : Clean L) : ∀ l ∈ linesM L, NoNl l := by
  intro l hl
  unfold linesM rootLines at hl
  simp only [List.mem_append, List.mem_map] at hl
  have a1 : NoNl ("library " : Str) := nonl_lit (by decide +kernel)
  have a2 : NoNl ("needs " : Str) := nonl_lit (by decide +kernel)
  have a3 : NoNl ("keeps " : Str) := nonl_lit (by decide +kernel)
  have a4 : NoNl (" of " : Str) := nonl_lit (by decide +kernel)
  have a5 : NoNl ("hook " : Str) := nonl_lit (by decide +kernel)
  have a6 : NoNl ("make " : Str) := nonl_lit (by decide +kernel)
  have a7 : NoNl (" by " : Str) := nonl_lit (by decide +kernel)
  have a8 : NoNl (" changes " : Str) := nonl_lit (by decide +kernel)
  have a9 : NoNl (" " : Str) := nonl_lit (by decide +kernel)
  rcases hl with (((hl | ⟨p, hp, rfl⟩) | ⟨p, hp, rfl⟩) | hl) | ⟨o, ho, rfl⟩
  · rw [List.mem_singleton.mp hl]
    exact a1.app C.name.2
  · exact a2.app (C.ps p hp).2
  · exact ((a3.app (C.kept p hp).1.2).app a4).app (C.kept p hp).2.2
  · cases e : L.hook with
    | none => rw [e] at hl; cases hl
    | some h =>
      rw [e] at hl
      rw [List.mem_singleton.mp hl]
      exact a5.app (C.hook h e).2
  · obtain ⟨h1, h2, h3⟩ := C.ops o ho
    unfold opLine
    split
    · exact ((a6.app h1.2).app a7).app h3
    · split
      · exact (NoNl.app (x := o.sign) h1.2 a7).app h3
      · exact (((NoNl.app (x := o.sign) h1.2 a8).app (nonl_join a9 fun w hw => (h2 w hw).2)).app a7).app h3
theorem rows_text {L : Lib} (C : Clean L) : rowsM (textM L) = rowsOf L := by
  unfold rowsM textM
  have := split_join (y := ("\n" : Str)) (s := 10) (S := []) tl_nl nl_all (lines_ne L) (fun p hp => lines_nl C p hp)
  rw [join_eq] at this
  rw [this]
  exact lines_rows C
end LM

/-! the rows of a right library, read -/
namespace LM
open PySem TL L2
def KeptOk : List Str → List (Str × Str) → Prop
  | _, [] => True
  | known, p :: r => fieldName p.1 = true ∧ p.1 ∉ known ∧ p.2 ∈ known ∧ KeptOk (known ++ [p.1]) r
structure RootOk (n : Str) (ps : List Str) (kept : List (Str × Str)) (hook : Option Str) : Prop where
  name : className n = true
  ps0 : ps ≠ []
  ps3 : ps.length ≤ 3
  pf : ∀ p ∈ ps, fieldName p = true
  nd : ps.Nodup
  kept2 : kept.length ≤ 2
  ko : KeptOk ps kept
  hk : ∀ h, hook = some h → h ∈ rootHooks
def needsR (p : Str) : Rw := [("needs" : Str), p]
def keepsR (p : Str × Str) : Rw := [("keeps" : Str), p.1, ("of" : Str), p.2]
theorem needs_none {a : Str} {t : List Str} {found : List Str} (h : a ≠ "needs") : needsRow (a :: t) found = none := by
  unfold needsRow
  split
  · rename_i x f e
    have e1 : a = x := by injection e
    have : (x == ("needs" : Str)) = false := by rw [← e1]; simpa using h
    rw [this]
    rfl
  · rfl
theorem keeps_none {a : Str} {t : List Str} {known : List Str} (h : a ≠ "keeps") : keepsRow (a :: t) known = none := by
  unfold keepsRow
  split
  · rename_i x f o s e
    have e1 : a = x := by injection e
    have : (x == ("keeps" : Str)) = false := by rw [← e1]; simpa using h
    rw [this]
    rfl
  · rfl
theorem hook_none {a : Str} {t : List Str} (h : a ≠ "hook") : hookRow (a :: t) = false := by
  unfold hookRow
  split
  · rename_i x f e
    have e1 : a = x := by injection e
    have : (x == ("hook" : Str)) = false := by rw [← e1]; simpa using h
    rw [this]
    rfl
  · rfl
theorem params_stop {rest : List Rw} {found : List Str} (h : ∀ r ∈ rest.head?, needsRow r found = none) : paramsM rest found = found := by
  cases rest with
  | nil => rfl
  | cons r rs =>
    unfold paramsM
    rw [h r rfl]
theorem params_run : ∀ (ps found : List Str) (rest : List Rw), (∀ p ∈ ps, fieldName p = true) → (found ++ ps).Nodup → (∀ r ∈ rest.head?, needsRow r (found ++ ps) = none) → paramsM (ps.map needsR ++ rest) found = found ++ ps
  | [], found, rest, _, _, h => by
    rw [List.append_nil] at h ⊢
    exact params_stop h
  | p :: ps, found, rest, hf, nd, h => by
    have e : found ++ p :: ps = (found ++ [p]) ++ ps := by rw [List.append_assoc]; rfl
    have np : p ∉ found := by
      intro hm
      rw [List.nodup_append] at nd
      exact nd.2.2 p hm p (List.mem_cons_self ..) rfl
    have q : needsRow (needsR p) found = some p := by
      show (if (("needs" : Str) == "needs") && fieldName p && !found.contains p then some p else none) = some p
      rw [hf p (List.mem_cons_self ..), show found.contains p = false by simpa using np]
      rfl
    show paramsM (needsR p :: (ps.map needsR ++ rest)) found = _
    unfold paramsM
    rw [q]
    rw [e] at nd h ⊢
    exact params_run ps (found ++ [p]) rest (fun z hz => hf z (List.mem_cons_of_mem _ hz)) nd h
theorem kept_stop {rest : List Rw} {known : List Str} {found : List (Str × Str)} (h : ∀ r ∈ rest.head?, ∀ kn, keepsRow r kn = none) : keptM rest known found = found := by
  cases rest with
  | nil => rfl
  | cons r rs =>
    unfold keptM
    rw [h r rfl]
theorem kept_run : ∀ (kept : List (Str × Str)) (known : List Str) (found : List (Str × Str)) (rest : List Rw), KeptOk known kept → (∀ r ∈ rest.head?, ∀ kn, keepsRow r kn = none) → keptM (kept.map keepsR ++ rest) known found = found ++ kept
  | [], known, found, rest, _, h => by
    rw [List.append_nil]
    exact kept_stop h
  | p :: r, known, found, rest, ko, h => by
    obtain ⟨k1, k2, k3, k4⟩ := ko
    have q : keepsRow (keepsR p) known = some p := by
      show (if (("keeps" : Str) == "keeps") && (("of" : Str) == "of") && fieldName p.1 && !known.contains p.1 && known.contains p.2 then some (p.1, p.2) else none) = some p
      rw [k1, show known.contains p.1 = false by simpa using k2, show known.contains p.2 = true by simpa using k3]
      rfl
    show keptM (keepsR p :: (r.map keepsR ++ rest)) known found = _
    unfold keptM
    rw [q]
    have e : found ++ p :: r = (found ++ [p]) ++ r := by rw [List.append_assoc]; rfl
    rw [e]
    exact kept_run r _ _ rest k4 h
/-- rows that begin no root line -/
def Free (R : List Rw) : Prop := ∀ r ∈ R, ∃ a t, r = a :: t ∧ a ≠ ("needs" : Str) ∧ a ≠ ("keeps" : Str) ∧ a ≠ ("hook" : Str)
def hookRows (hook : Option Str) : List Rw := match hook with | some h => [[("hook" : Str), h]] | none => []
theorem read_root {n : Str} {ps : List Str} {kept : List (Str × Str)} {hook : Option Str} {R : List Rw} (C : RootOk n ps kept hook) (F : Free R) :
    readRows (rootRows n ps kept hook ++ R) = match opsOf (rootRows n ps kept hook ++ R) (rootRows n ps kept hook).length ps hook with
      | .error k => .error k
      | .ok ops => .ok ⟨n, ps, kept, hook, ops⟩ := by
  have er : rootRows n ps kept hook ++ R = [("library" : Str), n] :: (ps.map needsR ++ (kept.map keepsR ++ (hookRows hook ++ R))) := by
    unfold rootRows hookRows
    simp only [List.append_assoc, List.cons_append, List.nil_append]
    rfl
  have el : (rootRows n ps kept hook).length = 1 + ps.length + kept.length + (hookRows hook).length := by
    unfold rootRows hookRows
    first
      | (simp only [List.length_append, List.length_map, List.length_cons, List.length_nil, Nat.zero_add]; cases hook <;> rfl)
      | simp only [List.length_append, List.length_map, List.length_cons, List.length_nil, Nat.zero_add]
  rw [er, el]
  generalize hrows : [("library" : Str), n] :: (ps.map needsR ++ (kept.map keepsR ++ (hookRows hook ++ R))) = rows
  have h1 : rows.headD [] = [("library" : Str), n] := by rw [← hrows]; rfl
  have d1 : rows.drop 1 = ps.map needsR ++ (kept.map keepsR ++ (hookRows hook ++ R)) := by rw [← hrows]; rfl
  have hdF : ∀ r ∈ (hookRows hook ++ R).head?, (∀ kn, keepsRow r kn = none) ∧ ∀ f, needsRow r f = none := by
    intro r hr
    cases hook with
    | some h =>
      obtain rfl : [("hook" : Str), h] = r := by simpa [hookRows] using hr
      exact ⟨fun kn => keeps_none (by decide +kernel), fun f => needs_none (by decide +kernel)⟩
    | none =>
      cases R with
      | nil => cases hr
      | cons x xs =>
        obtain rfl : x = r := by simpa [hookRows] using hr
        obtain ⟨a, t, rfl, a1, a2, a3⟩ := F _ (List.mem_cons_self ..)
        exact ⟨fun kn => keeps_none a2, fun f => needs_none a1⟩
  have hP : paramsM ((rows.drop 1).take 3) [] = ps := by
    rw [d1, List.take_append, List.take_of_length_le (by rw [List.length_map]; exact C.ps3)]
    rw [params_run ps [] _ C.pf (by simpa using C.nd) ?_]
    · rfl
    · intro r hr
      have hr2 : r ∈ (kept.map keepsR ++ (hookRows hook ++ R)).head? := by
        rw [List.length_map] at hr
        cases e : 3 - ps.length with
        | zero => rw [e, List.take_zero] at hr; cases hr
        | succ j =>
          rw [e] at hr
          cases z : kept.map keepsR ++ (hookRows hook ++ R) with
          | nil => rw [z] at hr; cases hr
          | cons x xs => rw [z] at hr; exact hr
      cases kept with
      | nil => exact (hdF r hr2).2 _
      | cons p q =>
        obtain rfl : keepsR p = r := by simpa using hr2
        exact needs_none (by decide +kernel)
  have d2 : rows.drop (1 + ps.length) = kept.map keepsR ++ (hookRows hook ++ R) := by
    rw [← List.drop_drop, d1]
    exact List.drop_left' (by rw [List.length_map])
  have hK : keptM ((rows.drop (1 + ps.length)).take 2) ps [] = kept := by
    rw [d2, List.take_append, List.take_of_length_le (by rw [List.length_map]; exact C.kept2)]
    rw [kept_run kept ps [] _ C.ko ?_]
    · rfl
    · intro r hr
      have hr2 : r ∈ (hookRows hook ++ R).head? := by
        rw [List.length_map] at hr
        cases e : 2 - kept.length with
        | zero => rw [e, List.take_zero] at hr; cases hr
        | succ j =>
          rw [e] at hr
          cases z : hookRows hook ++ R with
          | nil => rw [z] at hr; cases hr
          | cons x xs => rw [z] at hr; exact hr
      exact (hdF r hr2).1
  have d3 : rows.drop (1 + ps.length + kept.length) = hookRows hook ++ R := by
    rw [← List.drop_drop, d2]
    exact List.drop_left' (by rw [List.length_map])
  have g3 : rows[1 + ps.length + kept.length]? = (hookRows hook ++ R).head? := by
    rw [← d3, List.head?_drop]
  have hH : hookAt rows (1 + ps.length + kept.length) = hook := by
    unfold hookAt
    rw [g3]
    cases hook with
    | some h =>
      have q : hookRow [("hook" : Str), h] = true := by
        show ((("hook" : Str) == "hook") && rootHooks.contains h) = true
        rw [show rootHooks.contains h = true by simpa using C.hk h rfl]
        rfl
      show (if hookRow [("hook" : Str), h] then some h else none) = some h
      rw [q]
      rfl
    | none =>
      cases R with
      | nil => rfl
      | cons x xs =>
        obtain ⟨a, t, rfl, a1, a2, a3⟩ := F _ (List.mem_cons_self ..)
        show (if hookRow (a :: t) then some ((a :: t).getD 1 "") else none) = none
        rw [hook_none a3]
        rfl
  have hE : ps.isEmpty = false := by
    cases ps with
    | nil => exact absurd rfl C.ps0
    | cons _ _ => rfl
  have hF : firstRow [("library" : Str), n] = true := by
    show ((("library" : Str) == "library") && className n) = true
    rw [C.name]
    rfl
  unfold readRows
  simp only [h1, hF, hP, hE, hK, hH, Bool.not_true, Bool.false_eq_true, if_false]
  have h3 : (if hook.isSome = true then 1 + ps.length + kept.length + 1 else 1 + ps.length + kept.length) = 1 + ps.length + kept.length + (hookRows hook).length := by
    cases hook <;> rfl
  rw [h3]
  rfl
theorem opsOf_root {n : Str} {ps : List Str} {kept : List (Str × Str)} {hook : Option Str} {R : List Rw} (h : R ≠ []) :
    opsOf (rootRows n ps kept hook ++ R) (rootRows n ps kept hook).length ps hook = opsM ps hook (rootRows n ps kept hook).length R [] := by
  unfold opsOf
  rw [if_neg ?_, List.drop_left]
  rw [List.length_append]
  have := List.length_pos_iff.mpr h
  omega
/-! ### operations -/
/-- sign and changed parameters are right; a request changes all -/
structure OpForm (ps : List Str) (o : Op) : Prop where
  sg : binary.contains o.sign = true ∨ unary.contains o.sign = true ∨ (request o.sign = true ∧ o.changed = ps)
  ch : o.changed = ps.filter fun f => o.changed.contains f
  nb : ∀ p ∈ o.changed, p ≠ ("by" : Str)
theorem free_op {ps : List Str} {o : Op} (h : OpForm ps o) (hr : arity o.sign = 0 ∨ binary.contains o.sign = true ∨ unary.contains o.sign = true) : ∃ a t, opRow o = a :: t ∧ a ≠ ("needs" : Str) ∧ a ≠ ("keeps" : Str) ∧ a ≠ ("hook" : Str) := by
  unfold opRow
  by_cases h0 : arity o.sign = 0
  · rw [if_pos h0]
    exact ⟨("make" : Str), _, rfl, by decide +kernel, by decide +kernel, by decide +kernel⟩
  · rw [if_neg h0]
    have hb : o.sign ∈ binary ∨ o.sign ∈ unary := by
      rcases hr with hr | hr | hr
      · exact absurd hr h0
      · exact .inl (List.contains_iff_mem.mp hr)
      · exact .inr (List.contains_iff_mem.mp hr)
    have key : ∀ s ∈ binary ++ unary, s ≠ ("needs" : Str) ∧ s ≠ ("keeps" : Str) ∧ s ≠ ("hook" : Str) := by decide +kernel
    have k := key o.sign (List.mem_append.mpr hb)
    split
    · exact ⟨o.sign, _, rfl, k.1, k.2.1, k.2.2⟩
    · exact ⟨o.sign, _, rfl, k.1, k.2.1, k.2.2⟩
theorem arity_bin {s : Str} (h : binary.contains s = true) : arity s = 2 := by
  unfold arity
  rw [if_pos h]
theorem arity_un {s : Str} (h : binary.contains s = false) (h2 : unary.contains s = true) : arity s = 1 := by
  unfold arity
  rw [h, h2]
  rfl
theorem bin_not_small : ∀ s ∈ binary, small s = false := by decide +kernel
theorem arity_req {s : Str} (h : request s = true) : arity s = 0 ∧ binary.contains s = false ∧ unary.contains s = false := by
  unfold request at h
  rw [Bool.and_eq_true, Bool.not_eq_true'] at h
  have hb : binary.contains s = false := by
    cases e : binary.contains s with
    | false => rfl
    | true =>
      have z := bin_not_small s (List.contains_iff_mem.mp e)
      rw [h.1] at z
      cases z
  refine ⟨?_, hb, h.2⟩
  unfold arity
  rw [hb, h.2]
  rfl
theorem findIdx_by {pre : List Str} {rest : List Str} (h : ∀ p ∈ pre, p ≠ ("by" : Str)) : (pre ++ ("by" : Str) :: rest).findIdx (· == ("by" : Str)) = pre.length := by
  rw [List.findIdx_append]
  have : pre.findIdx (· == ("by" : Str)) = pre.length := List.findIdx_eq_length.mpr fun x hx => by simpa using h x hx
  rw [this]
  simp [List.findIdx_cons]
theorem opM_row {ps : List Str} {o : Op} (h : OpForm ps o) (hps : ps ≠ []) : opM (opRow o) ps = if (makersOf (arity o.sign)).contains o.maker then some o else none := by
  by_cases hr : request o.sign = true ∧ binary.contains o.sign = false ∧ unary.contains o.sign = false
  · obtain ⟨hq, hb, hu⟩ := hr
    have ec : o.changed = ps := by
      rcases h.sg with z | z | z
      · rw [z] at hb; cases hb
      · rw [z] at hu; cases hu
      · exact z.2
    obtain ⟨a0, _, _⟩ := arity_req hq
    have e : opRow o = ("make" : Str) :: o.sign :: ("by" : Str) :: Txt.split o.maker " " := by
      unfold opRow
      rw [if_pos a0]
      rfl
    rw [e, a0]
    show requestM (("make" : Str) :: o.sign :: ("by" : Str) :: Txt.split o.maker " ") ps = _
    unfold requestM
    simp only [join_split]
    show (if (("by" : Str) == "by") && request o.sign && makers0.contains o.maker then some (⟨o.sign, ps, o.maker⟩ : Op) else none) = if makers0.contains o.maker then some o else none
    rw [hq, ← ec]
    rfl
  · have hs : binary.contains o.sign = true ∨ unary.contains o.sign = true := by
      rcases h.sg with z | z | z
      · exact .inl z
      · exact .inr z
      · exact absurd ⟨z.1, (arity_req z.1).2⟩ hr
    have a0 : arity o.sign ≠ 0 := by
      rcases hs with z | z
      · rw [arity_bin z]; decide
      · cases e : binary.contains o.sign with
        | true => rw [arity_bin e]; decide
        | false => rw [arity_un e z]; decide
    have nm : o.sign ≠ ("make" : Str) := by
      have key : ∀ s ∈ binary ++ unary, s ≠ ("make" : Str) := by decide +kernel
      exact key o.sign (List.mem_append.mpr (hs.imp (fun z => List.contains_iff_mem.mp z) fun z => List.contains_iff_mem.mp z))
    have hpre : ∃ pre : List Str, opRow o = o.sign :: (pre ++ ("by" : Str) :: Txt.split o.maker " ") ∧ (∀ p ∈ pre, p ≠ ("by" : Str)) ∧ selection pre ps = true ∧ pre.drop 1 = o.changed := by
      unfold opRow
      rw [if_neg a0]
      by_cases hc : o.changed = []
      · rw [if_pos hc]
        exact ⟨[], rfl, (fun p hp => by cases hp), rfl, by rw [hc]; rfl⟩
      · rw [if_neg hc]
        refine ⟨("changes" : Str) :: o.changed, by simp, ?_, ?_, rfl⟩
        · intro p hp
          rcases List.mem_cons.mp hp with rfl | hp
          · decide +kernel
          · exact h.nb p hp
        · have e1 : o.changed.isEmpty = false := by
            cases e : o.changed with
            | nil => exact absurd e hc
            | cons _ _ => rfl
          show ((("changes" : Str) == "changes") && !o.changed.isEmpty && decide (o.changed = ps.filter fun f => o.changed.contains f)) = true
          rw [e1, decide_eq_true h.ch]
          rfl
    obtain ⟨pre, e, hb, hsel, hd⟩ := hpre
    rw [e]
    unfold opM
    have n1 : (o.sign == ("make" : Str)) = false := by simpa using nm
    have n2 : (!binary.contains o.sign && !unary.contains o.sign) = false := by
      rcases hs with z | z <;> rw [z] <;> simp
    have n3 : (pre ++ ("by" : Str) :: Txt.split o.maker " ").contains "by" = true := by simp
    have ft : (pre ++ ("by" : Str) :: Txt.split o.maker " ").take pre.length = pre := List.take_left
    have fd : (pre ++ ("by" : Str) :: Txt.split o.maker " ").drop (pre.length + 1) = Txt.split o.maker " " := by
      rw [← List.drop_drop, List.drop_left]
      rfl
    simp only [n1, n2, n3, findIdx_by hb, ft, fd, join_split, hsel, hd, Bool.not_true, Bool.or_false, Bool.false_eq_true, if_false]
    cases (makersOf (arity o.sign)).contains o.maker <;> rfl
/-- the maker is allowed -/
def mkOk (hook : Option Str) (o : Op) : Bool := (makersOf (arity o.sign)).contains o.maker && !(o.maker == "hook" && hook.isNone)
theorem ops_run {ps : List Str} {hook : Option Str} (hps : ps ≠ []) : ∀ (ops : List Op) (k : Nat) (found : List Op), (∀ o ∈ ops, OpForm ps o) → found.length + ops.length ≤ 6 → ((found ++ ops).map (·.sign)).Nodup →
    (ops.all (mkOk hook) = true → opsM ps hook k (ops.map opRow) found = .ok (found ++ ops)) ∧ (ops.all (mkOk hook) = false → ∃ i, opsM ps hook k (ops.map opRow) found = .error i)
  | [], k, found, _, _, _ => ⟨fun _ => by rw [List.append_nil]; rfl, fun h => by cases h⟩
  | o :: ops, k, found, hf, hl, nd => by
    have e : found ++ o :: ops = (found ++ [o]) ++ ops := by rw [List.append_assoc]; rfl
    have hl' : found.length + 1 + ops.length ≤ 6 := by
      rw [List.length_cons] at hl
      omega
    have nn : (found.map (·.sign)).contains o.sign = false := by
      rw [List.map_append, List.nodup_append] at nd
      cases z : (found.map (·.sign)).contains o.sign with
      | false => rfl
      | true => exact absurd rfl (nd.2.2 o.sign (List.contains_iff_mem.mp z) o.sign (List.mem_cons_self ..))
    have ih := ops_run (hook := hook) hps ops (k + 1) (found ++ [o]) (fun z hz => hf z (List.mem_cons_of_mem _ hz)) (by rw [List.length_append]; exact hl') (by rw [← e]; exact nd)
    have step : opsM ps hook k (opRow o :: ops.map opRow) found = if mkOk hook o = true then opsM ps hook (k + 1) (ops.map opRow) (found ++ [o]) else .error k := by
      show (match opM (opRow o) ps with
        | none => Except.error k
        | some (o : Op) => if found.length = 6 || (found.map (fun z : Op => z.sign)).contains o.sign || (o.maker == "hook" && hook.isNone) then .error k else opsM ps hook (k + 1) (ops.map opRow) (found ++ [o])) = _
      rw [opM_row (hf o (List.mem_cons_self ..)) hps]
      unfold mkOk
      cases (makersOf (arity o.sign)).contains o.maker with
      | false => rfl
      | true =>
        show (if decide (found.length = 6) || (found.map (fun z : Op => z.sign)).contains o.sign || (o.maker == "hook" && hook.isNone) then Except.error k else opsM ps hook (k + 1) (ops.map opRow) (found ++ [o])) = _
        rw [nn, show decide (found.length = 6) = false from decide_eq_false (by omega)]
        cases (o.maker == ("hook" : Str) && hook.isNone) <;> rfl
    show (_ → opsM ps hook k (opRow o :: ops.map opRow) found = _) ∧ (_ → ∃ i, opsM ps hook k (opRow o :: ops.map opRow) found = _)
    rw [step, e]
    cases hm : mkOk hook o with
    | true =>
      refine ⟨fun h => ?_, fun h => ?_⟩
      · rw [if_pos rfl]
        rw [List.all_cons, hm, Bool.true_and] at h
        exact ih.1 h
      · rw [if_pos rfl]
        rw [List.all_cons, hm, Bool.true_and] at h
        exact ih.2 h
    | false =>
      refine ⟨fun h => ?_, fun _ => ⟨k, rfl⟩⟩
      rw [List.all_cons, hm] at h
      cases h
/-- a library whose makers may be any words -/
structure LibOk (L : Lib) : Prop where
  root : RootOk L.name L.ps L.kept L.hook
  ops0 : L.ops ≠ []
  ops6 : L.ops.length ≤ 6
  nd : (L.ops.map (·.sign)).Nodup
  form : ∀ o ∈ L.ops, OpForm L.ps o
  nl : ∀ o ∈ L.ops, NoNl o.maker
theorem kept_plain : ∀ {kept : List (Str × Str)} {known : List Str}, KeptOk known kept → (∀ p ∈ known, Plain p) → ∀ p ∈ kept, Plain p.1 ∧ Plain p.2
  | [], _, _, _, p, hp => by cases hp
  | q :: r, known, ko, hk, p, hp => by
    obtain ⟨k1, k2, k3, k4⟩ := ko
    rcases List.mem_cons.mp hp with rfl | hp
    · exact ⟨plain_field k1, hk _ k3⟩
    · refine kept_plain k4 (fun z hz => ?_) p hp
      rcases List.mem_append.mp hz with hz | hz
      · exact hk z hz
      · rw [List.mem_singleton.mp hz]
        exact plain_field k1
theorem LibOk.clean {L : Lib} (h : LibOk L) : Clean L := by
  have hp : ∀ p ∈ L.ps, Plain p := fun p hp => plain_field (h.root.pf p hp)
  refine ⟨plain_class h.root.name, hp, kept_plain h.root.ko hp, fun w hw => ?_, fun o ho => ⟨?_, fun p hq => ?_, h.nl o ho⟩⟩
  · have key : ∀ s ∈ rootHooks, Plain s := by decide +kernel
    exact key w (h.root.hk w hw)
  · have key : ∀ s ∈ binary ++ unary, Plain s := by decide +kernel
    rcases (h.form o ho).sg with z | z | z
    · exact key _ (List.mem_append.mpr (.inl (List.contains_iff_mem.mp z)))
    · exact key _ (List.mem_append.mpr (.inr (List.contains_iff_mem.mp z)))
    · unfold request at z
      rw [Bool.and_eq_true] at z
      exact plain_small z.1.1
  · rw [(h.form o ho).ch] at hq
    exact hp p (List.mem_filter.mp hq).1
theorem LibOk.free {L : Lib} (h : LibOk L) : Free (L.ops.map opRow) := by
  intro r hr
  obtain ⟨o, ho, rfl⟩ := List.mem_map.mp hr
  refine free_op (h.form o ho) ?_
  rcases (h.form o ho).sg with z | z | z
  · exact .inr (.inl z)
  · exact .inr (.inr z)
  · exact .inl (arity_req z.1).1
/-- THE TEXT IS READ BACK, if and only if its makers are allowed -/
theorem read_text {L : Lib} (h : LibOk L) : (L.ops.all (mkOk L.hook) = true → readM (textM L) = .ok L) ∧ (L.ops.all (mkOk L.hook) = false → ∃ i, readM (textM L) = .error i) := by
  have hne : L.ops.map opRow ≠ [] := fun e => h.ops0 (List.map_eq_nil_iff.mp e)
  have e : readM (textM L) = match opsM L.ps L.hook (rootRows L.name L.ps L.kept L.hook).length (L.ops.map opRow) [] with
      | .error k => .error k
      | .ok ops => .ok ⟨L.name, L.ps, L.kept, L.hook, ops⟩ := by
    unfold readM
    rw [rows_text h.clean]
    unfold rowsOf
    rw [read_root h.root h.free, opsOf_root hne]
  have r := ops_run (hook := L.hook) h.root.ps0 L.ops (rootRows L.name L.ps L.kept L.hook).length [] h.form (by simpa using h.ops6) (by simpa using h.nd)
  refine ⟨fun k => ?_, fun k => ?_⟩
  · rw [e, r.1 k]
    rfl
  · obtain ⟨i, hi⟩ := r.2 k
    exact ⟨i, by rw [e, hi]⟩
end LM

/-! what a library that was read is like: short names, few of them, signs unlike -/
namespace LM
open PySem TL L2
def Sh (w : Str) : Prop := w.length ≤ 1000
theorem sh_small {w : Str} (h : small w = true) : Sh w := by
  unfold small at h
  rw [Bool.and_eq_true, Bool.and_eq_true] at h
  have := of_decide_eq_true h.1.2
  show w.length ≤ 1000
  omega
theorem sh_field {w : Str} (h : fieldName w = true) : Sh w := by
  unfold fieldName at h
  rw [Bool.and_eq_true] at h
  exact sh_small h.1
theorem sh_class {w : Str} (h : className w = true) : Sh w := by
  unfold className at h
  rw [Bool.and_eq_true, Bool.and_eq_true, Bool.and_eq_true] at h
  have := of_decide_eq_true h.1.1.2
  show w.length ≤ 1000
  omega
instance (w : Str) : Decidable (Sh w) := inferInstanceAs (Decidable (_ ≤ _))
theorem sh_hooks : ∀ w ∈ rootHooks, Sh w := by decide +kernel
theorem sh_signs : ∀ w ∈ binary ++ unary, Sh w := by decide +kernel
theorem sh_makers : ∀ w ∈ makers0 ++ makers1 ++ makers2, Sh w := by decide +kernel
theorem sh_maker {n : Nat} {w : Str} (h : (makersOf n).contains w = true) : Sh w := by
  have hm := List.contains_iff_mem.mp h
  refine sh_makers w ?_
  match n, hm with
  | 0, hm => exact List.mem_append_left _ (List.mem_append_left _ hm)
  | 1, hm => exact List.mem_append_left _ (List.mem_append_right _ hm)
  | _ + 2, hm => exact List.mem_append_right _ hm
theorem strOk_small {w : Str} (h : small w = true) : PySem.PyData.strOk w = true := by
  unfold small at h
  rw [Bool.and_eq_true] at h
  unfold PySem.PyData.strOk
  rw [Array.all_eq_true_iff_forall_mem]
  intro c hc
  have := List.all_eq_true.mp h.2 c (Array.mem_toList_iff.mpr hc)
  simp only [Bool.and_eq_true, decide_eq_true_eq] at this
  exact decide_eq_true (by omega)
theorem strOk_field {w : Str} (h : fieldName w = true) : PySem.PyData.strOk w = true := by
  unfold fieldName at h
  rw [Bool.and_eq_true] at h
  exact strOk_small h.1
theorem needs_some {r : Rw} {found : List Str} {f : Str} (h : needsRow r found = some f) : fieldName f = true := by
  unfold needsRow at h
  split at h
  · split at h
    · rename_i c
      injection h with h
      subst h
      simp only [Bool.and_eq_true] at c
      exact c.1.2
    · cases h
  · cases h
theorem params_good : ∀ (rs : List Rw) (found : List Str), (∀ f ∈ found, fieldName f = true) → (∀ f ∈ paramsM rs found, fieldName f = true) ∧ (paramsM rs found).length ≤ found.length + rs.length
  | [], found, h => ⟨h, Nat.le_refl _⟩
  | r :: rs, found, h => by
    unfold paramsM
    cases e : needsRow r found with
    | none => exact ⟨h, by show found.length ≤ _; omega⟩
    | some f =>
      have ih := params_good rs (found ++ [f]) fun z hz => by
        rcases List.mem_append.mp hz with hz | hz
        · exact h z hz
        · rw [List.mem_singleton.mp hz]
          exact needs_some e
      refine ⟨ih.1, ?_⟩
      have := ih.2
      rw [List.length_append] at this
      show (paramsM rs (found ++ [f])).length ≤ found.length + (rs.length + 1)
      simp at this
      omega
theorem keeps_some {r : Rw} {known : List Str} {p : Str × Str} (h : keepsRow r known = some p) : fieldName p.1 = true ∧ p.2 ∈ known := by
  unfold keepsRow at h
  split at h
  · split at h
    · rename_i c
      injection h with h
      subst h
      simp only [Bool.and_eq_true] at c
      exact ⟨c.1.1.2, List.contains_iff_mem.mp c.2⟩
    · cases h
  · cases h
theorem kept_good : ∀ (rs : List Rw) (known : List Str) (found : List (Str × Str)), (∀ f ∈ known, Sh f) → (∀ p ∈ found, Sh p.1 ∧ Sh p.2) → (∀ p ∈ keptM rs known found, Sh p.1 ∧ Sh p.2) ∧ (keptM rs known found).length ≤ found.length + rs.length
  | [], known, found, _, h => ⟨h, Nat.le_refl _⟩
  | r :: rs, known, found, hk, h => by
    unfold keptM
    cases e : keepsRow r known with
    | none => exact ⟨h, by show found.length ≤ _; omega⟩
    | some p =>
      obtain ⟨e1, e2⟩ := keeps_some e
      have ih := kept_good rs (known ++ [p.1]) (found ++ [p]) (fun z hz => by
        rcases List.mem_append.mp hz with hz | hz
        · exact hk z hz
        · rw [List.mem_singleton.mp hz]
          exact sh_field e1) fun z hz => by
        rcases List.mem_append.mp hz with hz | hz
        · exact h z hz
        · rw [List.mem_singleton.mp hz]
          exact ⟨sh_field e1, hk _ e2⟩
      refine ⟨ih.1, ?_⟩
      have := ih.2
      rw [List.length_append] at this
      show (keptM rs (known ++ [p.1]) (found ++ [p])).length ≤ found.length + (rs.length + 1)
      simp at this
      omega
structure OpGood (ps : List Str) (o : Op) : Prop where
  sign : Sh o.sign
  maker : Sh o.maker
  sub : ∀ p ∈ o.changed, p ∈ ps
  len : o.changed.length ≤ ps.length
theorem op_good {r : Rw} {ps : List Str} {o : Op} (h : opM r ps = some o) : OpGood ps o := by
  unfold opM at h
  split at h
  · cases h
  · rename_i s rest
    split at h
    · unfold requestM at h
      split at h
      · split at h
        · rename_i c
          injection h with h
          subst h
          simp only [Bool.and_eq_true] at c
          refine ⟨?_, sh_maker (n := 0) c.2, fun p hp => hp, Nat.le_refl _⟩
          have q := c.1.2
          unfold request at q
          rw [Bool.and_eq_true] at q
          exact sh_small q.1
        · cases h
      · cases h
    · split at h
      · cases h
      · rename_i c1
        dsimp only at h
        split at h
        · cases h
        · rename_i c2
          injection h with h
          subst h
          rw [Bool.or_eq_true, not_or] at c1 c2
          have hs : s ∈ binary ++ unary := by
            cases hb : binary.contains s with
            | true => exact List.mem_append_left _ (List.contains_iff_mem.mp hb)
            | false =>
              cases hu : unary.contains s with
              | true => exact List.mem_append_right _ (List.contains_iff_mem.mp hu)
              | false => exact absurd (by rw [hb, hu]; rfl) c1.1
          have hm := c2.1
          have hsel := c2.2
          rw [Bool.not_eq_true', Bool.not_eq_false] at hm hsel
          refine ⟨sh_signs s hs, sh_maker hm, ?_, ?_⟩
          · show ∀ p ∈ (rest.take _).drop 1, _
            generalize rest.take _ = ws at hsel
            cases ws with
            | nil => intro p hp; cases hp
            | cons a ch =>
              intro p hp
              unfold selection at hsel
              simp only [Bool.and_eq_true] at hsel
              have e := of_decide_eq_true hsel.2
              have hp' : p ∈ ch := hp
              rw [e] at hp'
              exact (List.mem_filter.mp hp').1
          · show ((rest.take _).drop 1).length ≤ _
            generalize rest.take _ = ws at hsel
            cases ws with
            | nil => exact Nat.zero_le _
            | cons a ch =>
              unfold selection at hsel
              simp only [Bool.and_eq_true] at hsel
              have e := of_decide_eq_true hsel.2
              show ch.length ≤ _
              rw [e]
              exact List.length_filter_le _ _
theorem ops_good {ps : List Str} {hk : Option Str} : ∀ (rs : List Rw) (k : Nat) (found ops : List Op), opsM ps hk k rs found = .ok ops → (∀ o ∈ found, OpGood ps o) → (found.map (·.sign)).Nodup → found.length ≤ 6 →
    (∀ o ∈ ops, OpGood ps o) ∧ (ops.map (·.sign)).Nodup ∧ ops.length ≤ 6
  | [], k, found, ops, h, g, nd, l => by
    injection h with h
    subst h
    exact ⟨g, nd, l⟩
  | r :: rs, k, found, ops, h, g, nd, l => by
    unfold opsM at h
    cases e : opM r ps with
    | none => rw [e] at h; cases h
    | some o =>
      rw [e] at h
      dsimp only at h
      split at h
      · cases h
      · rename_i c
        rw [Bool.or_eq_true, not_or, Bool.or_eq_true, not_or] at c
        have n6 : found.length ≠ 6 := fun z => c.1.1 (decide_eq_true z)
        have ns : o.sign ∉ found.map (·.sign) := fun z => c.1.2 (List.contains_iff_mem.mpr z)
        refine ops_good rs (k + 1) (found ++ [o]) ops h (fun z hz => ?_) ?_ ?_
        · rcases List.mem_append.mp hz with hz | hz
          · exact g z hz
          · rw [List.mem_singleton.mp hz]
            exact op_good e
        · rw [List.map_append, List.nodup_append]
          refine ⟨nd, by simp, fun a ha b hb => ?_⟩
          rw [List.mem_singleton.mp hb]
          exact fun e => ns (by have e' : a = o.sign := e; rw [← e']; exact ha)
        · rw [List.length_append]
          show found.length + 1 ≤ 6
          omega
end LM

/-! sizes of the parts of a text -/
namespace LM
open PySem TL L2
theorem len_joinL (s : Nat) : ∀ ps : List (List Nat), ps ≠ [] → (joinL [s] ps).length + 1 = (ps.map List.length).sum + ps.length
  | [], h => absurd rfl h
  | [p], _ => by simp [joinL]
  | p :: q :: r, _ => by
    have ih := len_joinL s (q :: r) (by simp)
    show (p ++ ([s] ++ joinL [s] (q :: r))).length + 1 = _
    simp only [List.length_append, List.map_cons, List.sum_cons, List.length_cons, List.length_nil] at ih ⊢
    omega
theorem mem_joinL (s : Nat) : ∀ (ps : List (List Nat)) (p : List Nat) (c : Nat), p ∈ ps → c ∈ p → c ∈ joinL [s] ps
  | [], _, _, h, _ => by cases h
  | [q], p, c, h, hc => by
    rw [List.mem_singleton.mp h] at hc
    exact hc
  | q :: q' :: r, p, c, h, hc => by
    show c ∈ q ++ ([s] ++ joinL [s] (q' :: r))
    rcases List.mem_cons.mp h with rfl | h
    · exact List.mem_append_left _ hc
    · exact List.mem_append_right _ (List.mem_append_right _ (mem_joinL s (q' :: r) p c h hc))
theorem split_by {y : Str} {s : Nat} (ey : tl y = [s]) (hy : y.cps.all (· < 256) = true) (x : Str) : (Txt.split x y).map tl = spl [s] 0 [] (tl x) := by
  rw [split_spl x y (by rw [ey]; simp) (kind_ok hy), ey]
theorem split_len {y : Str} {s : Nat} (ey : tl y = [s]) (hy : y.cps.all (· < 256) = true) (x : Str) : ((Txt.split x y).map (·.length)).sum + (Txt.split x y).length = x.length + 1 := by
  have e := split_by ey hy x
  have q := len_joinL s (spl [s] 0 [] (tl x)) (spl1_ne s _ _)
  rw [spl1_join, List.nil_append, ← e, List.map_map, List.length_map, ← len_tl] at q
  have e2 : ((Txt.split x y).map (List.length ∘ tl)) = (Txt.split x y).map (·.length) := List.map_congr_left fun w _ => (len_tl w).symm
  rw [e2] at q
  exact q.symm
theorem split_mem {y : Str} {s : Nat} (ey : tl y = [s]) (hy : y.cps.all (· < 256) = true) {x w : Str} (h : w ∈ Txt.split x y) {c : Nat} (hc : c ∈ tl w) : c ∈ tl x := by
  have e := split_by ey hy x
  have q := mem_joinL s (spl [s] 0 [] (tl x)) (tl w) c (by rw [← e]; exact List.mem_map_of_mem h) hc
  rw [spl1_join, List.nil_append] at q
  exact q
theorem le_sum : ∀ (ws : List Str) (w : Str), w ∈ ws → w.length ≤ (ws.map (·.length)).sum
  | [], _, h => by cases h
  | x :: ws, w, h => by
    rw [List.map_cons, List.sum_cons]
    rcases List.mem_cons.mp h with rfl | h
    · omega
    · have := le_sum ws w h
      omega
theorem strOk_iff (x : Str) : PySem.PyData.strOk x = true ↔ ∀ c ∈ tl x, c < 0x110000 := by
  unfold PySem.PyData.strOk
  rw [Array.all_eq_true_iff_forall_mem]
  constructor
  · intro h c hc
    exact of_decide_eq_true (h c (Array.mem_toList_iff.mp hc))
  · intro h c hc
    exact decide_eq_true (h c (Array.mem_toList_iff.mpr hc))
/-- every row of a text: its words short and fine, few of them -/
theorem rows_ok {z : Str} (hz : z.length ≤ 1000000) (ho : PySem.PyData.strOk z = true) : (∀ r ∈ rowsM z, (∀ w ∈ r, w.length ≤ 1000000 ∧ PySem.PyData.strOk w = true) ∧ (r.map (·.length)).sum + r.length ≤ 2000000 ∧ r ≠ []) ∧ (rowsM z).length ≤ 1000001 ∧ rowsM z ≠ [] := by
  have q1 := split_len tl_nl nl_all z
  refine ⟨fun r hr => ?_, ?_, ?_⟩
  · obtain ⟨l, hl, rfl⟩ := List.mem_map.mp hr
    have q2 := split_len tl_sp sp_all l
    have q3 := le_sum _ l hl
    refine ⟨fun w hw => ⟨?_, ?_⟩, by omega, split_ne l⟩
    · have q4 := le_sum _ w hw
      have c1 := List.length_pos_iff.mpr (split_ne l)
      have c2 := List.length_pos_iff.mpr (split_nl_ne z)
      omega
    · rw [strOk_iff] at ho ⊢
      exact fun c hc => ho c (split_mem tl_nl nl_all hl (split_mem tl_sp sp_all hw hc))
  · unfold rowsM
    rw [List.length_map]
    omega
  · unfold rowsM
    exact fun e => split_nl_ne z (List.map_eq_nil_iff.mp e)
end LM

/-! sizes and signs of a right library's text; its makers exchanged -/
namespace LM
open PySem TL L2
/-- signs below 128 -/
def Asc (w : Str) : Prop := ∀ c ∈ tl w, c < 128
instance (w : Str) : Decidable (Asc w) := inferInstanceAs (Decidable (∀ c ∈ tl w, c < 128))
theorem Asc.ok {w : Str} (h : Asc w) : PySem.PyData.strOk w = true := (strOk_iff w).mpr fun c hc => Nat.lt_trans (h c hc) (by decide)
theorem Asc.app {x y : Str} (h : Asc x) (k : Asc y) : Asc (x ++ y) := fun c hc => by
  rw [tl_append, List.mem_append] at hc
  exact hc.elim (h c) (k c)
theorem asc_join {s : Str} (hs : Asc s) : ∀ {ws : List Str}, (∀ w ∈ ws, Asc w) → Asc (Str.join s ws)
  | [], _ => fun c hc => by cases hc
  | [x], h => h x (List.mem_singleton.mpr rfl)
  | x :: y :: r, h => by
    rw [join_cons2]
    exact ((h x (List.mem_cons_self ..)).app hs).app (asc_join hs fun w hw => h w (List.mem_cons_of_mem _ hw))
theorem asc_within {lo hi : Nat} {l : List Nat} (h : within lo hi l = true) (hh : hi < 128) : ∀ c ∈ l, c < 128 := fun c hc => by
  have := List.all_eq_true.mp h c hc
  simp only [Bool.and_eq_true, decide_eq_true_eq] at this
  omega
theorem asc_small {w : Str} (h : small w = true) : Asc w := by
  unfold small at h
  rw [Bool.and_eq_true] at h
  exact asc_within h.2 (by decide)
theorem asc_field {w : Str} (h : fieldName w = true) : Asc w := by
  unfold fieldName at h
  rw [Bool.and_eq_true] at h
  exact asc_small h.1
theorem asc_class {w : Str} (h : className w = true) : Asc w := by
  unfold className at h
  rw [Bool.and_eq_true, Bool.and_eq_true] at h
  have e : tl w = (tl w).take 1 ++ (tl w).drop 1 := (List.take_append_drop 1 _).symm
  intro c hc
  rw [e, List.mem_append] at hc
  exact hc.elim (asc_within h.1.2 (by decide) c) (asc_within h.2 (by decide) c)
theorem le8_small {w : Str} (h : small w = true) : w.length ≤ 8 := by
  unfold small at h
  rw [Bool.and_eq_true, Bool.and_eq_true] at h
  exact of_decide_eq_true h.1.2
theorem le8_field {w : Str} (h : fieldName w = true) : w.length ≤ 8 := by
  unfold fieldName at h
  rw [Bool.and_eq_true] at h
  exact le8_small h.1
theorem le8_class {w : Str} (h : className w = true) : w.length ≤ 8 := by
  unfold className at h
  rw [Bool.and_eq_true, Bool.and_eq_true, Bool.and_eq_true] at h
  exact of_decide_eq_true h.1.1.2
theorem len_cat (x y : Str) : (x ++ y).length = x.length + y.length := by rw [len_tl, len_tl, len_tl, tl_append, List.length_append]
theorem len_joined (s : Str) : ∀ (ws : List Str) (b : Nat), (∀ w ∈ ws, w.length ≤ b) → (Str.join s ws).length ≤ ws.length * (b + s.length)
  | [], _, _ => by show 0 ≤ _; omega
  | [x], b, h => by
    have := h x (List.mem_singleton.mpr rfl)
    show x.length ≤ 1 * _
    omega
  | x :: y :: r, b, h => by
    have q := len_joined s (y :: r) b fun w hw => h w (List.mem_cons_of_mem _ hw)
    have h1 := h x (List.mem_cons_self ..)
    rw [join_cons2, len_cat, len_cat]
    rw [List.length_cons, Nat.add_mul]
    omega
/-- what a maker in a text may be -/
structure MkFine (m : Str) : Prop where
  len : m.length ≤ 100
  asc : Asc m
  nl : NoNl m
theorem mk_fine : ∀ m ∈ makers0 ++ makers1 ++ makers2, m.length ≤ 100 ∧ Asc m ∧ 10 ∉ tl m := by decide +kernel
theorem maker_fine {n : Nat} {m : Str} (h : m ∈ makersOf n) : MkFine m := by
  have : m ∈ makers0 ++ makers1 ++ makers2 := by
    match n with
    | 0 => exact List.mem_append_left _ (List.mem_append_left _ h)
    | 1 => exact List.mem_append_left _ (List.mem_append_right _ h)
    | _ + 2 => exact List.mem_append_right _ h
  obtain ⟨h1, h2, h3⟩ := mk_fine m this
  exact ⟨h1, h2, h3⟩
theorem hook_fine : ∀ h ∈ rootHooks, h.length ≤ 8 ∧ Asc h := by decide +kernel
theorem sign_fine : ∀ s ∈ binary ++ unary, s.length ≤ 8 ∧ Asc s ∧ PySem.PyData.strOk s = true := by decide +kernel
theorem n_lib : ("library " : Str).length = 8 ∧ ("needs " : Str).length = 6 ∧ ("keeps " : Str).length = 6 ∧ (" of " : Str).length = 4 ∧ ("hook " : Str).length = 5 ∧ ("make " : Str).length = 5 ∧ (" by " : Str).length = 4 ∧ (" changes " : Str).length = 9 ∧ (" " : Str).length = 1 ∧ ("\n" : Str).length = 1 := by decide +kernel
theorem a_lib : Asc "library " ∧ Asc "needs " ∧ Asc "keeps " ∧ Asc " of " ∧ Asc "hook " ∧ Asc "make " ∧ Asc " by " ∧ Asc " changes " ∧ Asc " " ∧ Asc "\n" := by decide +kernel
theorem kept_fields : ∀ {kept : List (Str × Str)} {known : List Str}, KeptOk known kept → (∀ p ∈ known, fieldName p = true) → ∀ p ∈ kept, fieldName p.1 = true ∧ fieldName p.2 = true
  | [], _, _, _, p, hp => by cases hp
  | q :: r, known, ko, hk, p, hp => by
    obtain ⟨k1, k2, k3, k4⟩ := ko
    rcases List.mem_cons.mp hp with e | hp
    · subst e
      exact ⟨k1, hk _ k3⟩
    · refine kept_fields k4 (fun z hz => ?_) p hp
      rcases List.mem_append.mp hz with hz | hz
      · exact hk z hz
      · rw [List.mem_singleton.mp hz]
        exact k1
theorem LibOk.sign {L : Lib} (h : LibOk L) {o : Op} (ho : o ∈ L.ops) : o.sign.length ≤ 8 ∧ Asc o.sign := by
  rcases (h.form o ho).sg with z | z | z
  · have := sign_fine o.sign (List.mem_append_left _ (List.contains_iff_mem.mp z))
    exact ⟨this.1, this.2.1⟩
  · have := sign_fine o.sign (List.mem_append_right _ (List.contains_iff_mem.mp z))
    exact ⟨this.1, this.2.1⟩
  · have q := z.1
    unfold request at q
    rw [Bool.and_eq_true] at q
    exact ⟨le8_small q.1, asc_small q.1⟩
theorem LibOk.sub {L : Lib} (h : LibOk L) {o : Op} (ho : o ∈ L.ops) : (∀ p ∈ o.changed, p ∈ L.ps) ∧ o.changed.length ≤ 3 := by
  have e := (h.form o ho).ch
  constructor
  · intro p hp
    rw [e] at hp
    exact (List.mem_filter.mp hp).1
  · rw [e]
    exact Nat.le_trans (List.length_filter_le ..) h.root.ps3
theorem LibOk.line {L : Lib} (h : LibOk L) {o : Op} (ho : o ∈ L.ops) (hm : MkFine o.maker) : (opLine o).length ≤ 200 ∧ Asc (opLine o) := by
  obtain ⟨s1, s2⟩ := h.sign ho
  obtain ⟨c1, c2⟩ := h.sub ho
  obtain ⟨n1, n2, n3, n4, n5, n6, n7, n8, n9, n10⟩ := n_lib
  obtain ⟨a1, a2, a3, a4, a5, a6, a7, a8, a9, a10⟩ := a_lib
  have m1 := hm.len
  have q := len_joined " " o.changed 8 fun w hw => le8_field (h.root.pf w (c1 w hw))
  rw [n9] at q
  have q2 : o.changed.length * (8 + 1) ≤ 3 * (8 + 1) := Nat.mul_le_mul_right _ c2
  have aj : Asc (Str.join " " o.changed) := asc_join a9 fun w hw => asc_field (h.root.pf w (c1 w hw))
  unfold opLine
  split
  · exact ⟨by simp only [len_cat, n6, n7]; omega, ((a6.app s2).app a7).app hm.asc⟩
  · split
    · exact ⟨by simp only [len_cat, n7]; omega, (s2.app a7).app hm.asc⟩
    · exact ⟨by simp only [len_cat, n7, n8]; omega, (((s2.app a8).app aj).app a7).app hm.asc⟩
theorem LibOk.rootLine {L : Lib} (h : LibOk L) : (∀ l ∈ rootLines L.name L.ps L.kept L.hook, l.length ≤ 200 ∧ Asc l) ∧ (rootLines L.name L.ps L.kept L.hook).length ≤ 7 := by
  obtain ⟨n1, n2, n3, n4, n5, n6, n7, n8, n9, n10⟩ := n_lib
  obtain ⟨a1, a2, a3, a4, a5, a6, a7, a8, a9, a10⟩ := a_lib
  have kf := kept_fields h.root.ko h.root.pf
  constructor
  · intro l hl
    unfold rootLines at hl
    simp only [List.mem_append, List.mem_map] at hl
    rcases hl with ((hl | ⟨p, hp, rfl⟩) | ⟨p, hp, rfl⟩) | hl
    · rw [List.mem_singleton.mp hl, len_cat, n1]
      have := le8_class h.root.name
      exact ⟨by omega, a1.app (asc_class h.root.name)⟩
    · have := le8_field (h.root.pf p hp)
      rw [len_cat, n2]
      exact ⟨by omega, a2.app (asc_field (h.root.pf p hp))⟩
    · obtain ⟨f1, f2⟩ := kf p hp
      have := le8_field f1
      have := le8_field f2
      rw [len_cat, len_cat, len_cat, n3, n4]
      exact ⟨by omega, ((a3.app (asc_field f1)).app a4).app (asc_field f2)⟩
    · cases e : L.hook with
      | none => rw [e] at hl; cases hl
      | some z =>
        have := hook_fine z (h.root.hk z e)
        rw [e] at hl
        rw [List.mem_singleton.mp hl, len_cat, n5]
        exact ⟨by omega, a5.app this.2⟩
  · have := h.root.ps3
    have := h.root.kept2
    unfold rootLines
    simp only [List.length_append, List.length_map, List.length_cons, List.length_nil]
    cases L.hook <;> simp <;> omega
theorem LibOk.lines {L : Lib} (h : LibOk L) (hm : ∀ o ∈ L.ops, MkFine o.maker) : (∀ l ∈ linesM L, l.length ≤ 200 ∧ Asc l) ∧ (linesM L).length ≤ 13 := by
  obtain ⟨r1, r2⟩ := h.rootLine
  constructor
  · intro l hl
    unfold linesM at hl
    rcases List.mem_append.mp hl with hl | hl
    · exact r1 l hl
    · obtain ⟨o, ho, rfl⟩ := List.mem_map.mp hl
      exact h.line ho (hm o ho)
  · have := h.ops6
    unfold linesM
    rw [List.length_append, List.length_map]
    omega
theorem LibOk.text {L : Lib} (h : LibOk L) (hm : ∀ o ∈ L.ops, MkFine o.maker) : (textM L).length ≤ 1000000 ∧ PySem.PyData.strOk (textM L) = true := by
  obtain ⟨r1, r2⟩ := h.lines hm
  have q := len_joined "\n" (linesM L) 200 fun w hw => (r1 w hw).1
  rw [n_lib.2.2.2.2.2.2.2.2.2] at q
  have : (linesM L).length * (200 + 1) ≤ 13 * (200 + 1) := Nat.mul_le_mul_right _ r2
  refine ⟨?_, (asc_join a_lib.2.2.2.2.2.2.2.2.2 fun w hw => (r1 w hw).2).ok⟩
  show (Str.join "\n" (linesM L)).length ≤ _
  omega
/-- the makers of an operation, with or without the hook -/
def allow (n : Nat) (hk : Bool) : List Str := (makersOf n).filter fun m => hk || !(m == ("hook" : Str))
theorem allow_mk (hk : Option Str) (o : Op) : (allow (arity o.sign) hk.isSome).contains o.maker = mkOk hk o := by
  unfold allow mkOk
  have key : ∀ (l : List Str) (p : Str → Bool) (m : Str), (l.filter p).contains m = (l.contains m && p m) := fun l p m => by
    rw [Bool.eq_iff_iff, List.contains_iff_mem, List.mem_filter, Bool.and_eq_true, List.contains_iff_mem]
  rw [key]
  cases hk <;> simp
/-- operation j has another maker -/
def setMk (L : Lib) (j : Nat) (m : Str) : Lib := ⟨L.name, L.ps, L.kept, L.hook, L.ops.set j ⟨(L.ops.getD j ⟨"", [], ""⟩).sign, (L.ops.getD j ⟨"", [], ""⟩).changed, m⟩⟩
theorem set_ops {L : Lib} {j : Nat} {m : Str} {o : Op} (e : L.ops[j]? = some o) : (setMk L j m).ops = L.ops.set j ⟨o.sign, o.changed, m⟩ := by
  unfold setMk
  rw [List.getD_eq_getElem?_getD, e]
  rfl
theorem set_ok {L : Lib} (h : LibOk L) {j : Nat} {m : Str} {o : Op} (e : L.ops[j]? = some o) (hm : NoNl m) : LibOk (setMk L j m) := by
  have eo := set_ops (m := m) e
  have hj : j < L.ops.length := (List.getElem?_eq_some_iff.mp e).1
  have ho := List.mem_of_getElem? e
  have hs : (setMk L j m).ops.map (·.sign) = L.ops.map (·.sign) := by
    rw [eo, List.map_set]
    refine List.ext_getElem? fun i => ?_
    rw [List.getElem?_set]
    split
    · rename_i hi
      subst hi
      rw [List.length_map, if_pos hj, List.getElem?_map, e]
      rfl
    · rfl
  refine ⟨h.root, fun q => ?_, ?_, by rw [hs]; exact h.nd, fun z hz => ?_, fun z hz => ?_⟩
  · rw [eo] at q
    have := congrArg List.length q
    rw [List.length_set] at this
    exact h.ops0 (List.length_eq_zero_iff.mp this)
  · rw [eo, List.length_set]
    exact h.ops6
  · rw [eo] at hz
    rcases List.mem_or_eq_of_mem_set hz with hz | hz
    · exact h.form z hz
    · subst hz
      exact ⟨(h.form o ho).sg, (h.form o ho).ch, (h.form o ho).nb⟩
  · rw [eo] at hz
    rcases List.mem_or_eq_of_mem_set hz with hz | hz
    · exact h.nl z hz
    · subst hz
      exact hm
theorem set_all {L : Lib} {j : Nat} {m : Str} {o : Op} (e : L.ops[j]? = some o) (hall : L.ops.all (mkOk L.hook) = true) : (setMk L j m).ops.all (mkOk (setMk L j m).hook) = mkOk L.hook ⟨o.sign, o.changed, m⟩ := by
  have hj : j < L.ops.length := (List.getElem?_eq_some_iff.mp e).1
  show (setMk L j m).ops.all (mkOk L.hook) = _
  rw [set_ops e, Bool.eq_iff_iff, List.all_eq_true]
  constructor
  · intro k
    exact k _ (List.mem_set hj _)
  · intro k z hz
    rcases List.mem_or_eq_of_mem_set hz with hz | hz
    · exact List.all_eq_true.mp hall z hz
    · rw [hz]
      exact k
end LM

namespace K31
open PySem PySem.Spec PyProof.Rows L2 EV
def top (i : Nat) : Stmt := PySem.Challenge.pw_heirsback_k31_leaves_and_requests.main.body.getD i (.Pass ⟨0, 0, 0, 0⟩)

abbrev s_BadExpression___init__ : Stmt := inClass (top 2) 0
theorem sc_BadExpression___init__ : FnScope ["self", "at"] ["self", "at"] (defScope s_BadExpression___init__) :=
  ⟨rfl, rfl, rfl, by decide +kernel, rfl, by decide +kernel, by decide +kernel⟩
abbrev s_TooMany___init__ : Stmt := inClass (top 3) 0
theorem sc_TooMany___init__ : FnScope ["self", "what"] ["self", "what"] (defScope s_TooMany___init__) :=
  ⟨rfl, rfl, rfl, by decide +kernel, rfl, by decide +kernel, by decide +kernel⟩
abbrev s_arity_of : Stmt := top 8
theorem sc_arity_of : FnScope ["sign"] ["sign"] (defScope s_arity_of) :=
  ⟨rfl, rfl, rfl, by decide +kernel, rfl, by decide +kernel, by decide +kernel⟩
abbrev s_Phrase___init__ : Stmt := inClass (top 11) 0
theorem sc_Phrase___init__ : FnScope ["self", "text"] ["self", "text"] (defScope s_Phrase___init__) :=
  ⟨rfl, rfl, rfl, by decide +kernel, rfl, by decide +kernel, by decide +kernel⟩
abbrev s_Phrase_take_all : Stmt := inClass (top 11) 1
theorem sc_Phrase_take_all : FnScope ["self", "operand_follows"] ["self"] (defScope s_Phrase_take_all) :=
  ⟨rfl, rfl, rfl, by decide +kernel, rfl, by decide +kernel, by decide +kernel⟩
abbrev s_Phrase__take_start : Stmt := inClass (top 11) 2
theorem sc_Phrase__take_start : FnScope ["self", "name", "word"] ["self"] (defScope s_Phrase__take_start) :=
  ⟨rfl, rfl, rfl, by decide +kernel, rfl, by decide +kernel, by decide +kernel⟩
abbrev s_Phrase__take_opening : Stmt := inClass (top 11) 3
theorem sc_Phrase__take_opening : FnScope ["self", "kind"] ["self", "kind"] (defScope s_Phrase__take_opening) :=
  ⟨rfl, rfl, rfl, by decide +kernel, rfl, by decide +kernel, by decide +kernel⟩
abbrev s_Phrase__take_sign : Stmt := inClass (top 11) 4
theorem sc_Phrase__take_sign : FnScope ["self", "sign", "letter"] ["self"] (defScope s_Phrase__take_sign) :=
  ⟨rfl, rfl, rfl, by decide +kernel, rfl, by decide +kernel, by decide +kernel⟩
abbrev s_Phrase__take_class : Stmt := inClass (top 11) 5
theorem sc_Phrase__take_class : FnScope ["self", "start"] ["self"] (defScope s_Phrase__take_class) :=
  ⟨rfl, rfl, rfl, by decide +kernel, rfl, by decide +kernel, by decide +kernel⟩
abbrev s_Phrase__take_word : Stmt := inClass (top 11) 6
theorem sc_Phrase__take_word : FnScope ["self", "start"] ["self"] (defScope s_Phrase__take_word) :=
  ⟨rfl, rfl, rfl, by decide +kernel, rfl, by decide +kernel, by decide +kernel⟩
abbrev s_Phrase__take_request : Stmt := inClass (top 11) 7
theorem sc_Phrase__take_request : FnScope ["self", "word"] ["self"] (defScope s_Phrase__take_request) :=
  ⟨rfl, rfl, rfl, by decide +kernel, rfl, by decide +kernel, by decide +kernel⟩
abbrev s_Phrase__skip_small : Stmt := inClass (top 11) 8
theorem sc_Phrase__skip_small : FnScope ["self", "end"] ["self", "end"] (defScope s_Phrase__skip_small) :=
  ⟨rfl, rfl, rfl, by decide +kernel, rfl, by decide +kernel, by decide +kernel⟩
abbrev s_Phrase__take : Stmt := inClass (top 11) 9
theorem sc_Phrase__take : FnScope ["self", "letter"] ["self", "letter"] (defScope s_Phrase__take) :=
  ⟨rfl, rfl, rfl, by decide +kernel, rfl, by decide +kernel, by decide +kernel⟩
abbrev s_Phrase__letter : Stmt := inClass (top 11) 10
theorem sc_Phrase__letter : FnScope ["self"] ["self"] (defScope s_Phrase__letter) :=
  ⟨rfl, rfl, rfl, by decide +kernel, rfl, by decide +kernel, by decide +kernel⟩
abbrev s_Phrase__is_between : Stmt := inClass (top 11) 11
theorem sc_Phrase__is_between : FnScope ["self", "low", "high"] ["self", "low", "high"] (defScope s_Phrase__is_between) :=
  ⟨rfl, rfl, rfl, by decide +kernel, rfl, by decide +kernel, by decide +kernel⟩
abbrev s_Expression___init__ : Stmt := inClass (top 14) 0
theorem sc_Expression___init__ : FnScope ["self", "parts", "sign", "_"] ["self", "parts"] (defScope s_Expression___init__) :=
  ⟨rfl, rfl, rfl, by decide +kernel, rfl, by decide +kernel, by decide +kernel⟩
abbrev s_Expression_read : Stmt := inClass (top 14) 1
theorem sc_Expression_read : FnScope ["cls", "text"] ["cls", "text"] (defScope s_Expression_read) :=
  ⟨rfl, rfl, rfl, by decide +kernel, rfl, by decide +kernel, by decide +kernel⟩
abbrev s_Expression_leaf : Stmt := inClass (top 14) 2
theorem sc_Expression_leaf : FnScope ["label", "name"] ["label", "name"] (defScope s_Expression_leaf) :=
  ⟨rfl, rfl, rfl, by decide +kernel, rfl, by decide +kernel, by decide +kernel⟩
abbrev s_Expression_asked : Stmt := inClass (top 14) 3
theorem sc_Expression_asked : FnScope ["name", "word"] ["name", "word"] (defScope s_Expression_asked) :=
  ⟨rfl, rfl, rfl, by decide +kernel, rfl, by decide +kernel, by decide +kernel⟩
abbrev s_Expression_parts : Stmt := inClass (top 14) 4
theorem sc_Expression_parts : FnScope ["self"] ["self"] (defScope s_Expression_parts) :=
  ⟨rfl, rfl, rfl, by decide +kernel, rfl, by decide +kernel, by decide +kernel⟩
abbrev s_Expression_signs : Stmt := inClass (top 14) 5
theorem sc_Expression_signs : FnScope ["self"] ["self"] (defScope s_Expression_signs) :=
  ⟨rfl, rfl, rfl, by decide +kernel, rfl, by decide +kernel, by decide +kernel⟩
abbrev s_Expression_leaves : Stmt := inClass (top 14) 6
theorem sc_Expression_leaves : FnScope ["self", "_", "label", "name"] ["self"] (defScope s_Expression_leaves) :=
  ⟨rfl, rfl, rfl, by decide +kernel, rfl, by decide +kernel, by decide +kernel⟩
abbrev s_Expression___len__ : Stmt := inClass (top 14) 7
theorem sc_Expression___len__ : FnScope ["self"] ["self"] (defScope s_Expression___len__) :=
  ⟨rfl, rfl, rfl, by decide +kernel, rfl, by decide +kernel, by decide +kernel⟩
abbrev s_Expression___str__ : Stmt := inClass (top 14) 8
theorem sc_Expression___str__ : FnScope ["self"] ["self"] (defScope s_Expression___str__) :=
  ⟨rfl, rfl, rfl, by decide +kernel, rfl, by decide +kernel, by decide +kernel⟩
abbrev s_Expression___eq__ : Stmt := inClass (top 14) 9
theorem sc_Expression___eq__ : FnScope ["self", "other"] ["self", "other"] (defScope s_Expression___eq__) :=
  ⟨rfl, rfl, rfl, by decide +kernel, rfl, by decide +kernel, by decide +kernel⟩
abbrev s_Expression___add__ : Stmt := inClass (top 14) 10
theorem sc_Expression___add__ : FnScope ["self", "other"] ["self", "other"] (defScope s_Expression___add__) :=
  ⟨rfl, rfl, rfl, by decide +kernel, rfl, by decide +kernel, by decide +kernel⟩
abbrev s_Expression___sub__ : Stmt := inClass (top 14) 11
theorem sc_Expression___sub__ : FnScope ["self", "other"] ["self", "other"] (defScope s_Expression___sub__) :=
  ⟨rfl, rfl, rfl, by decide +kernel, rfl, by decide +kernel, by decide +kernel⟩
abbrev s_Expression___mul__ : Stmt := inClass (top 14) 12
theorem sc_Expression___mul__ : FnScope ["self", "other"] ["self", "other"] (defScope s_Expression___mul__) :=
  ⟨rfl, rfl, rfl, by decide +kernel, rfl, by decide +kernel, by decide +kernel⟩
abbrev s_Expression___floordiv__ : Stmt := inClass (top 14) 13
theorem sc_Expression___floordiv__ : FnScope ["self", "other"] ["self", "other"] (defScope s_Expression___floordiv__) :=
  ⟨rfl, rfl, rfl, by decide +kernel, rfl, by decide +kernel, by decide +kernel⟩
abbrev s_Expression___and__ : Stmt := inClass (top 14) 14
theorem sc_Expression___and__ : FnScope ["self", "other"] ["self", "other"] (defScope s_Expression___and__) :=
  ⟨rfl, rfl, rfl, by decide +kernel, rfl, by decide +kernel, by decide +kernel⟩
abbrev s_Expression___or__ : Stmt := inClass (top 14) 15
theorem sc_Expression___or__ : FnScope ["self", "other"] ["self", "other"] (defScope s_Expression___or__) :=
  ⟨rfl, rfl, rfl, by decide +kernel, rfl, by decide +kernel, by decide +kernel⟩
abbrev s_Expression___xor__ : Stmt := inClass (top 14) 16
theorem sc_Expression___xor__ : FnScope ["self", "other"] ["self", "other"] (defScope s_Expression___xor__) :=
  ⟨rfl, rfl, rfl, by decide +kernel, rfl, by decide +kernel, by decide +kernel⟩
abbrev s_Expression___lshift__ : Stmt := inClass (top 14) 17
theorem sc_Expression___lshift__ : FnScope ["self", "other"] ["self", "other"] (defScope s_Expression___lshift__) :=
  ⟨rfl, rfl, rfl, by decide +kernel, rfl, by decide +kernel, by decide +kernel⟩
abbrev s_Expression___rshift__ : Stmt := inClass (top 14) 18
theorem sc_Expression___rshift__ : FnScope ["self", "other"] ["self", "other"] (defScope s_Expression___rshift__) :=
  ⟨rfl, rfl, rfl, by decide +kernel, rfl, by decide +kernel, by decide +kernel⟩
abbrev s_Expression___rmul__ : Stmt := inClass (top 14) 19
theorem sc_Expression___rmul__ : FnScope ["self", "other"] ["self", "other"] (defScope s_Expression___rmul__) :=
  ⟨rfl, rfl, rfl, by decide +kernel, rfl, by decide +kernel, by decide +kernel⟩
abbrev s_Expression___pow__ : Stmt := inClass (top 14) 20
theorem sc_Expression___pow__ : FnScope ["self", "other"] ["self", "other"] (defScope s_Expression___pow__) :=
  ⟨rfl, rfl, rfl, by decide +kernel, rfl, by decide +kernel, by decide +kernel⟩
abbrev s_Expression___neg__ : Stmt := inClass (top 14) 21
theorem sc_Expression___neg__ : FnScope ["self"] ["self"] (defScope s_Expression___neg__) :=
  ⟨rfl, rfl, rfl, by decide +kernel, rfl, by decide +kernel, by decide +kernel⟩
abbrev s_Expression___pos__ : Stmt := inClass (top 14) 22
theorem sc_Expression___pos__ : FnScope ["self"] ["self"] (defScope s_Expression___pos__) :=
  ⟨rfl, rfl, rfl, by decide +kernel, rfl, by decide +kernel, by decide +kernel⟩
abbrev s_Expression___invert__ : Stmt := inClass (top 14) 23
theorem sc_Expression___invert__ : FnScope ["self"] ["self"] (defScope s_Expression___invert__) :=
  ⟨rfl, rfl, rfl, by decide +kernel, rfl, by decide +kernel, by decide +kernel⟩
abbrev s_Expression___abs__ : Stmt := inClass (top 14) 24
theorem sc_Expression___abs__ : FnScope ["self"] ["self"] (defScope s_Expression___abs__) :=
  ⟨rfl, rfl, rfl, by decide +kernel, rfl, by decide +kernel, by decide +kernel⟩
abbrev s_joined : Stmt := top 15
theorem sc_joined : FnScope ["sign", "operands", "parts", "operand"] ["sign", "operands"] (defScope s_joined) :=
  ⟨rfl, rfl, rfl, by decide +kernel, rfl, by decide +kernel, by decide +kernel⟩
abbrev s_repeated : Stmt := top 16
theorem sc_repeated : FnScope ["sign", "operand", "many", "parts"] ["sign", "operand", "many"] (defScope s_repeated) :=
  ⟨rfl, rfl, rfl, by decide +kernel, rfl, by decide +kernel, by decide +kernel⟩
abbrev s_checked : Stmt := top 17
theorem sc_checked : FnScope ["parts", "sign", "_"] ["parts"] (defScope s_checked) :=
  ⟨rfl, rfl, rfl, by decide +kernel, rfl, by decide +kernel, by decide +kernel⟩
abbrev s_written : Stmt := top 18
theorem sc_written : FnScope ["parts", "texts", "sign", "label", "name", "operand", "right", "left"] ["parts"] (defScope s_written) :=
  ⟨rfl, rfl, rfl, by decide +kernel, rfl, by decide +kernel, by decide +kernel⟩
abbrev s_law_bag : Stmt := top 20
theorem sc_law_bag : FnScope ["script", "at", "cell", "mixed", "k", "each"] ["script", "at"] (defScope s_law_bag) :=
  ⟨rfl, rfl, rfl, by decide +kernel, rfl, by decide +kernel, by decide +kernel⟩
abbrev s_law_take : Stmt := top 21
theorem sc_law_take : FnScope ["bag", "many", "digit"] ["bag", "many"] (defScope s_law_take) :=
  ⟨rfl, rfl, rfl, by decide +kernel, rfl, by decide +kernel, by decide +kernel⟩
abbrev s_law_of : Stmt := top 22
theorem sc_law_of : FnScope ["bag", "some"] ["bag", "some"] (defScope s_law_of) :=
  ⟨rfl, rfl, rfl, by decide +kernel, rfl, by decide +kernel, by decide +kernel⟩
abbrev s_law_letters : Stmt := top 23
theorem sc_law_letters : FnScope ["bag", "first", "many", "found", "turn"] ["bag", "first", "many"] (defScope s_law_letters) :=
  ⟨rfl, rfl, rfl, by decide +kernel, rfl, by decide +kernel, by decide +kernel⟩
abbrev s_law_number : Stmt := top 24
theorem sc_law_number : FnScope ["x", "due"] ["x", "due"] (defScope s_law_number) :=
  ⟨rfl, rfl, rfl, by decide +kernel, rfl, by decide +kernel, by decide +kernel⟩
abbrev s_law_leaf_right : Stmt := top 25
theorem sc_law_leaf_right : FnScope ["bag", "tag", "kind", "one", "line", "other", "told", "back"] ["bag"] (defScope s_law_leaf_right) :=
  ⟨rfl, rfl, rfl, by decide +kernel, rfl, by decide +kernel, by decide +kernel⟩
abbrev s_law_asked_right : Stmt := top 26
theorem sc_law_asked_right : FnScope ["bag", "ask", "kind", "one", "line", "told", "back"] ["bag"] (defScope s_law_asked_right) :=
  ⟨rfl, rfl, rfl, by decide +kernel, rfl, by decide +kernel, by decide +kernel⟩
abbrev s_law : Stmt := top 27
theorem sc_law : FnScope ["script", "at", "bag", "turn"] ["script"] (defScope s_law) :=
  ⟨rfl, rfl, rfl, by decide +kernel, rfl, by decide +kernel, by decide +kernel⟩
structure Txt (K : Fg) (mg : Str → Option Value) : Prop where
  n_isinstance : mg "isinstance" = none
  n_list : mg "list" = none
  n_tuple : mg "tuple" = none
  n_int : mg "int" = none
  n_str : mg "str" = none
  n_bool : mg "bool" = none
  n_len : mg "len" = none
  n_abs : mg "abs" = none
  n_max : mg "max" = none
  n_min : mg "min" = none
  n_range : mg "range" = none
  n_enumerate : mg "enumerate" = none
  n_all : mg "all" = none
  n_ValueError : mg "ValueError" = none
  n_LookupError : mg "LookupError" = none
  n_KeyError : mg "KeyError" = none
  n_IndexError : mg "IndexError" = none
end K31

namespace K31
open PySem PySem.Spec PyProof.Rows L2 EV TL LM
/-- a tuple of the written part -/
def TupK (K : Fg) (a : Addr) (xs : List V) : Prop := ∃ (o : Obj) (its : Array Value) (n : Nat), K.lookup a = some o ∧ o.cls = .type "tuple" ∧ o.data = .seq its n ∧ its.size ≤ sizeLine ∧ Vals xs its.toList
theorem TupK.sq {K : Fg} {a : Addr} {xs : List V} {H : Hp} (h : TupK K a xs) : SqT K H a xs := .inr h
/-- the constants of the modules -/
structure Cst (K : Fg) (mg : Str → Option Value) : Prop extends Txt K mg where
  g_LONGEST_NAME : ∃ u, mg "LONGEST_NAME" = some u ∧ RelV (.int 8) u
  g_MOST_OPENED : ∃ u, mg "MOST_OPENED" = some u ∧ RelV (.int 100) u
  g_MOST_STEPS : ∃ u, mg "MOST_STEPS" = some u ∧ RelV (.int 100) u
  g_BINARY_SIGNS : ∃ a, mg "BINARY_SIGNS" = some (.ref a) ∧ TupK K a (binary.map V.str)
  g_UNARY_SIGNS : ∃ a, mg "UNARY_SIGNS" = some (.ref a) ∧ TupK K a (unary.map V.str)
/-! ### Phrase: a text that is read, with the place in it -/
def phF (t : Str) (i : Nat) (wl fl : Addr) : List (Str × V) := [("_text", .str t), ("_at", .int (i : Nat)), ("_waiting", .ref wl), ("_found", .ref fl)]
theorem ph_text {t : Str} {i : Nat} {wl fl : Addr} : (phF t i wl fl).lookup ("_text" : Str) = some (V.str t) := rfl
theorem ph_at {t : Str} {i : Nat} {wl fl : Addr} : (phF t i wl fl).lookup ("_at" : Str) = some (V.int (i : Nat)) := rfl
theorem ph_wait {t : Str} {i : Nat} {wl fl : Addr} : (phF t i wl fl).lookup ("_waiting" : Str) = some (V.ref wl) := rfl
theorem ph_found {t : Str} {i : Nat} {wl fl : Addr} : (phF t i wl fl).lookup ("_found" : Str) = some (V.ref fl) := rfl
theorem ph_put {t : Str} {i j : Nat} {wl fl : Addr} : putF ("_at" : Str) (V.int (j : Nat)) (phF t i wl fl) = phF t j wl fl := by
  unfold phF
  rw [putF, if_neg (by decide +kernel), putF, if_pos rfl]
theorem ph_no {t : Str} {i : Nat} {wl fl : Addr} {m : Str} (h : m ∉ (["_text", "_at", "_waiting", "_found"] : List Str)) : (phF t i wl fl).lookup m = none := by
  simp only [List.mem_cons, List.not_mem_nil, or_false, not_or] at h
  obtain ⟨h1, h2, h3, h4⟩ := h
  unfold phF
  simp only [List.lookup, beq_eq_false_iff_ne.mpr h1, beq_eq_false_iff_ne.mpr h2, beq_eq_false_iff_ne.mpr h3, beq_eq_false_iff_ne.mpr h4]
structure PhC (K : Fg) (C : Addr) : Prop where
  cls : Cls K C
  no : ∀ f ∈ (["_text", "_at", "_waiting", "_found"] : List Str), NoAttr K C f
/-- the letter at i, or nothing -/
def letAt (t : Str) (i : Nat) : Str := ⟨(((tl t).drop i).take 1).toArray⟩
theorem cut_let {t : Str} {i : Nat} (h : i ≤ t.length) : cutS t (some ((i : Nat) : Int)) (some (((i : Nat) : Int) + 1)) = letAt t i := by
  unfold cutS letAt
  rw [show (((i : Nat) : Int) + 1) = ((i + 1 : Nat) : Int) by omega, HT.sIx_nat, HT.sIx_nat, Nat.min_eq_left h]
  congr 2
  show List.take _ (List.drop i t.cps.toList) = List.take 1 (List.drop i (tl t))
  by_cases e : i + 1 ≤ t.length
  · rw [Nat.min_eq_left e, show i + 1 - i = 1 by omega]
  · have hl : (List.drop i (tl t)).length = 0 := by
      rw [List.length_drop, ← len_tl]
      omega
    rw [List.length_eq_zero_iff.mp hl, List.take_nil, List.take_nil]
theorem lt_one (a b : Nat) : decide ([a] < [b]) = decide (a < b) := by
  by_cases h : a < b
  · rw [decide_eq_true h, decide_eq_true (List.cons_lt_cons_iff.mpr (.inl h))]
  · rw [decide_eq_false h, decide_eq_false]
    intro z
    rcases List.cons_lt_cons_iff.mp z with z | ⟨_, z⟩
    · exact h z
    · exact absurd z (by simp)
theorem le_one (a b : Nat) : (!decide ([b] < [a])) = decide (a ≤ b) := by
  rw [lt_one]
  by_cases h : a ≤ b
  · rw [decide_eq_true h, decide_eq_false (by omega)]
    rfl
  · rw [decide_eq_false h, decide_eq_true (by omega)]
    rfl
/-- between two letters -/
def betw (lo hi : Nat) (t : Str) (i : Nat) : Bool := match (tl t)[i]? with
  | none => false
  | some c => decide (lo ≤ c) && decide (c ≤ hi)
section
variable {P : Program} {w : World} {K : Fg} {mg : Str → Option Value} {base : Heap}
def spLetter (C : Addr) : Sp := fun vs H Q _ => ∃ (a dx wl fl : Addr) (t : Str) (i : Nat), vs = [.ref a] ∧ H a = some (.ins C dx (phF t i wl fl)) ∧ i ≤ t.length ∧ t.length ≤ 1000000 ∧ Q (.str (letAt t i)) H
theorem ok_letter {f C : Addr} {fd : FuncData} (F : Fun K "_letter" "Phrase._letter" s_Phrase__letter f fd) (T : Cst K mg) (hC : PhC K C) : FnOk P w K mg base CX0 1 f fd ["self"] (spLetter C) := by
  refine F.ok sc_Phrase__letter (fun vs H Q E h => ?_) (fun cdv A outer s H vs Q E hr h => ?_)
  · obtain ⟨a, dx, wl, fl, t, i, rfl, _⟩ := h
    rfl
  · obtain ⟨a, dx, wl, fl, t, i, rfl, ha, hi, hl, k⟩ := h
    refine ⟨_, (pss_one (ps_ret (pe_slice sl_str (pe_fld (pv 0) rfl) (po_some (pe_fld (pv 0) rfl)) (po_some (pe_op op_add (pe_fld (pv 0) rfl) pe_int))))), ?_⟩
    refine ⟨_, rfl, a, C, dx, _, _, rfl, ha, hC.cls, hC.no _ (by simp), ph_text, _, rfl, a, C, dx, _, _, rfl, ha, hC.cls, hC.no _ (by simp), ph_at, _, rfl, _, rfl, a, C, dx, _, _, rfl, ha, hC.cls, hC.no _ (by simp), ph_at, _, _, rfl, rfl, _, rfl, t, rfl, by rw [sizeLine_eq]; omega, ?_⟩
    rw [cut_let hi]
    exact k
/-- low <= letter <= high, for two letters -/
def spBetw (C : Addr) : Sp := fun vs H Q _ => ∃ (a dx wl fl : Addr) (t : Str) (i lo hi : Nat), vs = [.ref a, .str ⟨#[lo]⟩, .str ⟨#[hi]⟩] ∧ H a = some (.ins C dx (phF t i wl fl)) ∧ i ≤ t.length ∧ t.length ≤ 1000000 ∧ Q (.bl (betw lo hi t i)) H
theorem ok_between {f C : Addr} {fd : FuncData} (F : Fun K "_is_between" "Phrase._is_between" s_Phrase__is_between f fd) (T : Cst K mg) (hC : PhC K C) (O_letter : OkM CX0 P w K mg base 1 C "_letter" ["self"] (spLetter C)) :
    FnOk P w K mg base CX0 2 f fd ["self", "low", "high"] (spBetw C) := by
  refine F.ok sc_Phrase__is_between (fun vs H Q E h => ?_) (fun cdv A outer s H vs Q E hr h => ?_)
  · obtain ⟨a, dx, wl, fl, t, i, lo, hi, rfl, _⟩ := h
    rfl
  · obtain ⟨a, dx, wl, fl, t, i, lo, hi, rfl, ha, hi1, hl, k⟩ := h
    refine ⟨_, (pss_one (ps_ret (pe_chain op_le_str op_le_str (pv 1) (pe_methO0 (pv 0) hC.cls O_letter (hr.mono (by decide))) (pv 2)))), ?_⟩
    refine ⟨_, rfl, _, rfl, a, dx, _, rfl, ha, ph_no (by decide +kernel), a, dx, wl, fl, t, i, rfl, ha, hi1, hl, _, _, rfl, rfl, ?_⟩
    unfold betw at k
    cases e : (tl t)[i]? with
    | none =>
      rw [e] at k
      have e2 : letAt t i = ⟨#[]⟩ := by
        unfold letAt
        rw [List.drop_of_length_le (List.getElem?_eq_none_iff.mp e)]
        rfl
      rw [e2]
      have e3 : (!decide ((⟨#[]⟩ : Str).cps.toList < (⟨#[lo]⟩ : Str).cps.toList)) = false := by
        rw [decide_eq_true (show ([] : List Nat) < [lo] from List.nil_lt_cons lo [])]
        rfl
      rw [e3]
      exact ⟨_, rfl, iteF k⟩
    | some c =>
      rw [e] at k
      change Q (.bl (decide (lo ≤ c) && decide (c ≤ hi))) H at k
      have e2 : letAt t i = ⟨#[c]⟩ := by
        unfold letAt
        obtain ⟨hj, hc⟩ := List.getElem?_eq_some_iff.mp e
        rw [List.drop_eq_getElem_cons hj, hc]
        rfl
      rw [e2]
      rw [show (!decide ((⟨#[c]⟩ : Str).cps.toList < (⟨#[lo]⟩ : Str).cps.toList)) = decide (lo ≤ c) from le_one lo c]
      cases e3 : decide (lo ≤ c) with
      | false =>
        rw [e3] at k
        exact ⟨_, rfl, iteF k⟩
      | true =>
        rw [e3] at k
        refine ⟨_, rfl, iteT ⟨_, rfl, _, _, rfl, rfl, ?_⟩⟩
        rw [show (!decide ((⟨#[hi]⟩ : Str).cps.toList < (⟨#[c]⟩ : Str).cps.toList)) = decide (c ≤ hi) from le_one c hi]
        exact k
theorem s_a : ("a" : Str) = ⟨#[97]⟩ := by decide +kernel
theorem s_z : ("z" : Str) = ⟨#[122]⟩ := by decide +kernel
theorem upd_upd {H : Hp} {p : Addr} {o u : HO} : upd (upd H p o) p u = upd H p u := by
  funext b
  by_cases e : b = p
  · rw [e, upd_same, upd_same]
  · rw [upd_ne e, upd_ne e, upd_ne e]
theorem ph_inc {H : Hp} {a C dx wl fl : Addr} {t : Str} {j : Nat} : upd (upd H a (.ins C dx (phF t j wl fl))) a (.ins C dx (putF ("_at" : Str) (V.int (((j : Nat) : Int) + 1)) (phF t j wl fl))) = upd H a (.ins C dx (phF t (j + 1) wl fl)) := by
  rw [show (((j : Nat) : Int) + 1) = ((j + 1 : Nat) : Int) by omega, ph_put, upd_upd]
theorem ph_inc0 {H : Hp} {a C dx wl fl : Addr} {t : Str} {j : Nat} : upd H a (.ins C dx (putF ("_at" : Str) (V.int (((j : Nat) : Int) + 1)) (phF t j wl fl))) = upd H a (.ins C dx (phF t (j + 1) wl fl)) := by
  rw [show (((j : Nat) : Int) + 1) = ((j + 1 : Nat) : Int) by omega, ph_put]
/-- how many small letters stand at i, at most n -/
def smallN (t : Str) (i n : Nat) : Nat := ((((tl t).drop i).take n).takeWhile fun c => decide (97 ≤ c) && decide (c ≤ 122)).length
/-- the small letters are passed -/
def spSkip (C : Addr) : Sp := fun vs H Q _ => ∃ (a dx wl fl : Addr) (t : Str) (i n : Nat), vs = [.ref a, .int ((i + n : Nat) : Int)] ∧ H a = some (.ins C dx (phF t i wl fl)) ∧ i ≤ t.length ∧ t.length ≤ 1000000 ∧ n ≤ 1000000 ∧
  ∀ H', H' = upd H a (.ins C dx (phF t (i + smallN t i n) wl fl)) → Q .non H'
theorem small_le (t : Str) (i n : Nat) : smallN t i n ≤ n ∧ i + smallN t i n ≤ max i t.length := by
  have h1 := List.takeWhile_sublist (l := ((tl t).drop i).take n) (p := fun c => decide (97 ≤ c) && decide (c ≤ 122)) |>.length_le
  rw [List.length_take, List.length_drop, ← len_tl] at h1
  unfold smallN
  omega
theorem small_step {t : Str} {i n : Nat} (h : betw 97 122 t i = true) (hn : 0 < n) : smallN t i n = 1 + smallN t (i + 1) (n - 1) := by
  unfold betw at h
  cases e : (tl t)[i]? with
  | none => rw [e] at h; cases h
  | some c =>
    rw [e] at h
    have h' : (decide (97 ≤ c) && decide (c ≤ 122)) = true := h
    obtain ⟨hj, hc⟩ := List.getElem?_eq_some_iff.mp e
    obtain ⟨m, rfl⟩ : ∃ m, n = m + 1 := ⟨n - 1, by omega⟩
    unfold smallN
    rw [List.drop_eq_getElem_cons hj, hc, List.take_succ_cons, List.takeWhile_cons, if_pos h', List.length_cons, Nat.add_sub_cancel]
    omega
theorem small_stop {t : Str} {i n : Nat} (h : betw 97 122 t i = false ∨ n = 0) : smallN t i n = 0 := by
  rcases h with h | rfl
  · unfold smallN
    unfold betw at h
    cases e : (tl t)[i]? with
    | none =>
      rw [List.drop_of_length_le (List.getElem?_eq_none_iff.mp e), List.take_nil]
      rfl
    | some c =>
      rw [e] at h
      have h' : (decide (97 ≤ c) && decide (c ≤ 122)) = false := h
      obtain ⟨hj, hc⟩ := List.getElem?_eq_some_iff.mp e
      rw [List.drop_eq_getElem_cons hj, hc]
      cases n with
      | zero => rfl
      | succ m =>
        rw [List.take_succ_cons, List.takeWhile_cons, if_neg (by rw [h']; exact Bool.false_ne_true)]
        rfl
  · unfold smallN
    rw [List.take_zero]
    rfl
theorem ok_skip {f C : Addr} {fd : FuncData} (F : Fun K "_skip_small" "Phrase._skip_small" s_Phrase__skip_small f fd) (T : Cst K mg) (hC : PhC K C)
    (O_between : OkM CX0 P w K mg base 2 C "_is_between" ["self", "low", "high"] (spBetw C)) : FnOk P w K mg base CX0 3 f fd ["self", "end"] (spSkip C) := by
  refine F.ok sc_Phrase__skip_small (fun vs H Q E h => ?_) (fun cdv A outer s H vs Q E hr h => ?_)
  · obtain ⟨a, dx, wl, fl, t, i, n, rfl, _⟩ := h
    rfl
  · obtain ⟨a, dx, wl, fl, t, i, n, rfl, ha, hi, hl, hn, k⟩ := h
    refine ⟨_, (pss_one (ps_while PassesOwn.never (PW.pt (pw_and (pt_cmpR op_lt (pe_fld (pv 0) rfl) (pv 1) (nomark _)) (pw_and1 (pt_val (pe_methO (pv 0) hC.cls O_between (hr.mono (by decide)) (pa_cons pe_str (pa_cons pe_str pa_nil))))))) (pss_one (ps_fldaug (pv 0) pe_int ip_add)))), ?_⟩
    refine ⟨fun m σ G => ∃ j, j ≤ t.length ∧ j ≤ i + n ∧ m = i + n - j ∧ i ≤ j ∧ j + smallN t j (i + n - j) = i + smallN t i n ∧ G = upd H a (.ins C dx (phF t j wl fl)) ∧ σ = [some (.ref a), some (.int ((i + n : Nat) : Int))], ⟨n, i, hi, by omega, by omega, by omega, by rw [Nat.add_sub_cancel_left], ?_, rfl⟩, ?_⟩
    · funext b
      by_cases e : b = a
      · rw [e, upd_same]
        exact ha
      · rw [upd_ne e]
    · rintro m σ G ⟨j, j1, j2, rfl, j3, j4, rfl, rfl⟩
      have hg : ∀ {o : HO}, upd H a o a = some o := upd_same
      refine ⟨_, rfl, a, C, dx, _, _, rfl, hg, hC.cls, hC.no _ (by simp), ph_at, _, rfl, _, _, rfl, rfl, _, rfl, ?_⟩
      by_cases hlt : j < i + n
      · rw [decide_eq_true (show ((j : Nat) : Int) < ((i + n : Nat) : Int) by omega)]
        refine iteT ⟨_, rfl, a, dx, _, rfl, hg, ph_no (by decide +kernel), a, dx, wl, fl, t, j, 97, 122, by rw [s_a, s_z]; rfl, hg, j1, hl, _, rfl, ?_⟩
        cases e : betw 97 122 t j with
        | true =>
          have hjt : j < t.length := by
            unfold betw at e
            cases e2 : (tl t)[j]? with
            | none => rw [e2] at e; cases e
            | some c => have := (List.getElem?_eq_some_iff.mp e2).1; rw [← len_tl] at this; exact this
          have hs := small_step (n := i + n - j) e (by omega)
          refine iteT ⟨fun σ' G' => G' = upd H a (.ins C dx (phF t (j + 1) wl fl)) ∧ σ' = [some (.ref a), some (.int ((i + n : Nat) : Int))], ?_, ?_⟩
          · rintro σ' G' ⟨rfl, rfl⟩
            refine ⟨i + n - (j + 1), by omega, j + 1, hjt, by omega, rfl, by omega, ?_, rfl, rfl⟩
            rw [show i + n - (j + 1) = i + n - j - 1 by omega]
            omega
          · refine ⟨_, rfl, a, C, dx, _, _, rfl, hg, hC.cls, hC.no _ (by simp), ph_at, _, _, rfl, rfl, dx, _, hg, by show 4 < 1000; decide, ?_, rfl⟩
            exact ph_inc
        | false =>
          have hs := small_stop (t := t) (i := j) (n := i + n - j) (.inl e)
          refine iteF (k _ ?_)
          rw [show i + smallN t i n = j by omega]
      · rw [decide_eq_false (show ¬ ((j : Nat) : Int) < ((i + n : Nat) : Int) by omega)]
        have hs := small_stop (t := t) (i := j) (n := i + n - j) (.inr (by omega))
        refine iteF (iteF (k _ ?_))
        rw [show i + smallN t i n = j by omega]
/-- the n letters at i -/
def subT (t : Str) (i n : Nat) : Str := ⟨(((tl t).drop i).take n).toArray⟩
theorem cut_sub {t : Str} {i n : Nat} (h : i + n ≤ t.length) : cutS t (some ((i : Nat) : Int)) (some ((i + n : Nat) : Int)) = subT t i n := by
  unfold cutS subT
  rw [HT.sIx_nat, HT.sIx_nat, Nat.min_eq_left (show i ≤ t.length by omega), Nat.min_eq_left h, Nat.add_sub_cancel_left]
theorem let_at {t : Str} {i c : Nat} (h : (tl t)[i]? = some c) : letAt t i = ⟨#[c]⟩ := by
  unfold letAt
  obtain ⟨hj, hc⟩ := List.getElem?_eq_some_iff.mp h
  rw [List.drop_eq_getElem_cons hj, hc]
  rfl
theorem at_lt {t : Str} {i c : Nat} (h : (tl t)[i]? = some c) : i < t.length := by
  have := (List.getElem?_eq_some_iff.mp h).1
  rw [← len_tl] at this
  exact this
theorem betw_lt {lo hi : Nat} {t : Str} {i : Nat} (h : betw lo hi t i = true) : i < t.length := by
  unfold betw at h
  cases e : (tl t)[i]? with
  | none => rw [e] at h; cases h
  | some c => exact at_lt e
/-- the letter that must stand there -/
def spTakeL (C : Addr) : Sp := fun vs H Q _ => ∃ (a dx wl fl : Addr) (t : Str) (i c : Nat), vs = [.ref a, .str ⟨#[c]⟩] ∧ H a = some (.ins C dx (phF t i wl fl)) ∧ (tl t)[i]? = some c ∧ t.length ≤ 1000000 ∧ Q .non (upd H a (.ins C dx (phF t (i + 1) wl fl)))
theorem ok_take {f C : Addr} {fd : FuncData} (F : Fun K "_take" "Phrase._take" s_Phrase__take f fd) (T : Cst K mg) (hC : PhC K C) (O_letter : OkM CX0 P w K mg base 1 C "_letter" ["self"] (spLetter C)) :
    FnOk P w K mg base CX0 2 f fd ["self", "letter"] (spTakeL C) := by
  refine F.ok sc_Phrase__take (fun vs H Q E h => ?_) (fun cdv A outer s H vs Q E hr h => ?_)
  · obtain ⟨a, dx, wl, fl, t, i, c, rfl, _⟩ := h
    rfl
  · obtain ⟨a, dx, wl, fl, t, i, c, rfl, ha, hc, hl, k⟩ := h
    have hi := at_lt hc
    refine ⟨_, (pss_cons (ps_if (pt_cmpR op_ne (pe_methO0 (pv 0) hC.cls O_letter (hr.mono (by decide))) (pv 1) (nomark _)) (pss_one ps_never) pss_nil)
    (pss_one (ps_fldaug (pv 0) pe_int ip_add))), ?_⟩
    refine ⟨_, rfl, a, dx, _, rfl, ha, ph_no (by decide +kernel), a, dx, wl, fl, t, i, rfl, ha, by omega, hl, _, rfl, ?_⟩
    rw [let_at hc]
    refine ⟨rfl, _, rfl, ?_⟩
    rw [decide_eq_true rfl]
    refine iteF ⟨_, rfl, a, C, dx, _, _, rfl, ha, hC.cls, hC.no _ (by simp), ph_at, _, _, rfl, rfl, dx, _, ha, by show 4 < 1000; decide, ?_⟩
    show Q .non (upd H a (.ins C dx (putF ("_at" : Str) (V.int (((i : Nat) : Int) + 1)) (phF t i wl fl))))
    rw [ph_inc0]
    exact k
/-- a word of small letters, eight at most -/
def spWord (C : Addr) : Sp := fun vs H Q _ => ∃ (a dx wl fl : Addr) (t : Str) (i n : Nat), vs = [.ref a] ∧ H a = some (.ins C dx (phF t i wl fl)) ∧ i ≤ t.length ∧ t.length ≤ 1000000 ∧ smallN t i 8 = n ∧ 0 < n ∧ Q (.str (subT t i n)) (upd H a (.ins C dx (phF t (i + n) wl fl)))
theorem ok_word {f C : Addr} {fd : FuncData} (F : Fun K "_take_word" "Phrase._take_word" s_Phrase__take_word f fd) (T : Cst K mg) (hC : PhC K C) (O_skip_small : OkM CX0 P w K mg base 3 C "_skip_small" ["self", "end"] (spSkip C)) :
    FnOk P w K mg base CX0 4 f fd ["self"] (spWord C) := by
  refine F.ok sc_Phrase__take_word (fun vs H Q E h => ?_) (fun cdv A outer s H vs Q E hr h => ?_)
  · obtain ⟨a, dx, wl, fl, t, i, n, rfl, _⟩ := h
    rfl
  · obtain ⟨a, dx, wl, fl, t, i, n, rfl, ha, hi, hl, hn, n0, k⟩ := h
    obtain ⟨sm1, sm2⟩ := small_le t i 8
    refine ⟨_, (pss_cons (ps_set (i := 1) sc_Phrase__take_word.nd rfl (Or.inl rfl) (pe_fld (pv 0) rfl))
    (pss_cons (ps_expr (pe_methO (pv 0) hC.cls O_skip_small (hr.mono (by decide)) (pa_cons (pe_op op_add (pv 1) (pe_gv T.g_LONGEST_NAME)) pa_nil)))
    (pss_cons (ps_if (pt_cmpR op_eq (pe_fld (pv 0) rfl) (pv 1) (nomark _)) (pss_one ps_never) pss_nil)
    (pss_one (ps_ret (pe_slice sl_str (pe_fld (pv 0) rfl) (po_some (pv 1)) (po_some (pe_fld (pv 0) rfl)))))))), ?_⟩
    refine ⟨_, rfl, a, C, dx, _, _, rfl, ha, hC.cls, hC.no _ (by simp), ph_at, ?_⟩
    refine ⟨_, rfl, a, dx, _, rfl, ha, ph_no (by decide +kernel), _, rfl, _, _, rfl, rfl, a, dx, wl, fl, t, i, 8, rfl, ha, hi, hl, by decide, fun H' e => ?_⟩
    subst e
    rw [hn] at sm1 sm2 ⊢
    have hg : ∀ {o : HO}, upd H a o a = some o := upd_same
    refine ⟨_, rfl, a, C, dx, _, _, rfl, hg, hC.cls, hC.no _ (by simp), ph_at, _, rfl, rfl, _, rfl, ?_⟩
    rw [decide_eq_false (show ¬ V.int ((i + n : Nat) : Int) = V.int ((i : Nat) : Int) from fun e => by injection e with e; omega)]
    refine iteF ⟨_, rfl, a, C, dx, _, _, rfl, hg, hC.cls, hC.no _ (by simp), ph_text, _, rfl, _, rfl, _, rfl, a, C, dx, _, _, rfl, hg, hC.cls, hC.no _ (by simp), ph_at, _, rfl, t, rfl, by rw [sizeLine_eq]; omega, ?_⟩
    rw [cut_sub (by omega)]
    exact k
/-- a class name -/
def spClass (C : Addr) : Sp := fun vs H Q _ => ∃ (a dx wl fl : Addr) (t : Str) (i n : Nat), vs = [.ref a] ∧ H a = some (.ins C dx (phF t i wl fl)) ∧ t.length ≤ 1000000 ∧ betw 65 90 t i = true ∧ smallN t (i + 1) 7 = n ∧ Q (.str (subT t i (n + 1))) (upd H a (.ins C dx (phF t (i + (n + 1)) wl fl)))
theorem s_A : ("A" : Str) = ⟨#[65]⟩ := by decide +kernel
theorem s_Z : ("Z" : Str) = ⟨#[90]⟩ := by decide +kernel
theorem ok_class {f C : Addr} {fd : FuncData} (F : Fun K "_take_class" "Phrase._take_class" s_Phrase__take_class f fd) (T : Cst K mg) (hC : PhC K C) (O_between : OkM CX0 P w K mg base 2 C "_is_between" ["self", "low", "high"] (spBetw C))
    (O_skip_small : OkM CX0 P w K mg base 3 C "_skip_small" ["self", "end"] (spSkip C)) : FnOk P w K mg base CX0 4 f fd ["self"] (spClass C) := by
  refine F.ok sc_Phrase__take_class (fun vs H Q E h => ?_) (fun cdv A outer s H vs Q E hr h => ?_)
  · obtain ⟨a, dx, wl, fl, t, i, n, rfl, _⟩ := h
    rfl
  · obtain ⟨a, dx, wl, fl, t, i, n, rfl, ha, hl, hb, hn, k⟩ := h
    have hi := betw_lt hb
    obtain ⟨sm1, sm2⟩ := small_le t (i + 1) 7
    refine ⟨_, (pss_cons (ps_if (pt_not (pt_val (pe_methO (pv 0) hC.cls O_between (hr.mono (by decide)) (pa_cons pe_str (pa_cons pe_str pa_nil))))) (pss_one ps_never) pss_nil)
    (pss_cons (ps_set (i := 1) sc_Phrase__take_class.nd rfl (Or.inl rfl) (pe_fld (pv 0) rfl))
    (pss_cons (ps_fldaug (pv 0) pe_int ip_add)
    (pss_cons (ps_expr (pe_methO (pv 0) hC.cls O_skip_small (hr.mono (by decide)) (pa_cons (pe_op op_add (pv 1) (pe_gv T.g_LONGEST_NAME)) pa_nil)))
    (pss_one (ps_ret (pe_slice sl_str (pe_fld (pv 0) rfl) (po_some (pv 1)) (po_some (pe_fld (pv 0) rfl))))))))), ?_⟩
    refine ⟨_, rfl, a, dx, _, rfl, ha, ph_no (by decide +kernel), a, dx, wl, fl, t, i, 65, 90, by rw [s_A, s_Z]; rfl, ha, by omega, hl, _, rfl, ?_⟩
    rw [hb]
    refine iteF ⟨_, rfl, a, C, dx, _, _, rfl, ha, hC.cls, hC.no _ (by simp), ph_at, ?_⟩
    refine ⟨_, rfl, a, C, dx, _, _, rfl, ha, hC.cls, hC.no _ (by simp), ph_at, _, _, rfl, rfl, dx, _, ha, by show 4 < 1000; decide, ?_⟩
    have hg : ∀ {o : HO}, upd H a o a = some o := upd_same
    have e0 : upd H a (.ins C dx (putF ("_at" : Str) (V.int (((i : Nat) : Int) + 1)) (phF t i wl fl))) = upd H a (.ins C dx (phF t (i + 1) wl fl)) := ph_inc0
    have ha1 := (congrFun e0 a).trans hg
    have e8 : [V.ref a, V.int (((i : Nat) : Int) + 8)] = [V.ref a, V.int ((i + 1 + 7 : Nat) : Int)] := by rw [show (((i : Nat) : Int) + 8) = ((i + 1 + 7 : Nat) : Int) by omega]
    refine ⟨_, rfl, a, dx, _, rfl, ha1, ph_no (by decide +kernel), _, rfl, _, _, rfl, rfl, a, dx, wl, fl, t, i + 1, 7, e8, ha1, by omega, hl, by decide, fun H' e => ?_⟩
    rw [upd_upd, hn] at e
    subst e
    rw [hn] at sm1 sm2
    refine ⟨_, rfl, a, C, dx, _, _, rfl, hg, hC.cls, hC.no _ (by simp), ph_text, _, rfl, _, rfl, _, rfl, a, C, dx, _, _, rfl, hg, hC.cls, hC.no _ (by simp), ph_at, _, rfl, t, rfl, by rw [sizeLine_eq]; omega, ?_⟩
    rw [show i + 1 + n = i + (n + 1) by omega, cut_sub (by omega)]
    exact k
theorem inV_strs (w : Str) (l : List Str) : inV (.str w) (l.map V.str) = l.contains w := by
  unfold inV
  induction l with
  | nil => rfl
  | cons x l ih =>
    rw [List.map_cons, List.any_cons, ih, List.contains_cons]
    congr 1
    show (x == w) = (w == x)
    exact Bool.beq_comm
theorem flat_strs (l : List Str) : (l.map V.str).all flatV = true := by
  induction l with
  | nil => rfl
  | cons x l ih => rw [List.map_cons, List.all_cons, ih]; rfl
/-- a request -/
def spReq (C : Addr) : Sp := fun vs H Q _ => ∃ (a dx wl fl : Addr) (t : Str) (i n : Nat), vs = [.ref a] ∧ H a = some (.ins C dx (phF t i wl fl)) ∧ i ≤ t.length ∧ t.length ≤ 1000000 ∧ smallN t i 8 = n ∧ 0 < n ∧ unary.contains (subT t i n) = false ∧ Q (.str (subT t i n)) (upd H a (.ins C dx (phF t (i + n) wl fl)))
theorem ok_request {f C : Addr} {fd : FuncData} (F : Fun K "_take_request" "Phrase._take_request" s_Phrase__take_request f fd) (T : Cst K mg) (hC : PhC K C) (O_take_word : OkM CX0 P w K mg base 4 C "_take_word" ["self"] (spWord C)) :
    FnOk P w K mg base CX0 5 f fd ["self"] (spReq C) := by
  obtain ⟨aU, m_U, tU⟩ := T.g_UNARY_SIGNS
  refine F.ok sc_Phrase__take_request (fun vs H Q E h => ?_) (fun cdv A outer s H vs Q E hr h => ?_)
  · obtain ⟨a, dx, wl, fl, t, i, n, rfl, _⟩ := h
    rfl
  · obtain ⟨a, dx, wl, fl, t, i, n, rfl, ha, hi, hl, hn, n0, hu, k⟩ := h
    refine ⟨_, (pss_cons (ps_set (i := 1) sc_Phrase__take_request.nd rfl (Or.inl rfl) (pe_methO0 (pv 0) hC.cls O_take_word (hr.mono (by decide))))
    (pss_cons (ps_if (pt_cmpR op_in_seq (pv 1) (pe_glob (v := .ref _) rfl m_U rfl) (by rfl)) (pss_one ps_never) pss_nil)
    (pss_one (ps_ret (pv 1))))), ?_⟩
    refine ⟨_, rfl, a, dx, _, rfl, ha, ph_no (by decide +kernel), a, dx, wl, fl, t, i, n, rfl, ha, hi, hl, hn, n0, ?_⟩
    refine ⟨_, rfl, aU, _, rfl, .inr tU.sq, rfl, flat_strs _, _, rfl, ?_⟩
    rw [inV_strs, hu]
    exact iteF ⟨_, rfl, k⟩
end
end K31

namespace K31
open PySem PySem.Spec PyProof.Rows L2 EV TL LM
/-- a leaf or a request that stands at i and ends at j -/
def OperAt (t : Str) (i : Nat) (req lab nm : Str) (j : Nat) : Prop :=
  (betw 65 90 t i = true ∧ ∃ n m, smallN t (i + 1) 7 = n ∧ (tl t)[i + (n + 1)]? = some 46 ∧ smallN t (i + (n + 1) + 1) 8 = m ∧ 0 < m ∧ unary.contains (subT t (i + (n + 1) + 1) m) = false ∧
    req = subT t (i + (n + 1) + 1) m ∧ lab = "" ∧ nm = subT t i (n + 1) ∧ j = i + (n + 1) + 1 + m) ∨
  (betw 65 90 t i = false ∧ i ≤ t.length ∧ ∃ n m, smallN t i 8 = n ∧ 0 < n ∧ (tl t)[i + n]? = some 58 ∧ betw 65 90 t (i + n + 1) = true ∧ smallN t (i + n + 1 + 1) 7 = m ∧
    req = "" ∧ lab = subT t i n ∧ nm = subT t (i + n + 1) (m + 1) ∧ j = i + n + 1 + (m + 1))
theorem s_open : ("(" : Str) = ⟨#[40]⟩ := by decide +kernel
theorem s_dot : ("." : Str) = ⟨#[46]⟩ := by decide +kernel
theorem s_colon : (":" : Str) = ⟨#[58]⟩ := by decide +kernel
theorem one_ne {a b : Nat} (h : a ≠ b) : (⟨#[a]⟩ : Str) ≠ ⟨#[b]⟩ := fun e => h (by injection e with e; injection e with e; injection e)
theorem betw_at {lo hi : Nat} {t : Str} {i : Nat} (h : betw lo hi t i = true) : ∃ c, (tl t)[i]? = some c ∧ lo ≤ c ∧ c ≤ hi := by
  unfold betw at h
  cases e : (tl t)[i]? with
  | none => rw [e] at h; cases h
  | some c =>
    rw [e] at h
    have h' : (decide (lo ≤ c) && decide (c ≤ hi)) = true := h
    rw [Bool.and_eq_true, decide_eq_true_eq, decide_eq_true_eq] at h'
    exact ⟨c, rfl, h'.1, h'.2⟩
theorem small_at {t : Str} {i n : Nat} (h : 0 < smallN t i n) : ∃ c, (tl t)[i]? = some c ∧ 97 ≤ c ∧ c ≤ 122 := by
  cases e : betw 97 122 t i with
  | true => exact betw_at e
  | false => rw [small_stop (.inl e)] at h; exact absurd h (by omega)
/-- all but the phrase and its list is as it was -/
def KeepP (a fl : Addr) (H H' : Hp) : Prop := ∀ b u, b ≠ a → b ≠ fl → H b = some u → H' b = some u
section
variable {P : Program} {w : World} {K : Fg} {mg : Str → Option Value} {base : Heap}
def spStart (C : Addr) : Sp := fun vs H Q _ => ∃ (a dx wl fl : Addr) (t : Str) (i j : Nat) (fs : List V) (req lab nm : Str), vs = [.ref a] ∧ H a = some (.ins C dx (phF t i wl fl)) ∧ H fl = some (.lst fs) ∧ fs.length ≤ 1000 ∧ t.length ≤ 1000000 ∧ OperAt t i req lab nm j ∧
  ∀ p H', H p = none → KeepP a fl H H' → H' a = some (.ins C dx (phF t j wl fl)) → H' p = some (.tup [.str req, .str lab, .str nm]) → H' fl = some (.lst (fs ++ [.ref p])) → Q (.bl false) H'
theorem ok_start {f C : Addr} {fd : FuncData} (F : Fun K "_take_start" "Phrase._take_start" s_Phrase__take_start f fd) (T : Cst K mg) (hC : PhC K C) (O_letter : OkM CX0 P w K mg base 1 C "_letter" ["self"] (spLetter C))
    (O_between : OkM CX0 P w K mg base 2 C "_is_between" ["self", "low", "high"] (spBetw C)) (O_take_class : OkM CX0 P w K mg base 4 C "_take_class" ["self"] (spClass C)) (O_take_request : OkM CX0 P w K mg base 5 C "_take_request" ["self"] (spReq C))
    (O_take_word : OkM CX0 P w K mg base 4 C "_take_word" ["self"] (spWord C)) (O_take : OkM CX0 P w K mg base 2 C "_take" ["self", "letter"] (spTakeL C)) : FnOk P w K mg base CX0 6 f fd ["self"] (spStart C) := by
  obtain ⟨aU, m_U, tU⟩ := T.g_UNARY_SIGNS
  refine F.ok sc_Phrase__take_start (fun vs H Q E h => ?_) (fun cdv A outer s H vs Q E hr h => ?_)
  · obtain ⟨a, dx, wl, fl, t, i, j, fs, req, lab, nm, rfl, _⟩ := h
    rfl
  · obtain ⟨a, dx, wl, fl, t, i, j, fs, req, lab, nm, rfl, ha, hfl, lfs, hl, hO, k⟩ := h
    refine ⟨_, (pss_cons (ps_if (pt_cmpR op_eq (pe_methO0 (pv 0) hC.cls O_letter (hr.mono (by decide))) pe_str (nomark _)) (pss_cons ps_never
    (pss_one (ps_ret pe_bl))) pss_nil)
    (pss_cons (ps_if (pt_val (pe_methO (pv 0) hC.cls O_between (hr.mono (by decide)) (pa_cons pe_str (pa_cons pe_str pa_nil)))) (pss_cons (ps_set (i := 1) sc_Phrase__take_start.nd rfl (Or.inl rfl) (pe_methO0 (pv 0) hC.cls O_take_class (hr.mono (by decide))))
    (pss_cons (ps_expr (pe_methO (pv 0) hC.cls O_take (hr.mono (by decide)) (pa_cons pe_str pa_nil)))
    (pss_cons (ps_expr (pe_bm PySem.F.plainAttrs_list PySem.F.slot_list_append PySem.F.type_list_append mt_append (pe_fld (pv 0) rfl) (pa_cons (pe_tup (pa_cons (pe_methO0 (pv 0) hC.cls O_take_request (hr.mono (by decide))) (pa_cons pe_str (pa_cons (pv 1) pa_nil)))) pa_nil)))
    (pss_one (ps_ret pe_bl))))) pss_nil)
    (pss_cons (ps_set (i := 2) sc_Phrase__take_start.nd rfl (Or.inl rfl) (pe_methO0 (pv 0) hC.cls O_take_word (hr.mono (by decide))))
    (pss_cons (ps_if (PW.pt (pw_and (pt_cmpR op_eq (pe_methO0 (pv 0) hC.cls O_letter (hr.mono (by decide))) pe_str (nomark _)) (pw_and1 (pt_cmpR op_in_seq (pv 2) (pe_glob (v := .ref _) rfl m_U rfl) (by rfl))))) (pss_cons ps_never
    (pss_one (ps_ret pe_bl))) pss_nil)
    (pss_cons (ps_expr (pe_methO (pv 0) hC.cls O_take (hr.mono (by decide)) (pa_cons pe_str pa_nil)))
    (pss_cons (ps_expr (pe_bm PySem.F.plainAttrs_list PySem.F.slot_list_append PySem.F.type_list_append mt_append (pe_fld (pv 0) rfl) (pa_cons (pe_tup (pa_cons pe_str (pa_cons (pv 2) (pa_cons (pe_methO0 (pv 0) hC.cls O_take_class (hr.mono (by decide))) pa_nil)))) pa_nil)))
    (pss_one (ps_ret pe_bl)))))))), ?_⟩
    have nfa : fl ≠ a := fun e => by rw [e, ha] at hfl; cases hfl
    have hg : ∀ {o : HO}, upd H a o a = some o := upd_same
    have hgf : ∀ {o : HO}, upd H a o fl = some (.lst fs) := fun {o} => by rw [upd_ne nfa]; exact hfl
    have step : ∀ {x y : HO}, upd (upd H a x) a y = upd H a y := upd_upd
    have hi : i ≤ t.length := by
      rcases hO with ⟨h1, _⟩ | ⟨_, h2, _⟩
      · exact Nat.le_of_lt (betw_lt h1)
      · exact h2
    have nl : letAt t i ≠ "(" := by
      rw [s_open]
      rcases hO with ⟨h1, _⟩ | ⟨_, h2, n, m, e1, n0, _⟩
      · obtain ⟨c, hc, c1, c2⟩ := betw_at h1
        rw [let_at hc]
        exact one_ne (by omega)
      · obtain ⟨c, hc, c1, c2⟩ := small_at (by rw [e1]; exact n0)
        rw [let_at hc]
        exact one_ne (by omega)
    refine ⟨_, rfl, a, dx, _, rfl, ha, ph_no (by decide +kernel), a, dx, wl, fl, t, i, rfl, ha, hi, hl, rfl, _, rfl, ?_⟩
    rw [decide_eq_false (show ¬ V.str (letAt t i) = V.str "(" from fun e => nl (by injection e))]
    refine iteF ⟨_, rfl, a, dx, _, rfl, ha, ph_no (by decide +kernel), a, dx, wl, fl, t, i, 65, 90, by rw [s_A, s_Z]; rfl, ha, hi, hl, _, rfl, ?_⟩
    rcases hO with ⟨h1, n, m, e1, e2, e3, m0, hu, rfl, rfl, rfl, rfl⟩ | ⟨h1, h2, n, m, e1, n0, e2, e3, e4, rfl, rfl, rfl, rfl⟩
    · rw [h1]
      refine iteT ⟨_, rfl, a, dx, _, rfl, ha, ph_no (by decide +kernel), a, dx, wl, fl, t, i, n, rfl, ha, hl, h1, e1, ?_⟩
      refine ⟨_, rfl, a, dx, _, rfl, hg, ph_no (by decide +kernel), a, dx, wl, fl, t, i + (n + 1), 46, by rw [s_dot]; rfl, hg, e2, hl, ?_⟩
      rw [step]
      refine ⟨_, rfl, a, C, dx, _, _, rfl, hg, hC.cls, hC.no _ (by simp), ph_found, .inl ⟨rfl, _, SqL.of hgf⟩, _, rfl, a, dx, _, rfl, hg, ph_no (by decide +kernel), a, dx, wl, fl, t, i + (n + 1) + 1, m, rfl, hg, at_lt e2, hl, e3, m0, hu, ?_⟩
      rw [step]
      refine ⟨_, rfl, by show 3 ≤ sizeLine; decide, fun p np => ?_⟩
      have pa : p ≠ a := fun e => by rw [e, hg] at np; cases np
      have pf : p ≠ fl := fun e => by rw [e, hgf] at np; cases np
      have npH : H p = none := by rw [← np, upd_ne pa]
      refine ⟨fl, _, _, rfl, rfl, by rw [upd_ne (Ne.symm pf)]; exact hgf, by rw [sizeLine_eq]; omega, ?_⟩
      refine k p _ npH (fun b u n1 n2 z => ?_) (by rw [upd_ne (Ne.symm nfa), upd_ne (Ne.symm pa)]; exact hg) (by rw [upd_ne pf]; exact upd_same) upd_same
      rw [upd_ne n2, upd_ne (ne_of_none z npH), upd_ne n1]
      exact z
    · rw [h1]
      refine iteF ⟨_, rfl, a, dx, _, rfl, ha, ph_no (by decide +kernel), a, dx, wl, fl, t, i, n, rfl, ha, hi, hl, e1, n0, ?_⟩
      refine ⟨_, rfl, a, dx, _, rfl, hg, ph_no (by decide +kernel), a, dx, wl, fl, t, i + n, rfl, hg, Nat.le_of_lt (at_lt e2), hl, rfl, _, rfl, ?_⟩
      rw [let_at e2, decide_eq_false (show ¬ V.str (⟨#[58]⟩ : Str) = V.str "(" from fun e => by injection e with e; rw [s_open] at e; exact one_ne (by decide) e)]
      refine iteF (iteF ?_)
      refine ⟨_, rfl, a, dx, _, rfl, hg, ph_no (by decide +kernel), a, dx, wl, fl, t, i + n, 58, by rw [s_colon]; rfl, hg, e2, hl, ?_⟩
      rw [step]
      refine ⟨_, rfl, a, C, dx, _, _, rfl, hg, hC.cls, hC.no _ (by simp), ph_found, .inl ⟨rfl, _, SqL.of hgf⟩, _, rfl, _, rfl, a, dx, _, rfl, hg, ph_no (by decide +kernel), a, dx, wl, fl, t, i + n + 1, m, rfl, hg, hl, e3, e4, ?_⟩
      rw [step]
      refine ⟨by show 3 ≤ sizeLine; decide, fun p np => ?_⟩
      have pa : p ≠ a := fun e => by rw [e, hg] at np; cases np
      have pf : p ≠ fl := fun e => by rw [e, hgf] at np; cases np
      have npH : H p = none := by rw [← np, upd_ne pa]
      refine ⟨fl, _, _, rfl, rfl, by rw [upd_ne (Ne.symm pf)]; exact hgf, by rw [sizeLine_eq]; omega, ?_⟩
      refine k p _ npH (fun b u n1 n2 z => ?_) (by rw [upd_ne (Ne.symm nfa), upd_ne (Ne.symm pa)]; exact hg) (by rw [upd_ne pf]; exact upd_same) upd_same
      rw [upd_ne n2, upd_ne (ne_of_none z npH), upd_ne n1]
      exact z
end
end K31

namespace K31
open PySem PySem.Spec PyProof.Rows L2 EV TL LM
section
variable {P : Program} {w : World} {K : Fg} {mg : Str → Option Value} {base : Heap}
/-- a text that is one leaf or one request -/
def spAll (K : Fg) (C : Addr) : Sp := fun vs H Q _ => ∃ (a dx wl fl : Addr) (t req lab nm : Str), vs = [.ref a] ∧ H a = some (.ins C dx (phF t 0 wl fl)) ∧ H wl = some (.lst []) ∧ H fl = some (.lst []) ∧ wl ≠ fl ∧ t.length ≤ 1000000 ∧ OperAt t 0 req lab nm t.length ∧
  ∀ l p H', H l = none → H p = none → KeepP a fl H H' → H' p = some (.tup [.str req, .str lab, .str nm]) → H' l = some (.lst [.ref p]) → Q (.ref l) H'
theorem ok_all {f C : Addr} {fd : FuncData} (F : Fun K "take_all" "Phrase.take_all" s_Phrase_take_all f fd) (T : Cst K mg) (hC : PhC K C) (O_take_start : OkM CX0 P w K mg base 6 C "_take_start" ["self"] (spStart C)) :
    FnOk P w K mg base CX0 7 f fd ["self"] (spAll K C) := by
  refine F.ok sc_Phrase_take_all (fun vs H Q E h => ?_) (fun cdv A outer s H vs Q E hr h => ?_)
  · obtain ⟨a, dx, wl, fl, t, req, lab, nm, rfl, _⟩ := h
    rfl
  · obtain ⟨a, dx, wl, fl, t, req, lab, nm, rfl, ha, hw, hf, wf, hl, hO, k⟩ := h
    refine ⟨_, (pss_cons (ps_set (i := 1) sc_Phrase_take_all.nd rfl (Or.inl rfl) pe_bl)
    (pss_cons (ps_while PassesOwn.never (PW.pt (pw_or (pt_truth (pv 1) (by intro _; rfl)) (pw_or1 (pt_truth (pe_fld (pv 0) rfl) (by intro _; rfl))))) (pss_one (ps_if (pt_truth (pv 1) (by intro _; rfl)) (pss_one (ps_set (i := 1) sc_Phrase_take_all.nd rfl (Or.inl rfl) (pe_methO0 (pv 0) hC.cls O_take_start (hr.mono (by decide))))) (pss_one ps_never))))
    (pss_cons (ps_if (pt_cmpR op_lt (pe_fld (pv 0) rfl) (pe_callB call_len_str (by rfl) T.n_len (by decide +kernel) (pa_cons (pe_fld (pv 0) rfl) pa_nil)) (nomark _)) (pss_one ps_never) pss_nil)
    (pss_one (ps_ret (pe_callTy call_list_of (by rfl) T.n_list (by decide +kernel) (pa_cons (pe_fld (pv 0) rfl) pa_nil))))))), ?_⟩
    refine ⟨fun m σ G => (m = 1 ∧ G = H ∧ σ = [some (.ref a), some (.bl true)]) ∨ (m = 0 ∧ σ = [some (.ref a), some (.bl false)] ∧ ∃ p, H p = none ∧ KeepP a fl H G ∧ G a = some (.ins C dx (phF t t.length wl fl)) ∧ G p = some (.tup [.str req, .str lab, .str nm]) ∧ G fl = some (.lst [.ref p])), ⟨1, .inl ⟨rfl, rfl, rfl⟩⟩, ?_⟩
    rintro m σ G (⟨rfl, rfl, rfl⟩ | ⟨rfl, rfl, p, np, kp, ga, gp, gf⟩)
    · refine ⟨_, rfl, true, rfl, iteT (iteT ⟨fun σ' G' => σ' = [some (.ref a), some (.bl false)] ∧ ∃ p, G p = none ∧ KeepP a fl G G' ∧ G' a = some (.ins C dx (phF t t.length wl fl)) ∧ G' p = some (.tup [.str req, .str lab, .str nm]) ∧ G' fl = some (.lst [.ref p]),
        fun σ' G' q => ⟨0, by decide, .inr ⟨rfl, q.1, q.2⟩⟩, ?_⟩)⟩
      exact ⟨_, rfl, true, rfl, iteT ⟨_, rfl, a, dx, _, rfl, ha, ph_no (by decide +kernel), a, dx, wl, fl, t, 0, t.length, [], req, lab, nm, rfl, ha, hf, by decide, hl, hO, fun p H' np kp ga gp gf => ⟨rfl, p, np, kp, ga, gp, gf⟩⟩⟩
    · have nwa : wl ≠ a := fun e => by rw [e, ha] at hw; cases hw
      have hw' : G wl = some (.lst []) := kp _ _ nwa wf hw
      refine ⟨_, rfl, false, rfl, iteF ⟨_, rfl, a, C, dx, _, _, rfl, ga, hC.cls, hC.no _ (by simp), ph_wait, false, .inl ⟨[], SqL.of hw', rfl⟩, iteF ?_⟩⟩
      refine ⟨_, rfl, a, C, dx, _, _, rfl, ga, hC.cls, hC.no _ (by simp), ph_at, _, rfl, a, C, dx, _, _, rfl, ga, hC.cls, hC.no _ (by simp), ph_text, t, rfl, by rw [sizeLine_eq]; omega, _, _, rfl, rfl, _, rfl, ?_⟩
      rw [decide_eq_false (show ¬ ((t.length : Nat) : Int) < (t.length : Int) by omega)]
      refine iteF ⟨_, rfl, a, C, dx, _, _, rfl, ga, hC.cls, hC.no _ (by simp), ph_found, fl, _, rfl, .inl (SqL.of gf), fun l nl => ?_⟩
      have nlH : H l = none := by
        cases e : H l with
        | none => rfl
        | some u =>
          by_cases e1 : l = a
          · rw [e1, ga] at nl; cases nl
          · by_cases e2 : l = fl
            · rw [e2, gf] at nl; cases nl
            · rw [kp _ _ e1 e2 e] at nl; cases nl
      refine k l p _ nlH np (fun b u n1 n2 z => ?_) ?_ upd_same
      · rw [upd_ne (ne_of_none z nlH)]
        exact kp b u n1 n2 z
      · rw [upd_ne (ne_of_none gp nl)]
        exact gp
def spPhrase (C : Addr) : Sp := fun vs H Q _ => ∃ (a dx : Addr) (t : Str), vs = [.ref a, .str t] ∧ H a = some (.ins C dx []) ∧
  ∀ wl fl H', H wl = none → H fl = none → wl ≠ fl → H' a = some (.ins C dx (phF t 0 wl fl)) → H' wl = some (.lst []) → H' fl = some (.lst []) → (∀ b u, b ≠ a → H b = some u → H' b = some u) → Q .non H'
theorem ok_Phrase {f C : Addr} {fd : FuncData} (F : Fun K "__init__" "Phrase.__init__" s_Phrase___init__ f fd) (T : Cst K mg) (hC : PhC K C) : FnOk P w K mg base CX0 1 f fd ["self", "text"] (spPhrase C) := by
  refine F.ok sc_Phrase___init__ (fun vs H Q E h => ?_) (fun cdv A outer s H vs Q E hr h => ?_)
  · obtain ⟨a, dx, t, rfl, _⟩ := h
    rfl
  · obtain ⟨a, dx, t, rfl, ha, k⟩ := h
    refine ⟨_, (pss_cons (ps_fld (pv 0) (pv 1) rfl)
    (pss_cons (ps_fld (pv 0) pe_int rfl)
    (pss_cons (ps_fld (pv 0) (pe_lst pa_nil) rfl)
    (pss_one (ps_fld (pv 0) (pe_lst pa_nil) rfl))))), ?_⟩
    refine ⟨_, rfl, _, rfl, a, C, dx, _, rfl, ha, hC.cls, hC.no _ (by simp), by decide, ?_⟩
    have g1 : ∀ {o : HO}, upd H a o a = some o := upd_same
    refine ⟨_, rfl, a, C, dx, _, rfl, g1, hC.cls, hC.no _ (by simp), by show 1 < 1000; decide, ?_⟩
    rw [upd_upd]
    refine ⟨by show 0 ≤ sizeLine; decide, fun wl nw => ?_⟩
    have wa : wl ≠ a := fun e => by rw [e, g1] at nw; cases nw
    have nwH : H wl = none := by rw [← nw, upd_ne wa]
    refine ⟨_, rfl, a, C, dx, _, rfl, by rw [upd_ne (Ne.symm wa)]; exact g1, hC.cls, hC.no _ (by simp), by show 2 < 1000; decide, ?_⟩
    refine ⟨by show 0 ≤ sizeLine; decide, fun fl nf => ?_⟩
    have fa : fl ≠ a := fun e => by rw [e, upd_same] at nf; cases nf
    have fw : fl ≠ wl := fun e => by rw [e, upd_ne wa, upd_same] at nf; cases nf
    have nfH : H fl = none := by rw [← nf, upd_ne fa, upd_ne fw, upd_ne fa]
    refine ⟨_, rfl, a, C, dx, _, rfl, by rw [upd_ne (Ne.symm fa)]; exact upd_same, hC.cls, hC.no _ (by simp), by show 3 < 1000; decide, ?_⟩
    refine k wl fl _ nwH nfH (Ne.symm fw) ?_ ?_ ?_ (fun b u n z => ?_)
    · rw [upd_same]
      rfl
    · rw [upd_ne wa, upd_ne (Ne.symm fw), upd_ne wa, upd_same]
    · rw [upd_ne fa, upd_same]
    · rw [upd_ne n, upd_ne (ne_of_none z nfH), upd_ne n, upd_ne (ne_of_none z nwH), upd_ne n]
      exact z
end
end K31

namespace K31
open PySem PySem.Spec PyProof.Rows L2 EV TL LM
/-! ### Expression: one leaf or one request -/
def exF (pp ps : Addr) : List (Str × V) := [("_parts", .ref pp), ("_signs", .ref ps)]
theorem ex_parts {pp ps : Addr} : (exF pp ps).lookup ("_parts" : Str) = some (V.ref pp) := rfl
theorem ex_signs {pp ps : Addr} : (exF pp ps).lookup ("_signs" : Str) = some (V.ref ps) := rfl
theorem ex_no {pp ps : Addr} {m : Str} (h : m ∉ (["_parts", "_signs"] : List Str)) : (exF pp ps).lookup m = none := by
  simp only [List.mem_cons, List.not_mem_nil, or_false, not_or] at h
  obtain ⟨h1, h2⟩ := h
  unfold exF
  simp only [List.lookup, beq_eq_false_iff_ne.mpr h1, beq_eq_false_iff_ne.mpr h2]
structure ExC (K : Fg) (C : Addr) : Prop where
  cls : Cls K C
  no : ∀ f ∈ (["_parts", "_signs"] : List Str), NoAttr K C f
def partAt (H : Hp) (p : Addr) (req lab nm : Str) : Prop := H p = some (.tup [.str req, .str lab, .str nm])
def signsOf (req : Str) : List Str := if req = "" then [] else [req]
structure ExR (K : Fg) (H : Hp) (pp ps : Addr) (req lab nm : Str) : Prop where
  parts : ∃ p, SqT K H pp [.ref p] ∧ partAt H p req lab nm
  signs : SqT K H ps ((signsOf req).map V.str)
def ExAt (K : Fg) (H : Hp) (C a : Addr) (req lab nm : Str) : Prop := ∃ dx pp ps, H a = some (.ins C dx (exF pp ps)) ∧ ExR K H pp ps req lab nm
section
variable {P : Program} {w : World} {K : Fg} {mg : Str → Option Value} {base : Heap}
/-- Expression(parts), one part in a list -/
def spEx (K : Fg) (C : Addr) : Sp := fun vs H Q _ => ∃ (a dx l p : Addr) (req lab nm : Str), vs = [.ref a, .ref l] ∧ H a = some (.ins C dx []) ∧ H l = some (.lst [.ref p]) ∧ partAt H p req lab nm ∧
  ∀ H', (∀ b u, b ≠ a → H b = some u → H' b = some u) → ExAt K H' C a req lab nm → Q .non H'
theorem ok_Expression {f C : Addr} {fd : FuncData} (F : Fun K "__init__" "Expression.__init__" s_Expression___init__ f fd) (T : Cst K mg) (hC : ExC K C) : FnOk P w K mg base CX0 1 f fd ["self", "parts"] (spEx K C) := by
  refine F.ok sc_Expression___init__ (fun vs H Q E h => ?_) (fun cdv A outer s H vs Q E hr h => ?_)
  · obtain ⟨a, dx, l, p, req, lab, nm, rfl, _⟩ := h
    rfl
  · obtain ⟨a, dx, l, p, req, lab, nm, rfl, ha, hl, hp, k⟩ := h
    refine ⟨_, (pss_cons (ps_fld (pv 0) (pe_callTy call_tuple_of (by rfl) T.n_tuple (by decide +kernel) (pa_cons (pv 1) pa_nil)) rfl)
    (pss_one (ps_fld (pv 0) (pe_callTy call_tuple_of (by rfl) T.n_tuple (by decide +kernel) (pa_cons (pe_lc (own := [("sign", 2), ("_", 3)]) rfl sc_Expression___init__.nd (pi_list (pv 1)) (blkOk_by (own := [("sign", 2), ("_", 3)]) (N := ["self", "parts", "sign", "_"]) (sc := defScope s_Expression___init__) (by decide +kernel)) (fun _ _ _ _ _ => (pg_three (K := K) 2 3 3 rfl sc_Expression___init__.nd rfl rfl rfl rfl rfl rfl)) (fun _ _ _ _ _ => (pts_one (pt_cmpR op_ne (pv 2) pe_str (nomark _)))) (fun _ _ _ _ _ => (pv 2))) pa_nil)) rfl))), ?_⟩
    have la : l ≠ a := fun e => by rw [e, ha] at hl; cases hl
    have pa : p ≠ a := fun e => by rw [e] at hp; rw [show H a = _ from hp] at ha; cases ha
    refine ⟨_, rfl, l, _, rfl, .inl ⟨SqL.of hl, fun pp npp => ?_⟩⟩
    have ppa : pp ≠ a := fun e => by rw [e, ha] at npp; cases npp
    have s1 : Same H (upd H pp (.tup [.ref p])) := same_upd npp
    have hpp : upd H pp (.tup [.ref p]) pp = some (.tup [.ref p]) := upd_same
    refine ⟨_, rfl, a, C, dx, _, rfl, s1 _ _ ha, hC.cls, hC.no _ (by simp), by decide, ?_⟩
    have keep1 : ∀ b u, b ≠ a → H b = some u → upd (upd H pp (.tup [.ref p])) a (.ins C dx (putF "_parts" (.ref pp) [])) b = some u := fun b u n z => by
      rw [upd_ne n]
      exact s1 _ _ z
    have ga : upd (upd H pp (.tup [.ref p])) a (.ins C dx (putF "_parts" (.ref pp) [])) a = some (.ins C dx [("_parts", .ref pp)]) := upd_same
    have gpp : upd (upd H pp (.tup [.ref p])) a (.ins C dx (putF "_parts" (.ref pp) [])) pp = some (.tup [.ref p]) := by rw [upd_ne ppa]; exact hpp
    generalize upd (upd H pp (.tup [.ref p])) a (.ins C dx (putF "_parts" (.ref pp) [])) = G1 at keep1 ga gpp
    refine ⟨_, rfl, l, rfl, ⟨_, SqL.of (keep1 _ _ la hl)⟩, fun D nD => ?_⟩
    refine lc_fm (walk_list (xs := [.ref p])) (fun i => if i = 0 ∧ req ≠ "" then some (V.str req) else none) nD (by show 1 ≤ 1000000; decide) (fun _ s => SqL.of (s _ _ (keep1 _ _ la hl))) ?_ ?_
    · rintro i x G0 G NT NE hi sg ⟨rfl, hx⟩ w0 w1
      obtain ⟨rfl, rfl⟩ : i = 0 ∧ x = .ref p := by
        cases i with
        | zero => exact ⟨rfl, (Option.some.inj hx).symm⟩
        | succ i => simp at hx
      have hp2 : G p = some (.tup [.str req, .str lab, .str nm]) := sg _ _ (keep1 _ _ pa hp)
      by_cases hr0 : req = ""
      · refine ⟨p, _, rfl, SqT.of hp2, rfl, _, _, rfl, _, _, rfl, _, _, rfl, rfl, rfl, _, rfl, rfl, _, rfl, ?_⟩
        rw [hr0, decide_eq_true rfl]
        exact iteF (w0 (if_neg fun q => q.2 hr0) _ (Same.refl _))
      · refine ⟨p, _, rfl, SqT.of hp2, rfl, _, _, rfl, _, _, rfl, _, _, rfl, rfl, rfl, _, rfl, rfl, _, rfl, ?_⟩
        rw [decide_eq_false (show ¬ V.str req = V.str "" from fun q => hr0 (by injection q))]
        exact iteT ⟨_, rfl, w1 _ _ (if_pos ⟨rfl, hr0⟩) (Same.refl _)⟩
    · intro G2 s2 hD
      have hD2 : G2 D = some (.lst ((signsOf req).map V.str)) := by
        rw [hD]
        unfold signsOf
        by_cases hr0 : req = ""
        · rw [if_pos hr0]
          show some (HO.lst ([] ++ (if 0 = 0 ∧ req ≠ "" then some (V.str req) else none).toList)) = _
          rw [if_neg fun q => q.2 hr0]
          rfl
        · rw [if_neg hr0]
          show some (HO.lst ([] ++ (if 0 = 0 ∧ req ≠ "" then some (V.str req) else none).toList)) = _
          rw [if_pos ⟨rfl, hr0⟩]
          rfl
      refine ⟨D, _, rfl, .inl ⟨SqL.of hD2, fun ps nps => ?_⟩⟩
      have s3 : Same G1 (upd G2 ps (.tup ((signsOf req).map V.str))) := s2.trans (same_upd nps)
      refine ⟨_, rfl, a, C, dx, _, rfl, s3 _ _ ga, hC.cls, hC.no _ (by simp), by show 1 < 1000; decide, ?_⟩
      have psa : ps ≠ a := fun e => by rw [e, s2 _ _ ga] at nps; cases nps
      refine k _ (fun b u n z => ?_) ⟨dx, pp, ps, ?_, ⟨p, SqT.of ?_, ?_⟩, SqT.of ?_⟩
      · rw [upd_ne n]
        exact s3 _ _ (keep1 _ _ n z)
      · rw [upd_same]
        rfl
      · rw [upd_ne ppa]
        exact s3 _ _ gpp
      · show upd _ a _ p = _
        rw [upd_ne pa]
        exact s3 _ _ (keep1 _ _ pa hp)
      · rw [upd_ne psa, upd_same]
end
end K31

namespace K31
open PySem PySem.Spec PyProof.Rows L2 EV TL LM
/-- how one leaf or one request is written -/
def writ (req lab nm : Str) : Str := if lab = "" then nm ++ ("." : Str) ++ req else lab ++ (":" : Str) ++ nm
theorem SqT.same {K : Fg} {H H' : Hp} {a : Addr} {xs : List V} (e : Same H H') (h : SqT K H a xs) : SqT K H' a xs := by
  rcases h with (h | ⟨o, h⟩) | h
  · exact .inl (.inl (e _ _ h))
  · exact .inl (.inr ⟨o, e _ _ h⟩)
  · exact .inr h
theorem ExAt.same {K : Fg} {H H' : Hp} {C a : Addr} {req lab nm : Str} (s : Same H H') : ExAt K H C a req lab nm → ExAt K H' C a req lab nm := fun ⟨dx, pp, ps, ha, R⟩ =>
  let ⟨p, p1, p2⟩ := R.parts
  ⟨dx, pp, ps, s _ _ ha, ⟨p, SqT.same s p1, s _ _ p2⟩, SqT.same s R.signs⟩
def StrsAt (H : Hp) (a : Addr) (ws : List Str) : Prop := H a = some (.lst (ws.map V.str))
def partD (req lab nm : Str) : PyData := .tuple [.tuple [.str req, .str lab, .str nm]]
theorem dp_ex {K : Fg} {H : Hp} {pp ps : Addr} {req lab nm : Str} (R : ExR K H pp ps req lab nm) : Dp K H (.ref pp) (partD req lab nm) :=
  let ⟨_, p1, p2⟩ := R.parts
  .tup p1 (.cons (.tup (SqT.of p2) (.cons (.str _) (.cons (.str _) (.cons (.str _) .nil)))) .nil)
theorem part_shaped {req lab nm : Str} (h1 : PyData.strOk req = true) (h2 : PyData.strOk lab = true) (h3 : PyData.strOk nm = true) : SeqAt.shaped (partD req lab nm) = true := by
  unfold SeqAt.shaped
  rw [show PyData.canLay0 (partD req lab nm) = true by
    show ((PyData.strOk req && (PyData.strOk lab && (PyData.strOk nm && true))) && true) = true
    rw [h1, h2, h3]
    rfl, Bool.true_and]
  refine decide_eq_true ?_
  simp only [partD, PyData.depth, PyData.depthAll]
  omega
section
variable {P : Program} {w : World} {K : Fg} {mg : Str → Option Value} {base : Heap}
def spSigns (K : Fg) (C : Addr) : Sp := fun vs H Q _ => ∃ (a : Addr) (req lab nm : Str), vs = [.ref a] ∧ ExAt K H C a req lab nm ∧ ∀ l H', Same H H' → H l = none → StrsAt H' l (signsOf req) → Q (.ref l) H'
theorem ok_signs {f C : Addr} {fd : FuncData} (F : Fun K "signs" "Expression.signs" s_Expression_signs f fd) (T : Cst K mg) (hC : ExC K C) : FnOk P w K mg base CX0 1 f fd ["self"] (spSigns K C) := by
  refine F.ok sc_Expression_signs (fun vs H Q E h => ?_) (fun cdv A outer s H vs Q E hr h => ?_)
  · obtain ⟨a, req, lab, nm, rfl, _⟩ := h
    rfl
  · obtain ⟨a, req, lab, nm, rfl, ⟨dx, pp, ps, ha, R⟩, k⟩ := h
    refine ⟨_, (pss_one (ps_ret (pe_callTy call_list_of (by rfl) T.n_list (by decide +kernel) (pa_cons (pe_fld (pv 0) rfl) pa_nil)))), ?_⟩
    exact ⟨_, rfl, a, C, dx, _, _, rfl, ha, hC.cls, hC.no _ (by simp), ex_signs, ps, _, rfl, .inr R.signs, fun l nl => k l _ (same_upd nl) nl upd_same⟩
def spLen (K : Fg) (C : Addr) : Sp := fun vs H Q _ => ∃ (a : Addr) (req lab nm : Str), vs = [.ref a] ∧ ExAt K H C a req lab nm ∧ Q (.int ((signsOf req).length : Nat)) H
theorem ok_len {f C : Addr} {fd : FuncData} (F : Fun K "__len__" "Expression.__len__" s_Expression___len__ f fd) (T : Cst K mg) (hC : ExC K C) : FnOk P w K mg base CX0 1 f fd ["self"] (spLen K C) := by
  refine F.ok sc_Expression___len__ (fun vs H Q E h => ?_) (fun cdv A outer s H vs Q E hr h => ?_)
  · obtain ⟨a, req, lab, nm, rfl, _⟩ := h
    rfl
  · obtain ⟨a, req, lab, nm, rfl, ⟨dx, pp, ps, ha, R⟩, k⟩ := h
    refine ⟨_, (pss_one (ps_ret (pe_callB call_len_seq (by rfl) T.n_len (by decide +kernel) (pa_cons (pe_fld (pv 0) rfl) pa_nil)))), ?_⟩
    refine ⟨_, rfl, a, C, dx, _, _, rfl, ha, hC.cls, hC.no _ (by simp), ex_signs, ps, _, rfl, .inr R.signs, ?_⟩
    rw [List.length_map]
    exact k
end
end K31

namespace K31
open PySem PySem.Spec PyProof.Rows L2 EV TL LM
theorem app_empty (x : Str) : Str.empty ++ x = x := ext_tl (by rw [tl_append]; rfl)
theorem len_app (x y : Str) : (x ++ y).length = x.length + y.length := by rw [len_tl, len_tl, len_tl, tl_append, List.length_append]
theorem l_e : Str.empty.length = 0 := rfl
theorem l_dot : ("." : Str).length = 1 := by decide +kernel
theorem l_colon : (":" : Str).length = 1 := by decide +kernel
theorem kit_self {K : Fg} {C : Addr} : PySem.W.kitOne K (.ref C) (.ref C) = some true := by
  unfold PySem.W.kitOne
  rw [if_pos (beq_self_eq_true _)]
/-- what isinstance asks of the class -/
structure IsiL (K : Fg) (C : Addr) : Prop where
  ca : PySem.W.findIn K (.ref C) "__class__" = some (some (.builtin "object.__class__"))
  cn : PySem.W.specialIn K (.builtin "object.__class__") "__get__" = some (some (.builtin "getset_descriptor.__get__"))
  ct : PySem.W.takesIn K (.builtin "object.__class__") = some true
  cm : PySem.W.mroIn K C (.type "object") = some true
theorem IsiL.tyx {K : Fg} {C a dx : Addr} {H : Hp} {fs : List (Str × V)} (i : IsiL K C) (c : Cls K C) (e : H a = some (.ins C dx fs)) : TyX K H (.ref a) (.ref C) := .base (.ins e c i.ca i.cn i.ct i.cm)
section
variable {P : Program} {w : World} {K : Fg} {mg : Str → Option Value} {base : Heap}
def PartOk (req lab nm : Str) : Prop := PyData.strOk req = true ∧ PyData.strOk lab = true ∧ PyData.strOk nm = true
def spEq (K : Fg) (C : Addr) : Sp := fun vs H Q _ => ∃ (a b : Addr) (r1 l1 n1 r2 l2 n2 : Str), vs = [.ref a, .ref b] ∧ ExAt K H C a r1 l1 n1 ∧ ExAt K H C b r2 l2 n2 ∧ PartOk r1 l1 n1 ∧ PartOk r2 l2 n2 ∧ Q (.bl (PyData.eqv (partD r1 l1 n1) (partD r2 l2 n2))) H
theorem ok_eq {f C : Addr} {fd : FuncData} (F : Fun K "__eq__" "Expression.__eq__" s_Expression___eq__ f fd) (T : Cst K mg) (hC : ExC K C) (iL : IsiL K C) (gL : mg "Expression" = some (.ref C)) : FnOk P w K mg base CX0 1 f fd ["self", "other"] (spEq K C) := by
  refine F.ok sc_Expression___eq__ (fun vs H Q E h => ?_) (fun cdv A outer s H vs Q E hr h => ?_)
  · obtain ⟨a, b, r1, l1, n1, r2, l2, n2, rfl, _⟩ := h
    rfl
  · obtain ⟨a, b, r1, l1, n1, r2, l2, n2, rfl, ⟨dx, pp, ps, ha, R⟩, ⟨dx', pp', ps', hb, R'⟩, ⟨o1, o2, o3⟩, ⟨o4, o5, o6⟩, k⟩ := h
    refine ⟨_, (pss_one (ps_ret (pe_and (pe_callB call_isi (by rfl) T.n_isinstance (by decide +kernel) (pa_cons (pv 1) (pa_cons (pe_glob (v := .ref C) rfl gL rfl) pa_nil))) (pe_one (pe_cmpR (op_eqD hr.units) (pe_fld (pv 0) rfl) (pe_fld (pv 1) rfl) (nomark _)))))), ?_⟩
    refine ⟨_, rfl, _, _, _, _, true, rfl, .own C, iL.tyx hC.cls hb, kit_self, _, rfl, iteT ⟨_, rfl, a, C, dx, _, _, rfl, ha, hC.cls, hC.no _ (by simp), ex_parts, _, rfl, b, C, dx', _, _, rfl, hb, hC.cls, hC.no _ (by simp), ex_parts, _, _, dp_ex R, dp_ex R', part_shaped o1 o2 o3, part_shaped o4 o5 o6, k⟩⟩
/-- the text of one part in a tuple -/
def spWritten (K : Fg) : Sp := fun vs H Q _ => ∃ (pp p : Addr) (req lab nm : Str), vs = [.ref pp] ∧ SqT K H pp [.ref p] ∧ partAt H p req lab nm ∧ req.length ≤ 1000 ∧ lab.length ≤ 1000 ∧ nm.length ≤ 1000 ∧ nm ≠ "" ∧ ∀ H', Same H H' → Q (.str (writ req lab nm)) H'
theorem ok_written {f : Addr} {fd : FuncData} (F : Fun K "_written" "_written" s_written f fd) (T : Cst K mg) : FnOk P w K mg base CX0 1 f fd ["parts"] (spWritten K) := by
  refine F.ok sc_written (fun vs H Q E h => ?_) (fun cdv A outer s H vs Q E hr h => ?_)
  · obtain ⟨pp, p, req, lab, nm, rfl, _⟩ := h
    rfl
  · obtain ⟨pp, p, req, lab, nm, rfl, hpp, hp, lr, ll, ln, nn, k⟩ := h
    refine ⟨_, (pss_cons (ps_set (i := 1) sc_written.nd rfl (Or.inl rfl) (pe_lst pa_nil))
    (pss_cons (ps_for PassesOwn.never rfl (pi_tup (pv 0)) (pg_tup rfl (pgs_cons (pg_name (i := 2) sc_written.nd rfl (Or.inl rfl)) (pgs_cons (pg_name (i := 3) sc_written.nd rfl (Or.inl rfl)) (pgs_cons (pg_name (i := 4) sc_written.nd rfl (Or.inl rfl)) pgs_nil)))) (pss_one (ps_if (pt_cmpR op_ne (pv 3) pe_str (nomark _)) (pss_one (ps_expr (pe_bm PySem.F.plainAttrs_list PySem.F.slot_list_append PySem.F.type_list_append mt_append (pv 1) (pa_cons (pe_joinedT (.cons (pe_fmt (pv 3)) (.cons pe_str (.cons (pe_fmt (pv 4)) .nil)))) pa_nil)))) (pss_one (ps_if (pt_cmpR op_ne (pv 4) pe_str (nomark _)) (pss_one (ps_expr (pe_bm PySem.F.plainAttrs_list PySem.F.slot_list_append PySem.F.type_list_append mt_append (pv 1) (pa_cons (pe_joinedT (.cons (pe_fmt (pv 4)) (.cons pe_str (.cons (pe_fmt (pv 2)) .nil)))) pa_nil)))) (pss_one ps_never))))))
    (pss_one (ps_ret (pe_ix ix_list (pv 1) pe_int (fun _ _ => rfl)))))), ?_⟩
    refine ⟨by show 0 ≤ sizeLine; decide, fun l nl => ?_⟩
    have s1 : Same H (upd H l (.lst [])) := same_upd nl
    have hl : upd H l (.lst []) l = some (.lst []) := upd_same
    generalize upd H l (.lst []) = G1 at s1 hl
    refine ⟨_, rfl, pp, rfl, ⟨_, SqT.same s1 hpp⟩, ?_⟩
    refine for_it (walk_tup (xs := [.ref p])) (fun i σ G => ∃ (u2 u3 u4 u5 u6 u7 : Option V), σ = [some (.ref pp), some (.ref l), u2, u3, u4, u5, u6, u7] ∧ Same H G ∧ G l = some (.lst (if i = 0 then [] else [V.str (writ req lab nm)])))
      ⟨none, none, none, none, none, none, rfl, s1, hl⟩ (fun i σ G _ h => by
        obtain ⟨_, _, _, _, _, _, _, s, _⟩ := h
        exact SqT.same s hpp) ?_ ?_
    · rintro i x σ G1' G2 hi ⟨u2, u3, u4, u5, u6, u7, rfl, s2, hl2⟩ ⟨rfl, hx⟩
      obtain ⟨rfl, rfl⟩ : i = 0 ∧ x = .ref p := by
        cases i with
        | zero => exact ⟨rfl, (Option.some.inj hx).symm⟩
        | succ i => simp at hx
      have hp2 : G2 p = some (.tup [.str req, .str lab, .str nm]) := s2 _ _ hp
      have hl3 : G2 l = some (.lst []) := hl2
      have lH : H l = none := nl
      have step : ∀ z : Str, z = writ req lab nm → Same H (upd G2 l (.lst ([] ++ [V.str z]))) ∧ upd G2 l (.lst ([] ++ [V.str z])) l = some (.lst [V.str (writ req lab nm)]) := fun z e => by
        subst e
        exact ⟨same_upd' s2 lH, upd_same⟩
      refine ⟨p, _, rfl, SqT.of hp2, rfl, _, _, rfl, _, _, rfl, _, _, rfl, rfl, _, rfl, rfl, _, rfl, ?_⟩
      by_cases h0 : lab = ""
      · rw [decide_eq_true (congrArg V.str h0)]
        refine iteF ⟨_, rfl, rfl, _, rfl, ?_⟩
        rw [decide_eq_false (show ¬ V.str nm = V.str "" from fun q => nn (by injection q))]
        refine iteT ⟨_, rfl, .inl ⟨rfl, _, SqL.of hl3⟩, _, rfl, .inl ⟨nm, rfl, by rw [sizeLine_eq]; (try simp only [len_app, l_e, l_dot, l_colon]); omega, _, rfl, by rw [sizeLine_eq]; (try simp only [len_app, l_e, l_dot, l_colon]); omega, _, rfl, by rw [sizeLine_eq]; (try simp only [len_app, l_e, l_dot, l_colon]); omega, _, rfl, .inl ⟨req, rfl, by rw [sizeLine_eq]; (try simp only [len_app, l_e, l_dot, l_colon]); omega, _, rfl, by rw [sizeLine_eq]; (try simp only [len_app, l_e, l_dot, l_colon]); omega, l, _, _, rfl, rfl, hl3, by show 0 < sizeLine; decide, _, _, _, _, _, _, rfl, ?_⟩⟩⟩
        refine step _ ?_
        unfold writ
        rw [if_pos h0, app_empty]
      · rw [decide_eq_false (show ¬ V.str lab = V.str "" from fun q => h0 (by injection q))]
        refine iteT ⟨_, rfl, .inl ⟨rfl, _, SqL.of hl3⟩, _, rfl, .inl ⟨lab, rfl, by rw [sizeLine_eq]; (try simp only [len_app, l_e, l_dot, l_colon]); omega, _, rfl, by rw [sizeLine_eq]; (try simp only [len_app, l_e, l_dot, l_colon]); omega, _, rfl, by rw [sizeLine_eq]; (try simp only [len_app, l_e, l_dot, l_colon]); omega, _, rfl, .inl ⟨nm, rfl, by rw [sizeLine_eq]; (try simp only [len_app, l_e, l_dot, l_colon]); omega, _, rfl, by rw [sizeLine_eq]; (try simp only [len_app, l_e, l_dot, l_colon]); omega, l, _, _, rfl, rfl, hl3, by show 0 < sizeLine; decide, _, _, _, _, _, _, rfl, ?_⟩⟩⟩
        refine step _ ?_
        unfold writ
        rw [if_neg h0, app_empty]
    · rintro σ G ⟨u2, u3, u4, u5, u6, u7, rfl, s2, hl2⟩
      exact ⟨_, rfl, l, _, ((0 : Nat) : Int), _, rfl, rfl, SqL.of hl2, atI_nat (j := 0) rfl, k G s2⟩
end
end K31

namespace K31
open PySem PySem.Spec PyProof.Rows L2 EV TL LM
section
variable {P : Program} {w : World} {K : Fg} {mg : Str → Option Value} {base : Heap}
def PartShort (req lab nm : Str) : Prop := req.length ≤ 1000 ∧ lab.length ≤ 1000 ∧ nm.length ≤ 1000 ∧ nm ≠ ""
def spStr (K : Fg) (C : Addr) : Sp := fun vs H Q _ => ∃ (a : Addr) (req lab nm : Str), vs = [.ref a] ∧ ExAt K H C a req lab nm ∧ PartShort req lab nm ∧ ∀ H', Same H H' → Q (.str (writ req lab nm)) H'
theorem ok_str {f C : Addr} {fd : FuncData} (F : Fun K "__str__" "Expression.__str__" s_Expression___str__ f fd) (T : Cst K mg) (hC : ExC K C) (O_written : Ok P w K mg base 1 "_written" ["parts"] (spWritten K)) : FnOk P w K mg base CX0 2 f fd ["self"] (spStr K C) := by
  refine F.ok sc_Expression___str__ (fun vs H Q E h => ?_) (fun cdv A outer s H vs Q E hr h => ?_)
  · obtain ⟨a, req, lab, nm, rfl, _⟩ := h
    rfl
  · obtain ⟨a, req, lab, nm, rfl, ⟨dx, pp, ps, ha, R⟩, ⟨l1, l2, l3, l4⟩, k⟩ := h
    obtain ⟨p, p1, p2⟩ := R.parts
    refine ⟨_, (pss_one (ps_ret (pe_callTy SkE.call_str_str (by rfl) T.n_str (by decide +kernel) (pa_cons (pe_callO O_written (hr.mono (by decide)) (pa_cons (pe_fld (pv 0) rfl) pa_nil)) pa_nil)))), ?_⟩
    exact ⟨_, rfl, a, C, dx, _, _, rfl, ha, hC.cls, hC.no _ (by simp), ex_parts, pp, p, req, lab, nm, rfl, p1, p2, l1, l2, l3, l4, fun H' s => ⟨_, rfl, k H' s⟩⟩
/-- an object that was just made -/
theorem made {G : Hp} {a dx C : Addr} (na : G a = none) (ndx : G dx = none) (nad : dx ≠ a) : Same G (upd (upd G dx (.own a)) a (.ins C dx [])) ∧ True ∧
    ∀ H' : Hp, (∀ b u, b ≠ a → upd (upd G dx (.own a)) a (.ins C dx []) b = some u → H' b = some u) → ∀ b u, G b = some u → H' b = some u := by
  have na2 : upd G dx (.own a) a = none := by rw [upd_ne (Ne.symm nad)]; exact na
  have s : Same G (upd (upd G dx (.own a)) a (.ins C dx [])) := (same_upd ndx).trans (same_upd na2)
  exact ⟨s, trivial, fun H' kp b u z => kp b u (ne_of_none z na) (s b u z)⟩
/-- Expression.leaf(label, name) -/
def spLeaf (K : Fg) (C : Addr) : Sp := fun vs H Q _ => ∃ (lab nm : Str), vs = [.str lab, .str nm] ∧ ∀ a H', Same H H' → H a = none → ExAt K H' C a "" lab nm → Q (.ref a) H'
theorem ok_leaf {f C : Addr} {fd : FuncData} (F : Fun K "leaf" "Expression.leaf" s_Expression_leaf f fd) (T : Cst K mg) (O_Expression : OkI P w K mg base 1 "Expression" C ["self", "parts"] (spEx K C)) : FnOk P w K mg base CX0 3 f fd ["label", "name"] (spLeaf K C) := by
  refine F.ok sc_Expression_leaf (fun vs H Q E h => ?_) (fun cdv A outer s H vs Q E hr h => ?_)
  · obtain ⟨lab, nm, rfl, _⟩ := h
    rfl
  · obtain ⟨lab, nm, rfl, k⟩ := h
    refine ⟨_, (pss_one (ps_ret (pe_makeO O_Expression (hr.mono (by decide)) (pa_cons (pe_lst (pa_cons (pe_tup (pa_cons pe_str (pa_cons (pv 0) (pa_cons (pv 1) pa_nil)))) pa_nil)) pa_nil)))), ?_⟩
    refine ⟨_, rfl, _, rfl, by show 3 ≤ sizeLine; decide, fun p np => ⟨by show 1 ≤ sizeLine; decide, fun l nl => ?_⟩⟩
    have s1 : Same H (upd H p (.tup [.str "", .str lab, .str nm])) := same_upd np
    have s2 := s1.trans (same_upd (o := .lst [.ref p]) nl)
    have hp := same_upd (o := .lst [.ref p]) nl _ _ (upd_same : upd H p (.tup [.str "", .str lab, .str nm]) p = _)
    have hl : upd (upd H p (.tup [.str "", .str lab, .str nm])) l (.lst [.ref p]) l = some (.lst [.ref p]) := upd_same
    generalize upd (upd H p (.tup [.str "", .str lab, .str nm])) l (.lst [.ref p]) = G at s2 hp hl
    refine fun a dx na ndx nad => ?_
    obtain ⟨m1, m2, m3⟩ := made (C := C) na ndx nad
    exact ⟨a, dx, l, p, "", lab, nm, rfl, upd_same, m1 _ _ hl, m1 _ _ hp, fun H' kp ex => ⟨rfl, k a H' (fun b u z => m3 H' kp b u (s2 b u z)) (s2.free na) ex⟩⟩
/-- Expression.asked(name, word) -/
def spAsked (K : Fg) (C : Addr) : Sp := fun vs H Q _ => ∃ (nm req : Str), vs = [.str nm, .str req] ∧ ∀ a H', Same H H' → H a = none → ExAt K H' C a req "" nm → Q (.ref a) H'
theorem ok_asked {f C : Addr} {fd : FuncData} (F : Fun K "asked" "Expression.asked" s_Expression_asked f fd) (T : Cst K mg) (O_Expression : OkI P w K mg base 1 "Expression" C ["self", "parts"] (spEx K C)) : FnOk P w K mg base CX0 3 f fd ["name", "word"] (spAsked K C) := by
  refine F.ok sc_Expression_asked (fun vs H Q E h => ?_) (fun cdv A outer s H vs Q E hr h => ?_)
  · obtain ⟨nm, req, rfl, _⟩ := h
    rfl
  · obtain ⟨nm, req, rfl, k⟩ := h
    refine ⟨_, (pss_one (ps_ret (pe_makeO O_Expression (hr.mono (by decide)) (pa_cons (pe_lst (pa_cons (pe_tup (pa_cons (pv 1) (pa_cons pe_str (pa_cons (pv 0) pa_nil)))) pa_nil)) pa_nil)))), ?_⟩
    refine ⟨_, rfl, _, rfl, by show 3 ≤ sizeLine; decide, fun p np => ⟨by show 1 ≤ sizeLine; decide, fun l nl => ?_⟩⟩
    have s1 : Same H (upd H p (.tup [.str req, .str "", .str nm])) := same_upd np
    have s2 := s1.trans (same_upd (o := .lst [.ref p]) nl)
    have hp := same_upd (o := .lst [.ref p]) nl _ _ (upd_same : upd H p (.tup [.str req, .str "", .str nm]) p = _)
    have hl : upd (upd H p (.tup [.str req, .str "", .str nm])) l (.lst [.ref p]) l = some (.lst [.ref p]) := upd_same
    generalize upd (upd H p (.tup [.str req, .str "", .str nm])) l (.lst [.ref p]) = G at s2 hp hl
    refine fun a dx na ndx nad => ?_
    obtain ⟨m1, m2, m3⟩ := made (C := C) na ndx nad
    exact ⟨a, dx, l, p, req, "", nm, rfl, upd_same, m1 _ _ hl, m1 _ _ hp, fun H' kp ex => ⟨rfl, k a H' (fun b u z => m3 H' kp b u (s2 b u z)) (s2.free na) ex⟩⟩
end
end K31

namespace K31
open PySem PySem.Spec PyProof.Rows L2 EV TL LM
section
variable {P : Program} {w : World} {K : Fg} {mg : Str → Option Value} {base : Heap}
def spChecked (K : Fg) (C : Addr) : Sp := fun vs H Q _ => ∃ (l p : Addr) (req lab nm : Str), vs = [.ref l] ∧ H l = some (.lst [.ref p]) ∧ partAt H p req lab nm ∧ ∀ a H', Same H H' → H a = none → ExAt K H' C a req lab nm → Q (.ref a) H'
theorem ok_checked {f C : Addr} {fd : FuncData} (F : Fun K "_checked" "_checked" s_checked f fd) (T : Cst K mg) (O_Expression : OkI P w K mg base 1 "Expression" C ["self", "parts"] (spEx K C)) : FnOk P w K mg base CX0 3 f fd ["parts"] (spChecked K C) := by
  refine F.ok sc_checked (fun vs H Q E h => ?_) (fun cdv A outer s H vs Q E hr h => ?_)
  · obtain ⟨l, p, req, lab, nm, rfl, _⟩ := h
    rfl
  · obtain ⟨l, p, req, lab, nm, rfl, hl, hp, k⟩ := h
    refine ⟨_, (pss_cons (ps_if (pt_cmpR op_gt (pe_callB call_len_seq (by rfl) T.n_len (by decide +kernel) (pa_cons (pe_lc (own := [("sign", 1), ("_", 2)]) rfl sc_checked.nd (pi_list (pv 0)) (blkOk_by (own := [("sign", 1), ("_", 2)]) (N := ["parts", "sign", "_"]) (sc := defScope s_checked) (by decide +kernel)) (fun _ _ _ _ _ => (pg_three (K := K) 1 2 2 rfl sc_checked.nd rfl rfl rfl rfl rfl rfl)) (fun _ _ _ _ _ => (pts_one (pt_cmpR op_ne (pv 1) pe_str (nomark _)))) (fun _ _ _ _ _ => (pv 1))) pa_nil)) (pe_gv T.g_MOST_STEPS) (nomark _)) (pss_one ps_never) pss_nil)
    (pss_one (ps_ret (pe_makeO O_Expression (hr.mono (by decide)) (pa_cons (pv 0) pa_nil))))), ?_⟩
    refine ⟨_, rfl, l, rfl, ⟨_, SqL.of hl⟩, fun D nD => ?_⟩
    refine lc_fm (walk_list (xs := [.ref p])) (fun i => if i = 0 ∧ req ≠ "" then some (V.str req) else none) nD (by show 1 ≤ 1000000; decide) (fun _ s => SqL.of (s _ _ hl)) ?_ ?_
    · rintro i x G0 G NT NE hi sg ⟨rfl, hx⟩ w0 w1
      obtain ⟨rfl, rfl⟩ : i = 0 ∧ x = .ref p := by
        cases i with
        | zero => exact ⟨rfl, (Option.some.inj hx).symm⟩
        | succ i => simp at hx
      have hp2 : G p = some (.tup [.str req, .str lab, .str nm]) := sg _ _ hp
      refine ⟨p, _, rfl, SqT.of hp2, rfl, _, _, rfl, _, _, rfl, _, _, rfl, rfl, rfl, _, rfl, rfl, _, rfl, ?_⟩
      by_cases hr0 : req = ""
      · rw [decide_eq_true (congrArg V.str hr0)]
        exact iteF (w0 (if_neg fun q => q.2 hr0) _ (Same.refl _))
      · rw [decide_eq_false (show ¬ V.str req = V.str "" from fun q => hr0 (by injection q))]
        exact iteT ⟨_, rfl, w1 _ _ (if_pos ⟨rfl, hr0⟩) (Same.refl _)⟩
    · intro G2 s2 hD
      obtain ⟨us, hus⟩ : ∃ us, gath (fun i => if i = 0 ∧ req ≠ "" then some (V.str req) else none) ([.ref p] : List V).length = us := ⟨_, rfl⟩
      have hlen : us.length ≤ 1 := by rw [← hus]; exact gath_le _ 1
      rw [hus] at hD
      refine ⟨D, us, rfl, .inl (SqL.of hD), _, _, rfl, rfl, _, rfl, ?_⟩
      rw [decide_eq_false (show ¬ ((100 : Int) < (us.length : Int)) by omega)]
      refine iteF ⟨_, rfl, fun a dx na ndx nad => ?_⟩
      obtain ⟨m1, m2, m3⟩ := made (C := C) na ndx nad
      exact ⟨a, dx, l, p, req, lab, nm, rfl, upd_same, m1 _ _ (s2 _ _ hl), m1 _ _ (s2 _ _ hp), fun H' kp ex => ⟨rfl, k a H' (fun b u z => m3 H' kp b u (s2 b u z)) (s2.free na) ex⟩⟩
def spRead (K : Fg) (C : Addr) : Sp := fun vs H Q _ => ∃ (c : V) (t req lab nm : Str), vs = [c, .str t] ∧ t.length ≤ 1000000 ∧ OperAt t 0 req lab nm t.length ∧ ∀ a H', Same H H' → H a = none → ExAt K H' C a req lab nm → Q (.ref a) H'
theorem ok_read {f C CP : Addr} {fd : FuncData} (F : Fun K "read" "Expression.read" s_Expression_read f fd) (T : Cst K mg) (hP : PhC K CP) (O_Phrase : OkI P w K mg base 1 "Phrase" CP ["self", "text"] (spPhrase CP))
    (O_take_all : OkM CX0 P w K mg base 7 CP "take_all" ["self"] (spAll K CP)) (O_checked : Ok P w K mg base 3 "_checked" ["parts"] (spChecked K C)) : FnOk P w K mg base CX0 8 f fd ["cls", "text"] (spRead K C) := by
  refine F.ok sc_Expression_read (fun vs H Q E h => ?_) (fun cdv A outer s H vs Q E hr h => ?_)
  · obtain ⟨c, t, req, lab, nm, rfl, _⟩ := h
    rfl
  · obtain ⟨c, t, req, lab, nm, rfl, hl, hO, k⟩ := h
    refine ⟨_, (pss_cons (ps_if (pt_not (pt_val (pe_callB call_isi (by rfl) T.n_isinstance (by decide +kernel) (pa_cons (pv 1) (pa_cons (pe_bltn (v := .ty "str") rfl T.n_str (by decide +kernel) rfl) pa_nil))))) (pss_one ps_never) pss_nil)
    (pss_one (ps_ret (pe_callO O_checked (hr.mono (by decide)) (pa_cons (pe_methO0 (pe_makeO O_Phrase (hr.mono (by decide)) (pa_cons (pv 1) pa_nil)) hP.cls O_take_all (hr.mono (by decide))) pa_nil))))), ?_⟩
    refine ⟨_, rfl, _, _, _, _, true, rfl, .ty "str", .base (.str t), kit_ty (by decide +kernel), _, rfl, iteF ?_⟩
    refine ⟨_, rfl, fun a dx na ndx nad => ?_⟩
    obtain ⟨m1, m2, m3⟩ := made (C := CP) na ndx nad
    refine ⟨a, dx, t, rfl, upd_same, fun wl fl H' nw nf wf ga gw gf kp => ⟨rfl, ?_⟩⟩
    have sH : Same H H' := m3 H' kp
    refine ⟨a, dx, _, rfl, ga, ph_no (by decide +kernel), a, dx, wl, fl, t, req, lab, nm, rfl, ga, gw, gf, wf, hl, hO, fun l p H2 nl np k2 hp hl2 => ?_⟩
    have nfH : H fl = none := m1.free nf
    have sH2 : Same H H2 := fun b u z => k2 b u (ne_of_none z na) (ne_of_none z nfH) (sH b u z)
    exact ⟨l, p, req, lab, nm, rfl, hl2, hp, fun a2 H3 s3 na2 ex => k a2 H3 (sH2.trans s3) (sH2.free na2) ex⟩
end
end K31

namespace K31
open PySem PySem.Spec PyProof.Rows L2 EV TL LM
/-- a list of new pairs of texts -/
def PairsL (H : Hp) (l : Addr) (ws : List (Str × Str)) : Prop := ∃ bs : List Addr, H l = some (.lst (bs.map V.ref)) ∧ Paired (fun (x : Str × Str) b => H b = some (.tup [.str x.1, .str x.2])) ws bs
def leavesOf (lab nm : Str) : List (Str × Str) := if lab = "" then [] else [(lab, nm)]
theorem pairs_of {G G' : Hp} (s : ∀ b u, G b = some u → G' b = some u) : ∀ {ws : List (Str × Str)} {bs : List Addr}, IsKeys G (ws.map fun x => (([.inr x.1, .inr x.2] : List Key), V.bl true)) bs → Paired (fun (x : Str × Str) b => G' b = some (.tup [.str x.1, .str x.2])) ws bs
  | [], [], _ => .nil
  | x :: ws, b :: bs, .cons h t => .cons (s _ _ h) (pairs_of s t)
section
variable {P : Program} {w : World} {K : Fg} {mg : Str → Option Value} {base : Heap}
def spLeaves (K : Fg) (C : Addr) : Sp := fun vs H Q _ => ∃ (a : Addr) (req lab nm : Str), vs = [.ref a] ∧ ExAt K H C a req lab nm ∧ ∀ l H', Same H H' → H l = none → PairsL H' l (leavesOf lab nm) → Q (.ref l) H'
theorem ok_leaves {f C : Addr} {fd : FuncData} (F : Fun K "leaves" "Expression.leaves" s_Expression_leaves f fd) (T : Cst K mg) (hC : ExC K C) : FnOk P w K mg base CX0 1 f fd ["self"] (spLeaves K C) := by
  refine F.ok sc_Expression_leaves (fun vs H Q E h => ?_) (fun cdv A outer s H vs Q E hr h => ?_)
  · obtain ⟨a, req, lab, nm, rfl, _⟩ := h
    rfl
  · obtain ⟨a, req, lab, nm, rfl, ⟨dx, pp, ps, ha, R⟩, k⟩ := h
    obtain ⟨p, p1, p2⟩ := R.parts
    refine ⟨_, (pss_one (ps_ret (pe_callTy (call_list_dT rfl) (by rfl) T.n_list (by decide +kernel) (pa_cons (pe_dcT hr.units (own := [("_", 1), ("label", 2), ("name", 3)]) rfl sc_Expression_leaves.nd (pi_tup (pe_fld (pv 0) rfl))
      (blkOk_by (own := [("_", 1), ("label", 2), ("name", 3)]) (N := ["self", "_", "label", "name"]) (sc := defScope s_Expression_leaves) (by decide +kernel)) (fun _ _ _ _ _ => (pg_three (K := K) 1 2 3 rfl sc_Expression_leaves.nd rfl rfl rfl rfl rfl rfl))
      (fun _ _ _ _ _ => (pts_one (pt_cmpR op_ne (pv 2) pe_str (nomark _)))) (fun _ _ _ _ _ => pe_tup (pa_cons (pv 2) (pa_cons (pv 3) pa_nil))) (fun _ _ _ _ _ => pe_bl)) pa_nil)))), ?_⟩
    refine ⟨_, rfl, a, C, dx, _, _, rfl, ha, hC.cls, hC.no _ (by simp), ex_parts, pp, rfl, ⟨_, p1⟩, fun D nD => ?_⟩
    refine dcT_fm (walk_tup (xs := [.ref p])) (fun i => if i = 0 ∧ lab ≠ "" then some [.inr lab, .inr nm] else none) nD (by show 1 ≤ 1000000; decide) (fun _ s => SqT.same s p1) ?_ ?_
    · rintro i x G0 G NT NE hi sg ⟨rfl, hx⟩ w0 w1
      obtain ⟨rfl, rfl⟩ : i = 0 ∧ x = .ref p := by
        cases i with
        | zero => exact ⟨rfl, (Option.some.inj hx).symm⟩
        | succ i => simp at hx
      have hp2 : G p = some (.tup [.str req, .str lab, .str nm]) := sg _ _ p2
      refine ⟨p, _, rfl, SqT.of hp2, rfl, _, _, rfl, _, _, rfl, _, _, rfl, rfl, rfl, _, rfl, rfl, _, rfl, ?_⟩
      by_cases h0 : lab = ""
      · rw [decide_eq_true (congrArg V.str h0)]
        exact iteF (w0 (if_neg fun q => q.2 h0) _ (Same.refl _))
      · rw [decide_eq_false (show ¬ V.str lab = V.str "" from fun q => h0 (by injection q))]
        exact iteT ⟨_, rfl, _, rfl, by show 2 ≤ sizeLine; decide, fun b nb => w1 _ b _ (if_pos ⟨rfl, h0⟩) (same_upd nb) upd_same⟩
    · intro G2 s2 hD
      refine ⟨D, _, rfl, .inl hD, fun l bs nl ks => k l _ (s2.trans (same_upd nl)) (s2.free nl) ⟨bs, upd_same, ?_⟩⟩
      have lv : gatK (fun i => if i = 0 ∧ lab ≠ "" then some [.inr lab, .inr nm] else none) ([V.ref p] : List V).length = (leavesOf lab nm).map fun x => ([.inr x.1, .inr x.2], V.bl true) := by
        show (match (if 0 = 0 ∧ lab ≠ "" then some [.inr lab, .inr nm] else none : Option (List Key)) with | none => [] | some k => putK [] k (V.bl true)) = _
        unfold leavesOf
        by_cases h0 : lab = ""
        · rw [if_neg fun q => q.2 h0, if_pos h0]
          rfl
        · rw [if_pos ⟨rfl, h0⟩, if_neg h0]
          rfl
      rw [lv] at ks
      exact pairs_of (fun _ _ z => (same_upd nl) _ _ z) ks
end
end K31

namespace K31
open PySem PySem.Spec PyProof.Rows L2 EV
/-! ### the bag of draws -/
/-- what stays of a heap in which the list at b is written -/
def Keep (b : Addr) (H H' : Hp) : Prop := ∀ a u, a ≠ b → H a = some u → H' a = some u
theorem Keep.refl {b : Addr} (H : Hp) : Keep b H H := fun _ _ _ h => h
theorem Keep.trans {b : Addr} {H H1 H2 : Hp} (h : Keep b H H1) (h' : Keep b H1 H2) : Keep b H H2 := fun a u n z => h' a u n (h a u n z)
theorem Keep.of {b : Addr} {H H' : Hp} (s : Same H H') : Keep b H H' := fun a u _ z => s a u z
theorem Keep.upd {b : Addr} {H : Hp} {o : HO} : Keep b H (upd H b o) := fun a u n z => by rw [upd_ne n]; exact z
theorem keep_new {b p : Addr} {H G : Hp} {o : HO} (k : Keep b H G) (np : H p = none) : Keep b H (L2.upd G p o) := fun a u n z => by
  rw [upd_ne (ne_of_none z np)]
  exact k a u n z
/-- the bag at b: digits and a mixed number -/
def BagAt (H : Hp) (b : Addr) : Prop := ∃ d m : Int, H b = some (.lst [.int d, .int m]) ∧ 0 ≤ d ∧ 0 ≤ m ∧ m < 4294967296
theorem BagAt.same {H H' : Hp} {b : Addr} (h : BagAt H b) (s : Same H H') : BagAt H' b := by
  obtain ⟨d, q, h1, h2⟩ := h
  exact ⟨d, q, s _ _ h1, h2⟩
theorem BagAt.ne {H : Hp} {b a : Addr} (h : BagAt H b) (n : H a = none) : a ≠ b := fun e => by
  obtain ⟨_, _, y, _⟩ := h
  rw [e, y] at n
  cases n
theorem BagAt.upd {H : Hp} {b p : Addr} {o : HO} (h : BagAt H b) (n : p ≠ b) : BagAt (L2.upd H p o) b := by
  obtain ⟨d, q, h1, h2⟩ := h
  exact ⟨d, q, (upd_ne (Ne.symm n)).trans h1, h2⟩
def spTake : Sp := fun vs H Q _ => ∃ (b : Addr) (many : Int), vs = [.ref b, .int many] ∧ BagAt H b ∧ 0 < many ∧ many.natAbs < 2 ^ 200 ∧
  ∀ (r : Int) (H' : Hp), 0 ≤ r → r < many → Keep b H H' → BagAt H' b → Q (.int r) H'
section
variable {P : Program} {w : World} {K : Fg} {mg : Str → Option Value} {base : Heap}
theorem ok_law_take {f : Addr} {fd : FuncData} (F : Fun K "_law_take" "_law_take" s_law_take f fd) (T : Txt K mg) : FnOk P w K mg base CX0 1 f fd ["bag", "many"] spTake := by
  refine F.ok sc_law_take (fun vs H Q E h => ?_) (fun cdv A outer s H vs Q E hr h => ?_)
  · obtain ⟨b, many, rfl, _⟩ := h
    rfl
  · obtain ⟨b, many, rfl, ⟨d, m, hb, d0, m0, m1⟩, h0, h200, k⟩ := h
    refine ⟨_, (pss_cons (ps_if (pt_cmpR op_gt (pe_ix ix_list (pv 0) pe_int (fun _ _ => rfl)) pe_int (nomark _)) (pss_cons (ps_set (i := 2) sc_law_take.nd rfl (Or.inl rfl) (pe_op op_mod (pe_callTy call_int1 (by rfl) T.n_int (by decide +kernel) (pa_cons (pe_ix ix_list (pv 0) pe_int (fun _ _ => rfl)) pa_nil)) (pv 1)))
    (pss_cons (ps_asg (pe_op op_fdivW (pe_ix ix_list (pv 0) pe_int (fun _ _ => rfl)) (pv 1)) (pg_sub (pv 0) pe_int set_list))
    (pss_one (ps_ret (pv 2))))) pss_nil)
    (pss_cons (ps_asg (pe_op op_mod (pe_callTy call_int1 (by rfl) T.n_int (by decide +kernel) (pa_cons (pe_op op_add (pe_op op_mul (pe_ix ix_list (pv 0) pe_int (fun _ _ => rfl)) pe_int) pe_int) pa_nil)) pe_int) (pg_sub (pv 0) pe_int set_list))
    (pss_one (ps_ret (pe_op op_mod (pe_op op_fdiv (pe_op op_mod (pe_callTy call_int1 (by rfl) T.n_int (by decide +kernel) (pa_cons (pe_op op_mul (pe_op op_fdiv (pe_ix ix_list (pv 0) pe_int (fun _ _ => rfl)) pe_int) pe_int) pa_nil)) pe_int) pe_int) (pv 1)))))), ?_⟩
    refine ⟨_, rfl, b, _, 0, _, rfl, rfl, SqL.of hb, rfl, _, _, rfl, rfl, _, rfl, ?_⟩
    refine ite2 (fun hd => ?_) (fun hd => ?_)
    · have hd' : 0 < d := of_decide_eq_true hd
      refine ⟨_, rfl, b, _, 0, _, rfl, rfl, SqL.of hb, rfl, .inl ⟨_, rfl, _, rfl, _, _, rfl, rfl, h0, ?_⟩⟩
      refine ⟨_, rfl, b, _, 0, _, rfl, rfl, SqL.of hb, rfl, _, rfl, _, _, rfl, rfl, wide_div h0 h200 (by decide) (by decide), ?_⟩
      refine ⟨_, rfl, b, _, 0, 0, rfl, rfl, hb, rfl, ?_⟩
      refine ⟨_, rfl, k _ _ (Int.emod_nonneg _ (by omega)) (Int.emod_lt_of_pos _ h0) Keep.upd ⟨d / many, m, upd_same, Int.ediv_nonneg d0 (by omega), m0, m1⟩⟩
    · refine ⟨_, rfl, b, _, 1, _, rfl, rfl, SqL.of hb, rfl, _, _, rfl, rfl, .inl ⟨by omega, by omega⟩, _, _, rfl, rfl, .inl ⟨_, rfl, _, _, rfl, rfl, by show (0 : Int) < 2147483647; decide, ?_⟩⟩
      refine ⟨_, rfl, b, _, 1, 1, rfl, rfl, hb, rfl, ?_⟩
      have z0 := Int.emod_nonneg (m * 45991 + 70001) (show (2147483647 : Int) ≠ 0 by decide)
      have z1 := Int.emod_lt_of_pos (m * 45991 + 70001) (show (0 : Int) < 2147483647 by decide)
      have hb1 : upd H b (.lst ([V.int d, .int m].set 1 (.int ((m * 45991 + 70001) % 2147483647)))) b = some (.lst [.int d, .int ((m * 45991 + 70001) % 2147483647)]) := upd_same
      refine ⟨_, rfl, b, _, 1, _, rfl, rfl, SqL.of hb1, rfl, _, _, rfl, rfl, ⟨by decide, by decide⟩, _, _, rfl, rfl, .inl ⟨by omega, by omega⟩,
        .inl ⟨_, rfl, _, _, rfl, rfl, by show (0 : Int) < 2147483579; decide, _, _, rfl, rfl, ⟨by decide, by decide⟩, _, rfl, _, _, rfl, rfl, h0, ?_⟩⟩
      exact k _ _ (Int.emod_nonneg _ (by omega)) (Int.emod_lt_of_pos _ h0) Keep.upd ⟨d, _, upd_same, d0, z0, by omega⟩
def spBag (K : Fg) : Sp := fun vs H Q _ => ∃ (a : Addr) (ns : List Int) (i : Nat), vs = [.ref a, .int (i : Nat)] ∧ SqL K H a (ns.map V.int) ∧ i ≤ 63 ∧ ∀ (b : Addr) (H' : Hp), H b = none → Same H H' → BagAt H' b → Q (.ref b) H'
theorem cut_take (xs : List V) (k : Nat) : cutV xs none (some (k : Int)) = xs.take k := by
  unfold cutV
  rw [HT.sIx_nat, HT.sIx_none, List.drop_zero, Nat.sub_zero]
  rcases Nat.lt_or_ge xs.length k with h | h
  · rw [Nat.min_eq_right (Nat.le_of_lt h), List.take_of_length_le (Nat.le_refl _), List.take_of_length_le (Nat.le_of_lt h)]
  · rw [Nat.min_eq_left h]
theorem at_ints {ns : List Int} {i : Nat} (h : i < ns.length) : ∃ z, atI (ns.map V.int) (i : Int) = some (V.int z) := ⟨ns[i], atI_nat (by rw [List.getElem?_map, List.getElem?_eq_getElem h]; rfl)⟩
theorem ok_law_bag {f : Addr} {fd : FuncData} (F : Fun K "_law_bag" "_law_bag" s_law_bag f fd) (T : Txt K mg) : FnOk P w K mg base CX0 1 f fd ["script", "at"] (spBag K) := by
  refine F.ok sc_law_bag (fun vs H Q E h => ?_) (fun cdv A outer s H vs Q E hr h => ?_)
  · obtain ⟨a, ns, i, rfl, _⟩ := h
    rfl
  · obtain ⟨a, ns, i, rfl, hS, i3, k⟩ := h
    refine ⟨_, (pss_cons (ps_set (i := 2) sc_law_bag.nd rfl (Or.inl rfl) (pe_mid (pe_ifExp (pt_cmpR op_lt (pv 1) (pe_callB call_len_seq (by rfl) T.n_len (by decide +kernel) (pa_cons (pv 0) pa_nil)) (nomark _)) (pe_ix ix_list (pv 0) (pv 1) (fun _ _ => rfl)) pe_int)))
    (pss_cons (ps_set (i := 3) sc_law_bag.nd rfl (Or.inl rfl) (pe_op op_add (pe_op op_mul pe_int (pv 1)) pe_int))
    (pss_cons (ps_for PassesOwn.never rfl (pi_enum (by rfl) T.n_enumerate (pa_cons (pe_slice sl_list (pv 0) po_none (po_some pe_int)) pa_nil)) (pg_tup rfl (pgs_cons (pg_name (i := 4) sc_law_bag.nd rfl (Or.inl rfl)) (pgs_cons (pg_name (i := 5) sc_law_bag.nd rfl (Or.inl rfl)) pgs_nil))) (pss_one (ps_set (i := 3) sc_law_bag.nd rfl (Or.inl rfl) (pe_op op_mod (pe_callTy call_int1 (by rfl) T.n_int (by decide +kernel) (pa_cons (pe_op op_add (pe_op op_add (pe_op op_mul (pv 3) pe_int) (pe_op op_mod (pe_callTy call_int1 (by rfl) T.n_int (by decide +kernel) (pa_cons (pv 5) pa_nil)) pe_int)) (pe_op op_mul pe_int (pv 4))) pa_nil)) pe_int))))
    (pss_one (ps_ret (pe_lst (pa_cons (pe_mid (pe_ifExp (pt_cmpR op_ge (pe_callB call_abs (by rfl) T.n_abs (by decide +kernel) (pa_cons (pv 2) pa_nil)) (pe_op op_pow pe_int pe_int) (nomark _)) (pe_callB call_abs (by rfl) T.n_abs (by decide +kernel) (pa_cons (pv 2) pa_nil)) pe_int)) (pa_cons (pv 3) pa_nil)))))))), ?_⟩
    refine ⟨fun v H1 => (∃ z : Int, v = .int z) ∧ H = H1, ⟨_, rfl, _, rfl, a, _, rfl, .inl hS, _, _, rfl, rfl, _, rfl, ite2 (fun hd => ?_) (fun hd => ⟨⟨_, rfl⟩, rfl⟩)⟩, ?_⟩
    · have hd' := of_decide_eq_true hd
      rw [List.length_map] at hd'
      obtain ⟨z, hz⟩ := at_ints (ns := ns) (i := i) (by omega)
      exact ⟨_, rfl, _, rfl, a, _, _, _, rfl, rfl, hS, hz, ⟨z, rfl⟩, rfl⟩
    · rintro _ _ ⟨⟨z, rfl⟩, rfl⟩
      refine ⟨_, rfl, _, _, rfl, rfl, .inl ⟨by decide, by decide⟩, _, _, rfl, rfl, ?_⟩
      refine ⟨_, rfl, 63, rfl, a, _, rfl, hS, fun c nc => ?_⟩
      have ec : upd H c (.lst (cutV (ns.map V.int) none (some 63))) c = some (.lst ((ns.take 63).map V.int)) := by
        rw [upd_same, show cutV (ns.map V.int) none (some 63) = (ns.map V.int).take 63 from cut_take _ 63, ← List.map_take]
      have s1 : Same H (upd H c (.lst (cutV (ns.map V.int) none (some 63)))) := same_upd nc
      generalize upd H c (.lst (cutV (ns.map V.int) none (some 63))) = G at ec s1
      refine ⟨c, _, rfl, SqL.of ec, for_it walk_enum (fun j σ G' => ∃ (mm : Int) (u1 u2 : Option V), σ = [some (.ref a), some (.int (i : Nat)), some (.int z), some (.int mm), u1, u2] ∧ 0 ≤ mm ∧ mm < 4294967296 ∧ Same G G')
        ⟨_, none, none, rfl, by omega, by omega, Same.refl _⟩ (fun j σ G' _ q => by
          obtain ⟨_, _, _, _, _, _, s⟩ := q
          exact SqL.of (s _ _ ec)) ?_ ?_⟩
      · rintro j x σ G1 G2 hj ⟨mm, u1, u2, rfl, m0, m1, s2⟩ ⟨T', kx, y, rfl, nT, rfl, ek, ey⟩
        have ek' : V.int ((j : Nat) : Int) = kx := by injection ek
        subst ek'
        obtain ⟨e, rfl⟩ : ∃ e, V.int e = y := by
          have ey' : ((ns.take 63).map V.int)[j]? = some y := ey
          rw [List.getElem?_map] at ey'
          cases q : (ns.take 63)[j]? with
          | none => rw [q] at ey'; cases ey'
          | some e => rw [q] at ey'; exact ⟨e, by injection ey'⟩
        refine ⟨T', _, rfl, SqT.of upd_same, rfl, _, _, rfl, _, _, rfl, rfl, _, rfl, _, _, rfl, rfl, .inl ⟨by omega, by omega⟩, _, rfl, .inl ⟨_, rfl, _, _, rfl, rfl, by show (0 : Int) < 2147483399; decide, _, _, rfl, rfl, _, rfl, _, _, rfl, rfl, .inl ⟨by decide, by decide⟩, _, _, rfl, rfl,
          .inl ⟨_, rfl, _, _, rfl, rfl, by show (0 : Int) < 2147483563; decide, _, _, _, rfl, Int.emod_nonneg _ (by decide), ?_, s2.trans (same_upd nT)⟩⟩⟩
        have := Int.emod_lt_of_pos (mm * 40692 + e % 2147483399 + 577 * ((j : Nat) : Int)) (show (0 : Int) < 2147483563 by decide)
        omega
      · rintro σ G1 ⟨mm, u1, u2, rfl, m0, m1, s2⟩
        have z0 : 0 ≤ (if z < 0 then -z else z) := by split <;> omega
        refine ⟨fun v G' => (∃ d : Int, v = .int d ∧ 0 ≤ d) ∧ G1 = G', ⟨_, rfl, _, rfl, _, _, rfl, rfl, ⟨by decide, by decide, by decide⟩, _, _, rfl, rfl, _, rfl, ite2 (fun hd => ⟨_, rfl, _, rfl, ⟨_, rfl, z0⟩, rfl⟩) (fun hd => ⟨⟨_, rfl, by decide⟩, rfl⟩)⟩, ?_⟩
        rintro _ _ ⟨⟨d, rfl, d0⟩, rfl⟩
        refine ⟨_, rfl, by show 2 ≤ sizeLine; decide, fun b nb => ?_⟩
        exact k b _ (s1.free (s2.free nb)) ((s1.trans s2).trans (same_upd nb)) ⟨_, _, upd_same, d0, m0, m1⟩
def spOf : Sp := fun vs H Q _ => ∃ (b l : Addr) (xs : List V), vs = [.ref b, .ref l] ∧ BagAt H b ∧ H l = some (.lst xs) ∧ l ≠ b ∧ 0 < xs.length ∧ xs.length ≤ 1000 ∧ ∀ (x : V) (H' : Hp), x ∈ xs → Keep b H H' → BagAt H' b → Q x H'
theorem small200 {z : Int} (h0 : 0 ≤ z) (h : z ≤ 1000000) : z.natAbs < 2 ^ 200 := Nat.lt_of_le_of_lt (show z.natAbs ≤ 1000000 by omega) (by decide)
end
end K31

namespace K31
open PySem PySem.Spec PyProof.Rows L2 EV TL LM
section
variable {P : Program} {w : World} {K : Fg} {mg : Str → Option Value} {base : Heap}
def spOfS : Sp := fun vs H Q _ => ∃ (b : Addr) (z : Str), vs = [.ref b, .str z] ∧ BagAt H b ∧ 0 < z.length ∧ z.length ≤ 1000 ∧ ∀ (c : Nat) (H' : Hp), c ∈ tl z → Keep b H H' → BagAt H' b → Q (.str ⟨#[c]⟩) H'
theorem ok_law_of {f : Addr} {fd : FuncData} (F : Fun K "_law_of" "_law_of" s_law_of f fd) (T : Cst K mg) (O_law_take : Ok P w K mg base 1 "_law_take" ["bag", "many"] spTake) :
    FnOk P w K mg base CX0 2 f fd ["bag", "some"] spOfS := by
  refine F.ok sc_law_of (fun vs H Q E h => ?_) (fun cdv A outer s H vs Q E hr h => ?_)
  · obtain ⟨b, z, rfl, _⟩ := h
    rfl
  · obtain ⟨b, z, rfl, B, p0, p1, k⟩ := h
    refine ⟨_, (pss_one (ps_ret (pe_ix ix_str (pv 1) (pe_callO O_law_take (hr.mono (by decide)) (pa_cons (pv 0) (pa_cons (pe_callB call_len_str (by rfl) T.n_len (by decide +kernel) (pa_cons (pv 1) pa_nil)) pa_nil))) (fun _ _ => rfl)))), ?_⟩
    refine ⟨_, rfl, _, rfl, _, rfl, z, rfl, by rw [sizeLine_eq]; omega, ?_⟩
    refine ⟨b, _, rfl, B, by omega, small200 (by omega) (by omega), fun r H' r0 r1 kp B' => ?_⟩
    obtain ⟨j, rfl⟩ := Int.eq_ofNat_of_zero_le r0
    have hj : j < (tl z).length := by rw [← len_tl]; omega
    exact ⟨z, _, (tl z)[j], rfl, rfl, by rw [sizeLine_eq]; omega, atI_nat (List.getElem?_eq_getElem hj), k _ _ (List.getElem_mem hj) kp B'⟩
def spLetters : Sp := fun vs H Q _ => ∃ (b : Addr) (z : Str) (many : Nat), vs = [.ref b, .str z, .int (many : Nat)] ∧ BagAt H b ∧ many ≤ 1000 ∧ z.length ≤ 1000 ∧
  ∀ (r : Str) (H' : Hp), Keep b H H' → BagAt H' b → r.length ≤ many → within 97 122 (tl r) = true → Q (.str (z ++ r)) H'
theorem app_assoc (x y z : Str) : x ++ y ++ z = x ++ (y ++ z) := ext_tl (by rw [tl_append, tl_append, tl_append, tl_append, List.append_assoc])
theorem app_nil (x : Str) : x ++ ("" : Str) = x := ext_tl (by rw [tl_append]; exact List.append_nil _)
theorem small_abc : ∀ c ∈ tl ("abcdefghijklmnopqrstuvwxyz" : Str), 97 ≤ c ∧ c ≤ 122 := by decide +kernel
theorem big_abc : ∀ c ∈ tl ("ABCDEFGHIJKLMNOPQRSTUVWXYZ" : Str), 65 ≤ c ∧ c ≤ 90 := by decide +kernel
theorem within_app (a b : List Nat) : within 97 122 (a ++ b) = (within 97 122 a && within 97 122 b) := by
  unfold within
  rw [List.all_append]
theorem within_one {c : Nat} (h : 97 ≤ c ∧ c ≤ 122) : within 97 122 (tl (⟨#[c]⟩ : Str)) = true := by
  show ((decide (97 ≤ c) && decide (c ≤ 122)) && true) = true
  rw [decide_eq_true h.1, decide_eq_true h.2]
  rfl
theorem ok_law_letters {f : Addr} {fd : FuncData} (F : Fun K "_law_letters" "_law_letters" s_law_letters f fd) (T : Cst K mg) (O_law_take : Ok P w K mg base 1 "_law_take" ["bag", "many"] spTake) (O_law_of : Ok P w K mg base 2 "_law_of" ["bag", "some"] spOfS) :
    FnOk P w K mg base CX0 3 f fd ["bag", "first", "many"] spLetters := by
  refine F.ok sc_law_letters (fun vs H Q E h => ?_) (fun cdv A outer s H vs Q E hr h => ?_)
  · obtain ⟨b, z, many, rfl, _⟩ := h
    rfl
  · obtain ⟨b, z, many, rfl, B, hm, hz, k⟩ := h
    refine ⟨_, (pss_cons (ps_set (i := 3) sc_law_letters.nd rfl (Or.inl rfl) (pv 1))
    (pss_cons (ps_for PassesOwn.never rfl (pi_range1 rfl T.n_range (pa_cons (pe_callO O_law_take (hr.mono (by decide)) (pa_cons (pv 0) (pa_cons (pe_op op_add (pv 2) pe_int) pa_nil))) pa_nil)) (pg_name (i := 4) sc_law_letters.nd rfl (Or.inl rfl)) (pss_one (ps_set (i := 3) sc_law_letters.nd rfl (Or.inl rfl) (pe_op op_add_str (pv 3) (pe_callO O_law_of (hr.mono (by decide)) (pa_cons (pv 0) (pa_cons pe_str pa_nil)))))))
    (pss_one (ps_ret (pv 3))))), ?_⟩
    refine ⟨_, rfl, _, rfl, _, rfl, _, _, rfl, rfl, b, _, rfl, B, by omega, small200 (by omega) (by omega), fun r H1 r0 r1 k1 B1 => ⟨r, rfl, by omega, by omega, ?_⟩⟩
    refine for_range (lo := 0) (n := r.toNat) (fun i σ G => ∃ (y : Str) (u : Option V), σ = [some (.ref b), some (.str z), some (.int (many : Nat)), some (.str (z ++ y)), u] ∧ y.length ≤ i ∧ within 97 122 (tl y) = true ∧ Keep b H1 G ∧ BagAt G b)
      ⟨"", none, by rw [app_nil]; rfl, by decide +kernel, by decide +kernel, Keep.refl _, B1⟩ ?_ ?_
    · rintro i σ G hi ⟨y, u, rfl, hy, hw, kk, Bg⟩
      refine ⟨_, rfl, _, rfl, b, _, rfl, Bg, by decide +kernel, by decide +kernel, fun c G2 hc k2 B2 => ?_⟩
      refine ⟨_, _, rfl, rfl, by show _ + 1 ≤ sizeLine; rw [len_app, sizeLine_eq]; omega, y ++ ⟨#[c]⟩, _, by rw [app_assoc]; rfl, by rw [len_app]; exact Nat.succ_le_succ hy, by rw [tl_append, within_app, hw, within_one (small_abc c hc)]; rfl, kk.trans k2, B2⟩
    · rintro σ G ⟨y, u, rfl, hy, hw, kk, Bg⟩
      exact ⟨_, rfl, k y G (k1.trans kk) Bg (by omega) hw⟩
end
end K31

namespace K31
open PySem PySem.Spec PyProof.Rows L2 EV TL LM
/-! ### texts of one leaf or one request -/
def low (c : Nat) : Bool := decide (97 ≤ c) && decide (c ≤ 122)
theorem within_low (l : List Nat) : within 97 122 l = l.all low := rfl
theorem run_len {b c : List Nat} {n : Nat} (hb : b.all low = true) (hn : b.length ≤ n) (hc : b.length = n ∨ ∀ x, c.head? = some x → low x = false) : (((b ++ c).take n).takeWhile low).length = b.length := by
  rw [List.take_append, List.take_of_length_le hn, List.takeWhile_append_of_pos (fun x hx => List.all_eq_true.mp hb x hx), List.length_append]
  rcases hc with e | e
  · rw [e, Nat.sub_self, List.take_zero]
    rfl
  · cases c with
    | nil => rw [List.take_nil]; rfl
    | cons x c =>
      have := e x rfl
      cases n - b.length with
      | zero => rfl
      | succ m => rw [List.take_succ_cons, List.takeWhile_cons, if_neg (by rw [this]; exact Bool.false_ne_true)]; rfl
theorem low_at {t : Str} {a b c : List Nat} {n : Nat} (ht : tl t = a ++ (b ++ c)) (hb : b.all low = true) (hn : b.length ≤ n) (hc : b.length = n ∨ ∀ x, c.head? = some x → low x = false) : smallN t a.length n = b.length := by
  unfold smallN
  rw [ht, List.drop_append_of_le_length (Nat.le_refl _), List.drop_of_length_le (Nat.le_refl _), List.nil_append]
  exact run_len hb hn hc
theorem sub_at {t x : Str} {a c : List Nat} (ht : tl t = a ++ (tl x ++ c)) : subT t a.length x.length = x := by
  refine ext_tl ?_
  show ((tl t).drop a.length).take x.length = tl x
  rw [ht, List.drop_append_of_le_length (Nat.le_refl _), List.drop_of_length_le (Nat.le_refl _), List.nil_append, len_tl, List.take_append_of_le_length (Nat.le_refl _), List.take_of_length_le (Nat.le_refl _)]
theorem at_of {t : Str} {a c : List Nat} {x : Nat} (ht : tl t = a ++ x :: c) : (tl t)[a.length]? = some x := by
  rw [ht, List.getElem?_append_right (Nat.le_refl _), Nat.sub_self]
  rfl
theorem betw_of {t : Str} {a c : List Nat} {x lo hi : Nat} (ht : tl t = a ++ x :: c) : betw lo hi t a.length = (decide (lo ≤ x) && decide (x ≤ hi)) := by
  unfold betw
  rw [at_of ht]
/-- a capital letter and at most seven small ones -/
structure Cap (z : Str) : Prop where
  ex : ∃ (c : Nat) (r : List Nat), tl z = c :: r ∧ 65 ≤ c ∧ c ≤ 90 ∧ r.all low = true ∧ r.length ≤ 7
structure Wrd (z : Str) : Prop where
  all : (tl z).all low = true
  pos : 0 < z.length
  le : z.length ≤ 8
theorem Cap.len {z : Str} (h : Cap z) : 0 < z.length ∧ z.length ≤ 8 := by
  obtain ⟨c, r, e, _, _, _, h7⟩ := h.ex
  rw [len_tl, e, List.length_cons]
  omega
theorem t_dot : tl ("." : Str) = [46] := by decide +kernel
theorem t_colon : tl (":" : Str) = [58] := by decide +kernel
theorem up_not_low {c : Nat} (h : c ≤ 90) : low c = false := by
  unfold low
  rw [decide_eq_false (by omega)]
  rfl
theorem oper_leaf {tag kind : Str} (ht : Wrd tag) (hk : Cap kind) : OperAt (tag ++ (":" : Str) ++ kind) 0 "" tag kind (tag ++ (":" : Str) ++ kind).length := by
  obtain ⟨c, r, ek, c1, c2, rl, r7⟩ := hk.ex
  have e : tl (tag ++ (":" : Str) ++ kind) = tl tag ++ 58 :: c :: r := by
    rw [tl_append, tl_append, t_colon, ek, List.append_assoc]
    rfl
  have lt := len_tl tag
  have lk : kind.length = r.length + 1 := by rw [len_tl, ek, List.length_cons]
  have ll : (tag ++ (":" : Str) ++ kind).length = tag.length + 1 + (r.length + 1) := by
    rw [len_tl, e, List.length_append, List.length_cons, List.length_cons, ← lt]
    omega
  obtain ⟨x, xs, ex⟩ : ∃ x xs, tl tag = x :: xs := by
    cases q : tl tag with
    | nil => have := ht.pos; rw [lt, q] at this; exact absurd this (Nat.lt_irrefl 0)
    | cons x xs => exact ⟨x, xs, rfl⟩
  have hx : low x = true := by
    have := ht.all
    rw [ex, List.all_cons, Bool.and_eq_true] at this
    exact this.1
  refine .inr ⟨?_, Nat.zero_le _, tag.length, r.length, ?_, ht.pos, ?_, ?_, ?_, rfl, ?_, ?_, ?_⟩
  · have := betw_of (a := []) (lo := 65) (hi := 90) (show tl (tag ++ (":" : Str) ++ kind) = [] ++ x :: (xs ++ 58 :: c :: r) by rw [e, ex]; rfl)
    rw [show ([] : List Nat).length = 0 from rfl] at this
    rw [this]
    unfold low at hx
    rw [Bool.and_eq_true, decide_eq_true_eq, decide_eq_true_eq] at hx
    rw [decide_eq_false (show ¬ x ≤ 90 by omega), Bool.and_false]
  · have := low_at (t := tag ++ (":" : Str) ++ kind) (a := []) (b := tl tag) (c := 58 :: c :: r) (n := 8) e ht.all (by rw [← lt]; exact ht.le) (.inr fun y hy => by injection hy with hy; rw [← hy]; rfl)
    rw [lt]
    exact this
  · rw [Nat.zero_add, lt]
    exact at_of e
  · have := betw_of (a := tl tag ++ [58]) (lo := 65) (hi := 90) (show tl (tag ++ (":" : Str) ++ kind) = (tl tag ++ [58]) ++ c :: r by rw [e, List.append_assoc]; rfl)
    rw [List.length_append, ← lt] at this
    rw [Nat.zero_add]
    refine this.trans ?_
    rw [decide_eq_true c1, decide_eq_true c2]
    rfl
  · have := low_at (t := tag ++ (":" : Str) ++ kind) (a := tl tag ++ [58, c]) (b := r) (c := []) (n := 7) (by rw [e, List.append_assoc, List.append_nil]; rfl) rl r7 (.inr fun y hy => by cases hy)
    rw [List.length_append, ← lt] at this
    rw [Nat.zero_add]
    exact this
  · have := sub_at (t := tag ++ (":" : Str) ++ kind) (x := tag) (a := []) (c := 58 :: c :: r) e
    exact this.symm
  · have := sub_at (t := tag ++ (":" : Str) ++ kind) (x := kind) (a := tl tag ++ [58]) (c := []) (by rw [e, ek, List.append_assoc, List.append_nil]; rfl)
    rw [List.length_append, ← lt, lk] at this
    rw [Nat.zero_add]
    exact this.symm
  · rw [ll]
    omega
theorem oper_asked {kind ask : Str} (hk : Cap kind) (ha : Wrd ask) (hu : unary.contains ask = false) : OperAt (kind ++ ("." : Str) ++ ask) 0 ask "" kind (kind ++ ("." : Str) ++ ask).length := by
  obtain ⟨c, r, ek, c1, c2, rl, r7⟩ := hk.ex
  have e : tl (kind ++ ("." : Str) ++ ask) = c :: (r ++ 46 :: tl ask) := by
    rw [tl_append, tl_append, t_dot, ek, List.append_assoc]
    rfl
  have la := len_tl ask
  have lk : kind.length = r.length + 1 := by rw [len_tl, ek, List.length_cons]
  have ll : (kind ++ ("." : Str) ++ ask).length = r.length + 1 + 1 + ask.length := by
    rw [len_tl, e, List.length_cons, List.length_append, List.length_cons, ← la]
    omega
  have pa := ha.pos
  have sub : subT (kind ++ ("." : Str) ++ ask) (0 + (r.length + 1) + 1) ask.length = ask := by
    have := sub_at (t := kind ++ ("." : Str) ++ ask) (x := ask) (a := c :: (r ++ [46])) (c := []) (by rw [e, List.append_nil, List.cons_append, List.append_assoc]; rfl)
    rw [List.length_cons, List.length_append] at this
    rw [show 0 + (r.length + 1) + 1 = r.length + [46].length + 1 by show _ = r.length + 1 + 1; omega]
    exact this
  refine .inl ⟨?_, r.length, ask.length, ?_, ?_, ?_, pa, ?_, ?_, rfl, ?_, ?_⟩
  · have := betw_of (t := kind ++ ("." : Str) ++ ask) (a := []) (lo := 65) (hi := 90) e
    refine this.trans ?_
    rw [decide_eq_true c1, decide_eq_true c2]
    rfl
  · exact low_at (t := kind ++ ("." : Str) ++ ask) (a := [c]) (b := r) (c := 46 :: tl ask) (n := 7) e rl r7 (.inr fun y hy => by injection hy with hy; rw [← hy]; rfl)
  · have := at_of (t := kind ++ ("." : Str) ++ ask) (a := c :: r) (x := 46) (c := tl ask) e
    rw [List.length_cons] at this
    rw [Nat.zero_add]
    exact this
  · have := low_at (t := kind ++ ("." : Str) ++ ask) (a := c :: (r ++ [46])) (b := tl ask) (c := []) (n := 8) (by rw [e, List.append_nil, List.cons_append, List.append_assoc]; rfl) ha.all (by rw [← la]; exact ha.le) (.inr fun y hy => by cases hy)
    rw [List.length_cons, List.length_append, ← la] at this
    rw [show 0 + (r.length + 1) + 1 = r.length + [46].length + 1 by show _ = r.length + 1 + 1; omega]
    exact this
  · rw [sub]
    exact hu
  · exact sub.symm
  · have := sub_at (t := kind ++ ("." : Str) ++ ask) (x := kind) (a := []) (c := 46 :: tl ask) (by rw [e, ek]; rfl)
    rw [lk] at this
    exact this.symm
  · rw [ll]
    omega
end K31

namespace K31
open PySem PySem.Spec PyProof.Rows L2 EV TL LM
/-! ### a drawn leaf, a drawn request -/
theorem ok_low {z : Str} (h : ∀ c ∈ tl z, c < 1114112) : PyData.strOk z = true := by
  unfold PyData.strOk
  rw [Array.all_eq_true']
  intro c hc
  exact decide_eq_true (h c (Array.mem_toList_iff.mpr hc))
theorem low_lt {c : Nat} (h : low c = true) : c < 1114112 := by
  unfold low at h
  rw [Bool.and_eq_true, decide_eq_true_eq, decide_eq_true_eq] at h
  omega
theorem Wrd.ok {z : Str} (h : Wrd z) : PyData.strOk z = true := ok_low fun c hc => low_lt (List.all_eq_true.mp h.all c hc)
theorem Cap.ok {z : Str} (h : Cap z) : PyData.strOk z = true := by
  obtain ⟨c, r, e, c1, c2, rl, _⟩ := h.ex
  refine ok_low fun d hd => ?_
  rw [e] at hd
  rcases List.mem_cons.mp hd with rfl | hd
  · omega
  · exact low_lt (List.all_eq_true.mp rl d hd)
theorem Wrd.ne {z : Str} (h : Wrd z) : z ≠ "" := fun e => by
  have := h.pos
  rw [e] at this
  exact absurd this (by decide +kernel)
theorem Cap.ne {z : Str} (h : Cap z) : z ≠ "" := fun e => by
  have := h.len.1
  rw [e] at this
  exact absurd this (by decide +kernel)
def pairD (x : Str × Str) : PyData := .tuple [.str x.1, .str x.2]
theorem dp_pairs {K : Fg} {H : Hp} : ∀ {ws : List (Str × Str)} {bs : List Addr}, Paired (fun (x : Str × Str) b => H b = some (.tup [.str x.1, .str x.2])) ws bs → DpAll K H (bs.map V.ref) (ws.map pairD)
  | [], [], _ => .nil
  | _ :: _, _ :: _, .cons h t => .cons (.tup (SqT.of h) (.cons (.str _) (.cons (.str _) .nil))) (dp_pairs t)
theorem dp_pairsL {K : Fg} {H : Hp} {l : Addr} {ws : List (Str × Str)} (h : PairsL H l ws) : Dp K H (.ref l) (.list (ws.map pairD)) := let ⟨_, h1, h2⟩ := h; .lst (SqL.of h1) (dp_pairs h2)
theorem sh_pairs : ∀ ws : List (Str × Str), (∀ x ∈ ws, PyData.strOk x.1 = true ∧ PyData.strOk x.2 = true) → PyData.canLayAll0 (ws.map pairD) = true ∧ PyData.depthAll (ws.map pairD) ≤ 2
  | [], _ => ⟨rfl, by decide⟩
  | x :: ws, h => by
    obtain ⟨h1, h2⟩ := h x List.mem_cons_self
    obtain ⟨i1, i2⟩ := sh_pairs ws fun y hy => h y (List.mem_cons_of_mem _ hy)
    constructor
    · show ((PyData.strOk x.1 && (PyData.strOk x.2 && true)) && PyData.canLayAll0 (ws.map pairD)) = true
      rw [h1, h2, i1]
      rfl
    · show max (PyData.depth (pairD x)) (PyData.depthAll (ws.map pairD)) ≤ 2
      refine Nat.max_le.mpr ⟨?_, i2⟩
      simp only [pairD, PyData.depth, PyData.depthAll]
      omega
theorem pairs_shaped {ws : List (Str × Str)} (h : ∀ x ∈ ws, PyData.strOk x.1 = true ∧ PyData.strOk x.2 = true) : SeqAt.shaped (.list (ws.map pairD)) = true := by
  obtain ⟨h1, h2⟩ := sh_pairs ws h
  unfold SeqAt.shaped
  rw [show PyData.canLay0 (.list (ws.map pairD)) = true from h1, Bool.true_and]
  refine decide_eq_true ?_
  simp only [PyData.depth]
  omega
theorem pairs_self {ws : List (Str × Str)} (h : ∀ x ∈ ws, PyData.strOk x.1 = true ∧ PyData.strOk x.2 = true) : PyData.eqv (.list (ws.map pairD)) (.list (ws.map pairD)) = true := SeqAt.eqv_refl _ (sh_pairs ws h).1
section
variable {P : Program} {w : World} {K : Fg} {mg : Str → Option Value} {base : Heap}
def spNum : Sp := fun vs H Q _ => ∃ (x d : Int), vs = [.int x, .int d] ∧ Q (.bl (decide (x = d))) H
theorem ok_law_number {f : Addr} {fd : FuncData} (F : Fun K "_law_number" "_law_number" s_law_number f fd) (T : Cst K mg) : FnOk P w K mg base CX0 1 f fd ["x", "due"] spNum := by
  refine F.ok sc_law_number (fun vs H Q E h => ?_) (fun cdv A outer s H vs Q E hr h => ?_)
  · obtain ⟨x, d, rfl, _⟩ := h
    rfl
  · obtain ⟨x, d, rfl, k⟩ := h
    refine ⟨_, (pss_one (ps_ret (pe_and (pe_callB call_isi (by rfl) T.n_isinstance (by decide +kernel) (pa_cons (pv 0) (pa_cons (pe_bltn (v := .ty "int") rfl T.n_int (by decide +kernel) rfl) pa_nil))) (pe_and (pe_not (pe_callB call_isi (by rfl) T.n_isinstance (by decide +kernel) (pa_cons (pv 0) (pa_cons (pe_bltn (v := .ty "bool") rfl T.n_bool (by decide +kernel) rfl) pa_nil)))) (pe_one (pe_cmpR op_eq (pv 0) (pv 1) (nomark _))))))), ?_⟩
    refine ⟨_, rfl, _, _, _, _, true, rfl, .ty "int", .base (.int x), kit_ty (by decide +kernel), _, rfl, iteT ?_⟩
    refine ⟨_, rfl, _, _, _, _, false, rfl, .ty "bool", .base (.int x), kit_ty (by decide +kernel), _, rfl, _, rfl, iteT ⟨_, rfl, _, rfl, rfl, ?_⟩⟩
    rw [show decide (V.int x = V.int d) = decide (x = d) from decide_eq_decide.mpr ⟨fun e => by injection e, fun e => by rw [e]⟩]
    exact k
theorem Keep.same {b : Addr} {H H1 H2 : Hp} (k : Keep b H H1) (s : Same H1 H2) : Keep b H H2 := k.trans (Keep.of s)
theorem ExAt.ins {H : Hp} {C a : Addr} {req lab nm : Str} (h : ExAt K H C a req lab nm) : ∃ dx fs, H a = some (.ins C dx fs) := let ⟨dx, _, _, e, _⟩ := h; ⟨dx, _, e⟩
theorem ExAt.only {H : Hp} {C a : Addr} {req lab nm : Str} (h : ExAt K H C a req lab nm) : ∀ (b D dy : Addr) (gs : List (Str × V)), V.ref a = .ref b → H b = some (.ins D dy gs) → D = C := by
  intro b D dy gs e hb
  injection e with e
  subst e
  obtain ⟨dx, fs, e⟩ := h.ins
  rw [e] at hb
  injection hb with hb
  injection hb with h1
  exact h1.symm
theorem part_eqv {req lab nm : Str} (h : PartOk req lab nm) : PyData.eqv (partD req lab nm) (partD req lab nm) = true := by
  obtain ⟨h1, h2, h3⟩ := h
  refine SeqAt.eqv_refl _ ?_
  show ((PyData.strOk req && (PyData.strOk lab && (PyData.strOk nm && true))) && true) = true
  rw [h1, h2, h3]
  rfl
theorem leaves_of {lab nm : Str} (h : lab ≠ "") : leavesOf lab nm = [(lab, nm)] := if_neg h
theorem writ_leaf {lab nm : Str} (h : lab ≠ "") : writ "" lab nm = lab ++ (":" : Str) ++ nm := if_neg h
/-- a capital and small letters behind it -/
theorem cap_of {c : Nat} {r : Str} (h : 65 ≤ c ∧ c ≤ 90) (h7 : r.length ≤ 7) (hr : within 97 122 (tl r) = true) : Cap (⟨#[c]⟩ ++ r) := ⟨c, tl r, by rw [tl_append]; rfl, h.1, h.2, hr, by rw [← len_tl]; exact h7⟩
theorem wrd_of {c : Nat} {r : Str} (h : 97 ≤ c ∧ c ≤ 122) (h7 : r.length ≤ 7) (hr : within 97 122 (tl r) = true) : Wrd (⟨#[c]⟩ ++ r) := by
  have l1 : (⟨#[c]⟩ ++ r : Str).length = 1 + r.length := len_app _ _
  refine ⟨?_, by omega, by omega⟩
  rw [tl_append, List.all_append]
  show ((low c && true) && (tl r).all low) = true
  rw [show (tl r).all low = true from hr]
  unfold low
  rw [decide_eq_true h.1, decide_eq_true h.2]
  rfl
theorem ExAt.at {H : Hp} {C a : Addr} {req lab nm : Str} (h : ExAt K H C a req lab nm) : ∃ dx pp ps, H a = some (.ins C dx (exF pp ps)) := let ⟨dx, pp, ps, e, _⟩ := h; ⟨dx, pp, ps, e⟩
theorem signs_e : signsOf "" = [] := if_pos rfl
theorem pairs_one {G : Hp} {p q : Addr} {x y : Str} (hp : G p = some (.tup [.str x, .str y])) (hq : G q = some (.lst [.ref p])) : PairsL G q [(x, y)] := ⟨[p], hq, .cons hp .nil⟩
theorem PairsL.same {H H' : Hp} {l : Addr} {ws : List (Str × Str)} (h : PairsL H l ws) (s : Same H H') : PairsL H' l ws := by
  obtain ⟨bs, h1, h2⟩ := h
  refine ⟨bs, s _ _ h1, ?_⟩
  clear h1
  induction h2 with
  | nil => exact .nil
  | cons h t ih => exact .cons (s _ _ h) ih
theorem SqT.updL {H : Hp} {a l : Addr} {xs ys : List V} {o : HO} (hl : H l = some (.lst xs)) (h : SqT K H a ys) : SqT K (upd H l o) a ys := by
  have go : ∀ u, H a = some u → (∀ zs, u ≠ .lst zs) → upd H l o a = some u := fun u e n => by
    rw [upd_ne fun q => by rw [q, hl] at e; injection e with e; exact n _ e.symm]
    exact e
  rcases h with (h | ⟨p, h⟩) | h
  · exact .inl (.inl (go _ h fun _ => by intro z; cases z))
  · exact .inl (.inr ⟨p, go _ h fun _ => by intro z; cases z⟩)
  · exact .inr h
theorem ExAt.updL {H : Hp} {C a l : Addr} {req lab nm : Str} {xs : List V} {o : HO} (hl : H l = some (.lst xs)) (h : ExAt K H C a req lab nm) : ExAt K (upd H l o) C a req lab nm := by
  obtain ⟨dx, pp, ps, ha, ⟨⟨p, p1, p2⟩, S⟩⟩ := h
  have go : ∀ b u, H b = some u → (∀ zs, u ≠ .lst zs) → upd H l o b = some u := fun b u e n => by
    rw [upd_ne fun q => by rw [q, hl] at e; injection e with e; exact n _ e.symm]
    exact e
  exact ⟨dx, pp, ps, go _ _ ha (fun _ => by intro z; cases z), ⟨⟨p, SqT.updL hl p1, go _ _ p2 (fun _ => by intro z; cases z)⟩, SqT.updL hl S⟩⟩
theorem shaped_nil : SeqAt.shaped (.list []) = true := by decide +kernel
theorem lst_new {p l : Addr} {G : Hp} {xs : List V} {o : HO} (hl : G l = some (.lst xs)) (hp : G p = none) : upd G p o l = some (.lst xs) := same_upd hp _ _ hl
theorem Keep.free {b l : Addr} {H H' : Hp} (k : Keep b H H') (n : H' l = none) (ne : l ≠ b) : H l = none := by
  cases e : H l with
  | none => rfl
  | some u => rw [k l u ne e] at n; cases n
def spLeafR : Sp := fun vs H Q _ => ∃ b : Addr, vs = [.ref b] ∧ BagAt H b ∧ ∀ H', Keep b H H' → BagAt H' b → Q (.bl true) H'
theorem ok_law_leaf_right {f C : Addr} {fd : FuncData} (F : Fun K "_law_leaf_right" "_law_leaf_right" s_law_leaf_right f fd) (T : Cst K mg) (hC : ExC K C) (gL : mg "Expression" = some (.ref C)) (nC : NeC K C)
    (Sl : OkS P w K mg base 3 C "leaf" ["label", "name"] (spLeaf K C)) (SlK : OkSK P w K mg base 3 C "leaf" ["label", "name"] ["name", "label"] (spLeaf K C)) (Cr : OkC0 P w K mg base 8 C "read" ["cls", "text"] (spRead K C))
    (Os : OkM CX0 P w K mg base 2 C "__str__" ["self"] (spStr K C)) (Ol : OkM CX0 P w K mg base 1 C "__len__" ["self"] (spLen K C)) (Oe : OkM CX0 P w K mg base 1 C "__eq__" ["self", "other"] (spEq K C))
    (O_leaves : OkM CX0 P w K mg base 1 C "leaves" ["self"] (spLeaves K C)) (O_signs : OkM CX0 P w K mg base 1 C "signs" ["self"] (spSigns K C))
    (O_law_of : Ok P w K mg base 2 "_law_of" ["bag", "some"] spOfS) (O_law_letters : Ok P w K mg base 3 "_law_letters" ["bag", "first", "many"] spLetters) (O_law_number : Ok P w K mg base 1 "_law_number" ["x", "due"] spNum) :
    FnOk P w K mg base CX0 9 f fd ["bag"] spLeafR := by
  refine F.ok sc_law_leaf_right (fun vs H Q E h => ?_) (fun cdv A outer s H vs Q E hr h => ?_)
  · obtain ⟨b, rfl, _⟩ := h
    rfl
  · obtain ⟨b, rfl, B, k⟩ := h
    refine ⟨_, (pss_cons (ps_set (i := 1) sc_law_leaf_right.nd rfl (Or.inl rfl) (pe_callO O_law_letters (hr.mono (by decide)) (pa_cons (pv 0) (pa_cons (pe_callO O_law_of (hr.mono (by decide)) (pa_cons (pv 0) (pa_cons pe_str pa_nil))) (pa_cons pe_int pa_nil)))))
    (pss_cons (ps_set (i := 2) sc_law_leaf_right.nd rfl (Or.inl rfl) (pe_callO O_law_letters (hr.mono (by decide)) (pa_cons (pv 0) (pa_cons (pe_callO O_law_of (hr.mono (by decide)) (pa_cons (pv 0) (pa_cons pe_str pa_nil))) (pa_cons pe_int pa_nil)))))
    (pss_cons (ps_par (i := 3) (j := 4) (by rfl) sc_law_leaf_right.nd rfl rfl (by decide) rfl rfl (pa_cons (pe_smethS (pe_glob (v := .ref C) rfl gL rfl) Sl (hr.mono (by decide)) (pa_cons (pv 1) (pa_cons (pv 2) pa_nil))) (pa_cons (pe_op op_add_str (pe_op op_add_str (pv 1) pe_str) (pv 2)) pa_nil)) (by rfl))
    (pss_cons (ps_set (i := 5) sc_law_leaf_right.nd rfl (Or.inl rfl) (pe_smethSK (pe_glob (v := .ref C) rfl gL rfl) SlK (hr.mono (by decide)) (pk_cons (pv 2) (pk_cons (pv 1) pk_nil))))
    (pss_cons (ps_set (i := 6) sc_law_leaf_right.nd rfl (Or.inl rfl) (pe_methO0 (pv 3) hC.cls O_leaves (hr.mono (by decide))))
    (pss_cons (ps_if (PW.pt (pw_or (pt_cmpR op_ne (pe_callTy (call_strO Os (hr.mono (by decide))) (by rfl) T.n_str (by decide +kernel) (pa_cons (pv 3) pa_nil)) (pv 4) (nomark _)) (pw_or (pt_not (pt_val (pe_callO O_law_number (hr.mono (by decide)) (pa_cons (pe_callB (call_lenO Ol (hr.mono (by decide))) (by rfl) T.n_len (by decide +kernel) (pa_cons (pv 3) pa_nil)) (pa_cons pe_int pa_nil))))) (pw_or1 (pt_cmpR (op_neD hr.units) (pv 6) (pe_lst (pa_cons (pe_tup (pa_cons (pv 1) (pa_cons (pv 2) pa_nil))) pa_nil)) (nomark _)))))) (pss_one (ps_ret pe_bl)) pss_nil)
    (pss_cons (ps_if (PW.pt (pw_or (pt_cmpR (op_neD hr.units) (pe_methO0 (pv 3) hC.cls O_signs (hr.mono (by decide))) (pe_lst pa_nil) (nomark _)) (pw_or (pt_not (pt_val (pe_callB call_isi (by rfl) T.n_isinstance (by decide +kernel) (pa_cons (pv 6) (pa_cons (pe_bltn (v := .ty "list") rfl T.n_list (by decide +kernel) rfl) pa_nil))))) (pw_or1 (pt_not (pt_val (pe_callB call_isi (by rfl) T.n_isinstance (by decide +kernel) (pa_cons (pe_ix ix_list (pv 6) pe_int (fun _ _ => rfl)) (pa_cons (pe_bltn (v := .ty "tuple") rfl T.n_tuple (by decide +kernel) rfl) pa_nil))))))))) (pss_one (ps_ret pe_bl)) pss_nil)
    (pss_cons (ps_expr (pe_bm PySem.F.plainAttrs_list PySem.F.slot_list_append PySem.F.type_list_append mt_append (pv 6) (pa_cons (pe_tup (pa_cons pe_str (pa_cons pe_str pa_nil))) pa_nil)))
    (pss_cons (ps_if (PW.pt (pw_or (pt_cmpR (op_neD hr.units) (pe_methO0 (pv 3) hC.cls O_leaves (hr.mono (by decide))) (pe_lst (pa_cons (pe_tup (pa_cons (pv 1) (pa_cons (pv 2) pa_nil))) pa_nil)) (nomark _)) (pw_or (pt_cmpR (op_neA Oe nC (hr.mono (by decide))) (pv 3) (pv 5) (nomark _)) (pw_or1 (pt_cmpR op_ne (pe_callTy (call_strO Os (hr.mono (by decide))) (by rfl) T.n_str (by decide +kernel) (pa_cons (pv 5) pa_nil)) (pv 4) (nomark _)))))) (pss_one (ps_ret pe_bl)) pss_nil)
    (pss_cons (ps_set (i := 7) sc_law_leaf_right.nd rfl (Or.inl rfl) (pe_cmethS (pe_glob (v := .ref C) rfl gL rfl) Cr (hr.mono (by decide)) (pa_cons (pv 4) pa_nil)))
    (pss_one (ps_ret (pe_and (pe_cmpR (op_eqA Oe (hr.mono (by decide))) (pv 7) (pv 3) (nomark _)) (pe_and (pe_cmpR op_eq (pe_callTy (call_strO Os (hr.mono (by decide))) (by rfl) T.n_str (by decide +kernel) (pa_cons (pv 7) pa_nil)) (pv 4) (nomark _)) (pe_and (pe_cmpR (op_eqD hr.units) (pe_methO0 (pv 7) hC.cls O_leaves (hr.mono (by decide))) (pe_lst (pa_cons (pe_tup (pa_cons (pv 1) (pa_cons (pv 2) pa_nil))) pa_nil)) (nomark _)) (pe_one (pe_cmpR op_eq (pe_callB (call_lenO Ol (hr.mono (by decide))) (by rfl) T.n_len (by decide +kernel) (pa_cons (pv 7) pa_nil)) pe_int (nomark _)))))))))))))))))), ?_⟩
    refine ⟨_, rfl, _, rfl, b, _, rfl, B, by decide +kernel, by decide +kernel, fun c1 H1 hc1 k1 B1 => ?_⟩
    refine ⟨b, _, 7, rfl, B1, by decide, by show 1 ≤ 1000; decide, fun r1 H2 k2 B2 l1 w1 => ?_⟩
    have ht : Wrd (⟨#[c1]⟩ ++ r1) := wrd_of (small_abc c1 hc1) l1 w1
    generalize (⟨#[c1]⟩ ++ r1 : Str) = tag at ht
    refine ⟨_, rfl, _, rfl, b, _, rfl, B2, by decide +kernel, by decide +kernel, fun c2 H3 hc2 k3 B3 => ?_⟩
    refine ⟨b, _, 7, rfl, B3, by decide, by show 1 ≤ 1000; decide, fun r2 H4 k4 B4 l2 w2 => ?_⟩
    have hk : Cap (⟨#[c2]⟩ ++ r2) := cap_of (big_abc c2 hc2) l2 w2
    generalize (⟨#[c2]⟩ ++ r2 : Str) = kind at hk
    have kk := (k1.trans k2).trans (k3.trans k4)
    clear k1 k2 k3 k4 B1 B2 B3 hc1 hc2 w1 w2 l1 l2
    have tl8 := ht.le
    have kl8 := hk.len.2
    have lc : (":" : Str).length = 1 := by decide +kernel
    have okp : PartOk "" tag kind := ⟨by decide +kernel, ht.ok, hk.ok⟩
    have shp : PartShort "" tag kind := ⟨by decide +kernel, by omega, by omega, hk.ne⟩
    have wl := writ_leaf (nm := kind) ht.ne
    have prs : ∀ x ∈ leavesOf tag kind, PyData.strOk x.1 = true ∧ PyData.strOk x.2 = true := fun x hx => by
      rw [leaves_of ht.ne] at hx
      rw [List.mem_singleton.mp hx]
      exact ⟨ht.ok, hk.ok⟩
    have linel : (tag ++ (":" : Str) ++ kind).length ≤ 1000 := by
      rw [len_app, len_app, lc]
      omega
    refine ⟨rfl, _, rfl, _, rfl, tag, kind, rfl, fun a1 G1 s1 n1 e1 => ?_⟩
    refine ⟨_, rfl, _, _, rfl, rfl, by rw [lc, sizeLine_eq]; omega, _, rfl, _, _, rfl, rfl, by rw [len_app, lc, sizeLine_eq]; omega, ?_⟩
    refine ⟨_, _, rfl, rfl, _, rfl, _, rfl, tag, kind, rfl, fun a2 G2 s2 n2 e2 => ?_⟩
    have e1 := e1.same s2
    obtain ⟨dx1, pp1, ps1, ha1⟩ := e1.at
    obtain ⟨dx2, pp2, ps2, ha2⟩ := e2.at
    refine ⟨_, rfl, a1, dx1, _, rfl, ha1, ex_no (by decide +kernel), a1, "", tag, kind, rfl, e1, fun l G3 s3 n3 P3 => ?_⟩
    have kk3 := kk.same (s1.trans (s2.trans s3))
    have B5 := B4.same (s1.trans (s2.trans s3))
    have e1 := e1.same s3
    have e2 := e2.same s3
    have ha1 := s3 _ _ ha1
    have ha2 := s3 _ _ ha2
    refine ⟨_, rfl, a1, dx1, _, rfl, ha1, a1, "", tag, kind, rfl, e1, shp, fun G4 s4 => ⟨_, rfl, _, rfl, rfl, _, rfl, ?_⟩⟩
    rw [wl, decide_eq_true rfl]
    refine iteF ⟨_, rfl, a1, dx1, _, rfl, s4 _ _ ha1, a1, "", tag, kind, rfl, e1.same s4, ⟨_, rfl, by decide, by decide, _, _, rfl, _, rfl, ?_⟩⟩
    rw [signs_e, show decide (((([] : List Str).length : Nat) : Int) = 0) = true from rfl]
    refine iteF ⟨_, rfl, _, rfl, _, rfl, by show 2 ≤ sizeLine; decide, fun p np => ⟨by show 1 ≤ sizeLine; decide, fun q nq => ?_⟩⟩
    have pq : upd (upd G4 p (.tup [.str tag, .str kind])) q (.lst [.ref p]) p = some (.tup [.str tag, .str kind]) := same_upd nq _ _ upd_same
    have qq : upd (upd G4 p (.tup [.str tag, .str kind])) q (.lst [.ref p]) q = some (.lst [.ref p]) := upd_same
    have s5 : Same G4 (upd (upd G4 p (.tup [.str tag, .str kind])) q (.lst [.ref p])) := (same_upd np).trans (same_upd nq)
    generalize upd (upd G4 p (.tup [.str tag, .str kind])) q (.lst [.ref p]) = G5 at pq qq s5
    have P5 := (P3.same s4).same s5
    refine ⟨_, _, dp_pairsL P5, dp_pairsL (pairs_one pq qq), pairs_shaped prs, pairs_shaped (by rw [← leaves_of ht.ne]; exact prs), _, rfl, ?_⟩
    rw [← leaves_of ht.ne, pairs_self prs]
    refine iteF ?_
    have s35 := s4.trans s5
    clear pq qq np nq P5
    obtain ⟨bs, hl, hb⟩ := P3
    rw [leaves_of ht.ne] at hb
    obtain ⟨b0, rfl, hb0⟩ : ∃ b0, bs = [b0] ∧ G3 b0 = some (.tup [.str tag, .str kind]) := by
      cases hb with
      | cons h t => cases t; exact ⟨_, rfl, h⟩
    have hl5 : G5 l = some (.lst [.ref b0]) := s35 _ _ hl
    refine ⟨_, rfl, a1, dx1, _, rfl, s35 _ _ ha1, ex_no (by decide +kernel), a1, "", tag, kind, rfl, e1.same s35, fun l6 G6 s6 n6 S6 => ⟨by show 0 ≤ sizeLine; decide, fun q nq => ?_⟩⟩
    have S6 : G6 l6 = some (.lst []) := by rw [show G6 l6 = _ from S6, signs_e]; rfl
    refine ⟨_, _, .lst (SqL.of (lst_new S6 nq)) .nil, .lst (SqL.of upd_same) .nil, shaped_nil, shaped_nil, _, rfl, iteF ?_⟩
    have s57 : Same G5 (upd G6 q (.lst [])) := s6.trans (same_upd nq)
    generalize upd G6 q (.lst []) = G7 at s57
    refine ⟨_, rfl, _, _, _, _, true, rfl, .ty "list", .base (.lst (s57 _ _ hl5)), kit_ty (by decide +kernel), _, rfl, iteF ?_⟩
    refine ⟨_, rfl, l, _, 0, _, rfl, rfl, SqL.of (s57 _ _ hl5), rfl, _, _, _, _, true, rfl, .ty "tuple", .base (.tup (s57 _ _ (s35 _ _ hb0))), kit_ty (by decide +kernel), _, rfl, iteF ?_⟩
    refine ⟨_, rfl, .inl ⟨rfl, _, SqL.of (s57 _ _ hl5)⟩, by show 2 ≤ sizeLine; decide, fun p np => ?_⟩
    have s58 := s57.trans (same_upd (o := .tup [.str "zz", .str "Zz"]) np)
    generalize upd G7 p (.tup [.str "zz", .str "Zz"]) = G8 at s58
    have hl8 := s58 _ _ hl5
    have nlH : H4 l = none := s1.free (s2.free n3)
    refine ⟨l, _, _, rfl, rfl, hl8, by show 1 < sizeLine; decide, ?_⟩
    have e1 := (e1.same (s35.trans s58)).updL (o := .lst ([V.ref b0] ++ [.ref p])) hl8
    have e2 := (e2.same (s35.trans s58)).updL (o := .lst ([V.ref b0] ++ [.ref p])) hl8
    have k9 : Keep b H (upd G8 l (.lst ([V.ref b0] ++ [.ref p]))) := keep_new (kk3.same (s35.trans s58)) (kk.free nlH (B4.ne nlH))
    have B9 : BagAt (upd G8 l (.lst ([V.ref b0] ++ [.ref p]))) b := (B5.same (s35.trans s58)).upd (B4.ne nlH)
    clear hl8 hl5 ha1 ha2 hb0 hl kk3 B5 np s58 s57 s6 nq S6
    generalize upd G8 l (.lst ([V.ref b0] ++ [.ref p])) = G9 at e1 e2 k9 B9
    obtain ⟨dx1, pp1, ps1, ha1⟩ := e1.at
    obtain ⟨dx2, pp2, ps2, ha2⟩ := e2.at
    refine ⟨_, rfl, a1, dx1, _, rfl, ha1, ex_no (by decide +kernel), a1, "", tag, kind, rfl, e1, fun l10 G10 s10 n10 P10 => ⟨_, rfl, _, rfl, by show 2 ≤ sizeLine; decide, fun p np => ⟨by show 1 ≤ sizeLine; decide, fun q nq => ?_⟩⟩⟩
    have pq : upd (upd G10 p (.tup [.str tag, .str kind])) q (.lst [.ref p]) p = some (.tup [.str tag, .str kind]) := same_upd nq _ _ upd_same
    have qq : upd (upd G10 p (.tup [.str tag, .str kind])) q (.lst [.ref p]) q = some (.lst [.ref p]) := upd_same
    have s11 : Same G10 (upd (upd G10 p (.tup [.str tag, .str kind])) q (.lst [.ref p])) := (same_upd np).trans (same_upd nq)
    generalize upd (upd G10 p (.tup [.str tag, .str kind])) q (.lst [.ref p]) = G11 at pq qq s11
    refine ⟨_, _, dp_pairsL (P10.same s11), dp_pairsL (pairs_one pq qq), pairs_shaped prs, pairs_shaped (by rw [← leaves_of ht.ne]; exact prs), _, rfl, ?_⟩
    rw [← leaves_of ht.ne, pairs_self prs]
    have s91 := s10.trans s11
    refine iteF ⟨_, rfl, _, rfl, a1, _, _, _, rfl, s91 _ _ ha1, .ins (s91 _ _ ha2), (e2.same s91).only, a1, a2, "", tag, kind, "", tag, kind, rfl, e1.same s91, e2.same s91, okp, okp, ⟨_, rfl, _, rfl, ?_⟩⟩
    rw [part_eqv okp]
    refine iteF ⟨_, rfl, a2, _, _, rfl, s91 _ _ ha2, a2, "", tag, kind, rfl, e2.same s91, shp, fun G12 s12 => ⟨_, rfl, _, rfl, rfl, _, rfl, ?_⟩⟩
    rw [wl, decide_eq_true rfl]
    refine iteF ⟨rfl, _, rfl, _, _, "", tag, kind, rfl, by omega, oper_leaf ht hk, fun a3 G13 s13 n13 e3 => ?_⟩
    have s93 := s91.trans (s12.trans s13)
    have ha1 := s93 _ _ ha1
    have e1 := e1.same s93
    obtain ⟨dx3, pp3, ps3, ha3⟩ := e3.at
    refine ⟨_, rfl, _, rfl, a3, _, _, _, rfl, ha3, .ins ha1, e1.only, a3, a1, "", tag, kind, "", tag, kind, rfl, e3, e1, okp, okp, ⟨_, rfl, _, rfl, ?_⟩⟩
    rw [part_eqv okp]
    refine iteT ⟨_, rfl, a3, _, _, rfl, ha3, a3, "", tag, kind, rfl, e3, shp, fun G14 s14 => ⟨_, rfl, _, rfl, rfl, _, rfl, ?_⟩⟩
    rw [wl, decide_eq_true rfl]
    refine iteT ⟨_, rfl, a3, dx3, _, rfl, s14 _ _ ha3, ex_no (by decide +kernel), a3, "", tag, kind, rfl, e3.same s14, fun l15 G15 s15 n15 P15 => ⟨_, rfl, _, rfl, by show 2 ≤ sizeLine; decide, fun p np => ⟨by show 1 ≤ sizeLine; decide, fun q nq => ?_⟩⟩⟩
    have pq : upd (upd G15 p (.tup [.str tag, .str kind])) q (.lst [.ref p]) p = some (.tup [.str tag, .str kind]) := same_upd nq _ _ upd_same
    have qq : upd (upd G15 p (.tup [.str tag, .str kind])) q (.lst [.ref p]) q = some (.lst [.ref p]) := upd_same
    have s16 : Same G15 (upd (upd G15 p (.tup [.str tag, .str kind])) q (.lst [.ref p])) := (same_upd np).trans (same_upd nq)
    generalize upd (upd G15 p (.tup [.str tag, .str kind])) q (.lst [.ref p]) = G16 at pq qq s16
    refine ⟨_, _, dp_pairsL (P15.same s16), dp_pairsL (pairs_one pq qq), pairs_shaped prs, pairs_shaped (by rw [← leaves_of ht.ne]; exact prs), _, rfl, ?_⟩
    rw [← leaves_of ht.ne, pairs_self prs]
    have s96 := s93.trans (s14.trans (s15.trans s16))
    have s36 := s14.trans (s15.trans s16)
    refine iteT ⟨_, rfl, a3, dx3, _, rfl, s36 _ _ ha3, a3, "", tag, kind, rfl, e3.same s36, ⟨_, rfl, by decide, by decide, rfl, ?_⟩⟩
    rw [signs_e, show decide (V.int (((([] : List Str).length : Nat)) : Int) = V.int 0) = true from decide_eq_true rfl]
    exact k _ (k9.same s96) (B9.same s96)
theorem writ_ask {req nm : Str} : writ req "" nm = nm ++ ("." : Str) ++ req := if_pos rfl
theorem signs_ask {req : Str} (h : req ≠ "") : signsOf req = [req] := if_neg h
theorem leaves_ask {nm : Str} : leavesOf "" nm = [] := if_pos rfl
theorem unary_s {z : Str} (h : unary.contains z = true) : Wrd (z ++ ("s" : Str)) ∧ unary.contains (z ++ ("s" : Str)) = false := by
  have key : ∀ z ∈ unary, ((tl (z ++ ("s" : Str))).all low = true ∧ 0 < (z ++ ("s" : Str)).length ∧ (z ++ ("s" : Str)).length ≤ 8) ∧ unary.contains (z ++ ("s" : Str)) = false := by decide +kernel
  obtain ⟨⟨a, b, c⟩, d⟩ := key z (List.contains_iff_mem.mp h)
  exact ⟨⟨a, b, c⟩, d⟩
def strsD (ws : List Str) : PyData := .list (ws.map PyData.str)
theorem dp_strs {K : Fg} {H : Hp} {l : Addr} {ws : List Str} (h : H l = some (.lst (ws.map V.str))) : Dp K H (.ref l) (strsD ws) := by
  refine .lst (SqL.of h) ?_
  clear h
  induction ws with
  | nil => exact .nil
  | cons w ws ih => exact .cons (.str _) ih
theorem one_shaped {z : Str} (h : PyData.strOk z = true) : SeqAt.shaped (strsD [z]) = true ∧ PyData.canLay0 (strsD [z]) = true := by
  have c : PyData.canLay0 (strsD [z]) = true := by
    show (PyData.strOk z && true) = true
    rw [h]
    rfl
  refine ⟨?_, c⟩
  unfold SeqAt.shaped
  rw [c, Bool.true_and]
  refine decide_eq_true ?_
  simp only [strsD, List.map, PyData.depth, PyData.depthAll]
  omega
theorem ok_law_asked_right {f C : Addr} {fd : FuncData} (F : Fun K "_law_asked_right" "_law_asked_right" s_law_asked_right f fd) (T : Cst K mg) (hC : ExC K C) (gL : mg "Expression" = some (.ref C)) (nC : NeC K C)
    (Sa : OkS P w K mg base 3 C "asked" ["name", "word"] (spAsked K C)) (SaK : OkSK P w K mg base 3 C "asked" ["name", "word"] ["word", "name"] (spAsked K C)) (CrK : OkCK P w K mg base 8 C "read" ["cls", "text"] ["text"] (spRead K C))
    (Os : OkM CX0 P w K mg base 2 C "__str__" ["self"] (spStr K C)) (Ol : OkM CX0 P w K mg base 1 C "__len__" ["self"] (spLen K C)) (Oe : OkM CX0 P w K mg base 1 C "__eq__" ["self", "other"] (spEq K C))
    (O_leaves : OkM CX0 P w K mg base 1 C "leaves" ["self"] (spLeaves K C)) (O_signs : OkM CX0 P w K mg base 1 C "signs" ["self"] (spSigns K C))
    (O_law_of : Ok P w K mg base 2 "_law_of" ["bag", "some"] spOfS) (O_law_letters : Ok P w K mg base 3 "_law_letters" ["bag", "first", "many"] spLetters) (O_law_number : Ok P w K mg base 1 "_law_number" ["x", "due"] spNum) :
    FnOk P w K mg base CX0 9 f fd ["bag"] spLeafR := by
  refine F.ok sc_law_asked_right (fun vs H Q E h => ?_) (fun cdv A outer s H vs Q E hr h => ?_)
  · obtain ⟨b, rfl, _⟩ := h
    rfl
  · obtain ⟨b, rfl, B, k⟩ := h
    refine ⟨_, (pss_cons (ps_set (i := 1) sc_law_asked_right.nd rfl (Or.inl rfl) (pe_callO O_law_letters (hr.mono (by decide)) (pa_cons (pv 0) (pa_cons (pe_callO O_law_of (hr.mono (by decide)) (pa_cons (pv 0) (pa_cons pe_str pa_nil))) (pa_cons pe_int pa_nil)))))
    (pss_cons (ps_mid (ps_if (pt_cmpR op_in_seq (pv 1) (pe_lst (pa_cons pe_str (pa_cons pe_str (pa_cons pe_str (pa_cons pe_str pa_nil))))) (by rfl)) (pss_one (ps_set (i := 1) sc_law_asked_right.nd rfl (Or.inl rfl) (pe_op op_add_str (pv 1) pe_str))) pss_nil))
    (pss_cons (ps_set (i := 2) sc_law_asked_right.nd rfl (Or.inl rfl) (pe_callO O_law_letters (hr.mono (by decide)) (pa_cons (pv 0) (pa_cons (pe_callO O_law_of (hr.mono (by decide)) (pa_cons (pv 0) (pa_cons pe_str pa_nil))) (pa_cons pe_int pa_nil)))))
    (pss_cons (ps_par (i := 3) (j := 4) (by rfl) sc_law_asked_right.nd rfl rfl (by decide) rfl rfl (pa_cons (pe_smethS (pe_glob (v := .ref C) rfl gL rfl) Sa (hr.mono (by decide)) (pa_cons (pv 2) (pa_cons (pv 1) pa_nil))) (pa_cons (pe_op op_add_str (pe_op op_add_str (pv 2) pe_str) (pv 1)) pa_nil)) (by rfl))
    (pss_cons (ps_set (i := 5) sc_law_asked_right.nd rfl (Or.inl rfl) (pe_methO0 (pv 3) hC.cls O_signs (hr.mono (by decide))))
    (pss_cons (ps_if (PW.pt (pw_or (pt_cmpR op_ne (pe_callTy (call_strO Os (hr.mono (by decide))) (by rfl) T.n_str (by decide +kernel) (pa_cons (pv 3) pa_nil)) (pv 4) (nomark _)) (pw_or (pt_not (pt_val (pe_callO O_law_number (hr.mono (by decide)) (pa_cons (pe_callB (call_lenO Ol (hr.mono (by decide))) (by rfl) T.n_len (by decide +kernel) (pa_cons (pv 3) pa_nil)) (pa_cons pe_int pa_nil))))) (pw_or (pt_cmpR (op_neD hr.units) (pv 5) (pe_lst (pa_cons (pv 1) pa_nil)) (nomark _)) (pw_or1 (pt_cmpR (op_neD hr.units) (pe_methO0 (pv 3) hC.cls O_leaves (hr.mono (by decide))) (pe_lst pa_nil) (nomark _))))))) (pss_one (ps_ret pe_bl)) pss_nil)
    (pss_cons (ps_expr (pe_bm0 PySem.F.plainAttrs_list PySem.F.slot_list_clear PySem.F.type_list_clear mt_clear (pv 5)))
    (pss_cons (ps_if (PW.pt (pw_or (pt_not (pt_val (pe_callB call_isi (by rfl) T.n_isinstance (by decide +kernel) (pa_cons (pv 5) (pa_cons (pe_bltn (v := .ty "list") rfl T.n_list (by decide +kernel) rfl) pa_nil))))) (pw_or (pt_cmpR (op_neD hr.units) (pe_methO0 (pv 3) hC.cls O_signs (hr.mono (by decide))) (pe_lst (pa_cons (pv 1) pa_nil)) (nomark _)) (pw_or1 (pt_cmpR (op_neA Oe nC (hr.mono (by decide))) (pe_smethSK (pe_glob (v := .ref C) rfl gL rfl) SaK (hr.mono (by decide)) (pk_cons (pv 1) (pk_cons (pv 2) pk_nil))) (pv 3) (nomark _)))))) (pss_one (ps_ret pe_bl)) pss_nil)
    (pss_cons (ps_set (i := 6) sc_law_asked_right.nd rfl (Or.inl rfl) (pe_cmethSK (pe_glob (v := .ref C) rfl gL rfl) CrK (hr.mono (by decide)) (pk_cons (pv 4) pk_nil)))
    (pss_one (ps_ret (pe_and (pe_cmpR (op_eqA Oe (hr.mono (by decide))) (pv 6) (pv 3) (nomark _)) (pe_and (pe_cmpR op_eq (pe_callTy (call_strO Os (hr.mono (by decide))) (by rfl) T.n_str (by decide +kernel) (pa_cons (pv 6) pa_nil)) (pv 4) (nomark _)) (pe_and (pe_cmpR (op_eqD hr.units) (pe_methO0 (pv 6) hC.cls O_signs (hr.mono (by decide))) (pe_lst (pa_cons (pv 1) pa_nil)) (nomark _)) (pe_one (pe_cmpR op_eq (pe_callB (call_lenO Ol (hr.mono (by decide))) (by rfl) T.n_len (by decide +kernel) (pa_cons (pv 6) pa_nil)) pe_int (nomark _))))))))))))))))), ?_⟩
    refine ⟨_, rfl, _, rfl, b, _, rfl, B, by decide +kernel, by decide +kernel, fun c1 H1 hc1 k1 B1 => ?_⟩
    refine ⟨b, _, 7, rfl, B1, by decide, by show 1 ≤ 1000; decide, fun r1 H2 k2 B2 l1 w1 => ?_⟩
    have ht : Wrd (⟨#[c1]⟩ ++ r1) := wrd_of (small_abc c1 hc1) l1 w1
    generalize (⟨#[c1]⟩ ++ r1 : Str) = ask0 at ht
    refine ⟨fun σ G => ∃ ask : Str, σ = [some (.ref b), some (.str ask), none, none, none, none, none] ∧ Wrd ask ∧ unary.contains ask = false ∧ Same H2 G, ?_, ?_⟩
    · refine ⟨_, rfl, by show 4 ≤ sizeLine; decide, fun l nl => ⟨l, _, rfl, .inl (SqL.of upd_same), rfl, rfl, _, rfl, ?_⟩⟩
      rw [show inV (.str ask0) [V.str "neg", V.str "pos", V.str "abs", V.str "invert"] = unary.contains ask0 from inV_strs ask0 unary]
      cases eu : unary.contains ask0 with
      | false => exact iteF ⟨ask0, rfl, ht, eu, same_upd nl⟩
      | true =>
        have h8 := ht.le
        exact iteT ⟨_, rfl, _, _, rfl, rfl, by rw [show ("s" : Str).length = 1 by decide +kernel, sizeLine_eq]; omega, _, rfl, (unary_s eu).1, (unary_s eu).2, same_upd nl⟩
    rintro σ H2' ⟨ask, rfl, ha, hu, sm⟩
    clear ht
    have k2 := k2.same sm
    have B2 := B2.same sm
    refine ⟨_, rfl, _, rfl, b, _, rfl, B2, by decide +kernel, by decide +kernel, fun c2 H3 hc2 k3 B3 => ?_⟩
    refine ⟨b, _, 7, rfl, B3, by decide, by show 1 ≤ 1000; decide, fun r2 H4 k4 B4 l2 w2 => ?_⟩
    have hk : Cap (⟨#[c2]⟩ ++ r2) := cap_of (big_abc c2 hc2) l2 w2
    generalize (⟨#[c2]⟩ ++ r2 : Str) = kind at hk
    have kk := (k1.trans k2).trans (k3.trans k4)
    clear k1 k2 k3 k4 B1 B2 B3 hc1 hc2 w1 w2 l1 l2 sm
    have tl8 := ha.le
    have kl8 := hk.len.2
    have lc : ("." : Str).length = 1 := by decide +kernel
    have okp : PartOk ask "" kind := ⟨ha.ok, by decide +kernel, hk.ok⟩
    have shp : PartShort ask "" kind := ⟨by omega, by decide +kernel, by omega, hk.ne⟩
    have wl := writ_ask (req := ask) (nm := kind)
    have sa := signs_ask ha.ne
    have sh1 := one_shaped ha.ok
    have linel : (kind ++ ("." : Str) ++ ask).length ≤ 1000 := by
      rw [len_app, len_app, lc]
      omega
    refine ⟨rfl, _, rfl, _, rfl, kind, ask, rfl, fun a1 G1 s1 n1 e1 => ?_⟩
    refine ⟨_, rfl, _, _, rfl, rfl, by rw [lc, sizeLine_eq]; omega, _, rfl, _, _, rfl, rfl, by rw [len_app, lc, sizeLine_eq]; omega, ?_⟩
    obtain ⟨dx1, pp1, ps1, ha1⟩ := e1.at
    refine ⟨_, _, rfl, _, rfl, a1, dx1, _, rfl, ha1, ex_no (by decide +kernel), a1, ask, "", kind, rfl, e1, fun l G3 s3 n3 P3 => ?_⟩
    have P3 : G3 l = some (.lst ([ask].map V.str)) := by rw [show G3 l = _ from P3, sa]
    have kk3 := kk.same (s1.trans s3)
    have B5 := B4.same (s1.trans s3)
    have e1 := e1.same s3
    have ha1 := s3 _ _ ha1
    refine ⟨_, rfl, a1, dx1, _, rfl, ha1, a1, ask, "", kind, rfl, e1, shp, fun G4 s4 => ⟨_, rfl, _, rfl, rfl, _, rfl, ?_⟩⟩
    rw [wl, decide_eq_true rfl]
    refine iteF ⟨_, rfl, a1, dx1, _, rfl, s4 _ _ ha1, a1, ask, "", kind, rfl, e1.same s4, ⟨_, rfl, by rw [sa]; show (0 : Int) ≤ 1; decide, by rw [sa]; show (1 : Int) < 2 ^ 63; decide, _, _, rfl, _, rfl, ?_⟩⟩
    rw [sa, show decide (((([ask] : List Str).length : Nat) : Int) = 1) = true from rfl]
    refine iteF ⟨_, rfl, _, rfl, by show 1 ≤ sizeLine; decide, fun q nq => ?_⟩
    have s5 : Same G4 (upd G4 q (.lst [.str ask])) := same_upd nq
    have qq : upd G4 q (.lst [.str ask]) q = some (.lst ([ask].map V.str)) := upd_same
    generalize upd G4 q (.lst [.str ask]) = G5 at qq s5
    refine ⟨_, _, dp_strs (s5 _ _ (s4 _ _ P3)), dp_strs qq, sh1.1, sh1.1, _, rfl, ?_⟩
    rw [SeqAt.eqv_refl _ sh1.2]
    have s35 := s4.trans s5
    refine iteF ⟨_, rfl, a1, dx1, _, rfl, s35 _ _ ha1, ex_no (by decide +kernel), a1, ask, "", kind, rfl, e1.same s35, fun l6 G6 s6 n6 P6 => ⟨by show 0 ≤ sizeLine; decide, fun q nq => ?_⟩⟩
    refine ⟨_, _, dp_pairsL (P6.same (same_upd nq)), .lst (SqL.of upd_same) .nil, by rw [leaves_ask]; exact shaped_nil, shaped_nil, _, rfl, ?_⟩
    rw [leaves_ask]
    refine iteF ?_
    have s57 : Same G5 (upd G6 q (.lst [])) := s6.trans (same_upd nq)
    clear nq P6
    generalize upd G6 q (.lst []) = G7 at s57
    have s37 := s35.trans s57
    have hl8 := s37 _ _ P3
    have nlH : H4 l = none := s1.free n3
    refine ⟨_, rfl, .inl ⟨rfl, _, SqL.of hl8⟩, l, _, rfl, rfl, hl8, ?_⟩
    have e1 := (e1.same s37).updL (o := .lst []) hl8
    have k9 : Keep b H (upd G7 l (.lst [])) := keep_new (kk3.same s37) (kk.free nlH (B4.ne nlH))
    have B9 : BagAt (upd G7 l (.lst [])) b := (B5.same s37).upd (B4.ne nlH)
    have hl9 : upd G7 l (.lst []) l = some (.lst []) := upd_same
    clear hl8 ha1 kk3 B5 s57 s6 qq s37 s35
    generalize upd G7 l (.lst []) = G9 at e1 k9 B9 hl9
    obtain ⟨dx1, pp1, ps1, ha1⟩ := e1.at
    refine ⟨_, rfl, _, _, _, _, true, rfl, .ty "list", .base (.lst hl9), kit_ty (by decide +kernel), _, rfl, iteF ?_⟩
    refine ⟨_, rfl, a1, dx1, _, rfl, ha1, ex_no (by decide +kernel), a1, ask, "", kind, rfl, e1, fun l10 G10 s10 n10 P10 => ⟨_, rfl, by show 1 ≤ sizeLine; decide, fun q nq => ?_⟩⟩
    have P10 : G10 l10 = some (.lst ([ask].map V.str)) := by rw [show G10 l10 = _ from P10, sa]
    have s11 : Same G10 (upd G10 q (.lst [.str ask])) := same_upd nq
    have qq : upd G10 q (.lst [.str ask]) q = some (.lst ([ask].map V.str)) := upd_same
    generalize upd G10 q (.lst [.str ask]) = G11 at qq s11
    refine ⟨_, _, dp_strs (s11 _ _ P10), dp_strs qq, sh1.1, sh1.1, _, rfl, ?_⟩
    rw [SeqAt.eqv_refl _ sh1.2]
    have s91 := s10.trans s11
    refine iteF ⟨rfl, _, rfl, _, rfl, kind, ask, rfl, fun a2 G12 s12 n12 e2 => ?_⟩
    have s92 := s91.trans s12
    have ha1 := s92 _ _ ha1
    have e1 := e1.same s92
    obtain ⟨dx2, pp2, ps2, ha2⟩ := e2.at
    refine ⟨_, rfl, a2, _, _, _, rfl, ha2, .ins ha1, e1.only, a2, a1, ask, "", kind, ask, "", kind, rfl, e2, e1, okp, okp, ⟨_, rfl, _, rfl, ?_⟩⟩
    rw [part_eqv okp]
    refine iteF ⟨rfl, _, rfl, _, _, ask, "", kind, rfl, by omega, oper_asked hk ha hu, fun a3 G13 s13 n13 e3 => ?_⟩
    have ha1 := s13 _ _ ha1
    have e1 := e1.same s13
    obtain ⟨dx3, pp3, ps3, ha3⟩ := e3.at
    refine ⟨_, rfl, _, rfl, a3, _, _, _, rfl, ha3, .ins ha1, e1.only, a3, a1, ask, "", kind, ask, "", kind, rfl, e3, e1, okp, okp, ⟨_, rfl, _, rfl, ?_⟩⟩
    rw [part_eqv okp]
    refine iteT ⟨_, rfl, a3, _, _, rfl, ha3, a3, ask, "", kind, rfl, e3, shp, fun G14 s14 => ⟨_, rfl, _, rfl, rfl, _, rfl, ?_⟩⟩
    rw [wl, decide_eq_true rfl]
    refine iteT ⟨_, rfl, a3, dx3, _, rfl, s14 _ _ ha3, ex_no (by decide +kernel), a3, ask, "", kind, rfl, e3.same s14, fun l15 G15 s15 n15 P15 => ⟨_, rfl, by show 1 ≤ sizeLine; decide, fun q nq => ?_⟩⟩
    have P15 : G15 l15 = some (.lst ([ask].map V.str)) := by rw [show G15 l15 = _ from P15, sa]
    have s16 : Same G15 (upd G15 q (.lst [.str ask])) := same_upd nq
    have qq : upd G15 q (.lst [.str ask]) q = some (.lst ([ask].map V.str)) := upd_same
    generalize upd G15 q (.lst [.str ask]) = G16 at qq s16
    refine ⟨_, _, dp_strs (s16 _ _ P15), dp_strs qq, sh1.1, sh1.1, _, rfl, ?_⟩
    rw [SeqAt.eqv_refl _ sh1.2]
    have s36 := s14.trans (s15.trans s16)
    have s96 := s92.trans (s13.trans s36)
    refine iteT ⟨_, rfl, a3, dx3, _, rfl, s36 _ _ ha3, a3, ask, "", kind, rfl, e3.same s36, ⟨_, rfl, by rw [sa]; show (0 : Int) ≤ 1; decide, by rw [sa]; show (1 : Int) < 2 ^ 63; decide, rfl, ?_⟩⟩
    rw [sa, show decide (V.int (((([ask] : List Str).length : Nat)) : Int) = V.int 1) = true from decide_eq_true rfl]
    exact k _ (k9.same s96) (B9.same s96)
end
end K31

namespace K31
open PySem PySem.Spec PyProof.Rows L2 EV TL LM
section
variable {P : Program} {w : World} {K : Fg} {mg : Str → Option Value} {base : Heap}
def spLaw (K : Fg) : Sp := fun vs H Q _ => ∃ (a : Addr) (ns : List Int), vs = [.ref a] ∧ SqL K H a (ns.map V.int) ∧ ns.length ≤ 63 ∧ ∀ H', Q (.bl true) H'
theorem ok_law {f : Addr} {fd : FuncData} (F : Fun K "law" "law" s_law f fd) (T : Cst K mg) (O_law_bag : Ok P w K mg base 1 "_law_bag" ["script", "at"] (spBag K))
    (O_law_leaf_right : Ok P w K mg base 9 "_law_leaf_right" ["bag"] spLeafR) (O_law_asked_right : Ok P w K mg base 9 "_law_asked_right" ["bag"] spLeafR) : FnOk P w K mg base CX0 10 f fd ["script"] (spLaw K) := by
  refine F.ok sc_law (fun vs H Q E h => ?_) (fun cdv A outer s H vs Q E hr h => ?_)
  · obtain ⟨a, ns, rfl, _⟩ := h
    rfl
  · obtain ⟨a, ns, rfl, hS, hlen, k⟩ := h
    refine ⟨_, (pss_cons (ps_for PassesOwn.never rfl (pi_range1 rfl T.n_range (pa_cons (pe_callB (call_max2 rfl) (by rfl) T.n_max (by decide +kernel) (pa_cons pe_int (pa_cons (pe_callB (call_min2 rfl) (by rfl) T.n_min (by decide +kernel) (pa_cons pe_int (pa_cons (pe_callB call_len_seq (by rfl) T.n_len (by decide +kernel) (pa_cons (pv 0) pa_nil)) pa_nil))) pa_nil))) pa_nil)) (pg_name (i := 1) sc_law.nd rfl (Or.inl rfl)) (pss_cons (ps_set (i := 2) sc_law.nd rfl (Or.inl rfl) (pe_callO O_law_bag (hr.mono (by decide)) (pa_cons (pv 0) (pa_cons (pv 1) pa_nil))))
    (pss_one (ps_for PassesOwn.never rfl (pi_range1 rfl T.n_range (pa_cons pe_int pa_nil)) (pg_name (i := 3) sc_law.nd rfl (Or.inl rfl)) (pss_one (ps_if (PW.pt (pw_or (pt_not (pt_val (pe_callO O_law_leaf_right (hr.mono (by decide)) (pa_cons (pv 2) pa_nil)))) (pw_or1 (pt_not (pt_val (pe_callO O_law_asked_right (hr.mono (by decide)) (pa_cons (pv 2) pa_nil))))))) (pss_one (ps_ret pe_bl)) pss_nil))))))
    (pss_one (ps_ret pe_bl))), ?_⟩
    have hN : ∀ m : Int, m = (if (ns.map V.int).length < (5 : Int) then ((ns.map V.int).length : Int) else 5) → 1 ≤ (if m > 1 then m else 1) ∧ (if m > 1 then m else 1) ≤ 5 := fun m hm => by
      have q : m ≤ 5 := by rw [hm]; split <;> omega
      split <;> omega
    obtain ⟨n1, n5⟩ := hN _ rfl
    refine ⟨_, rfl, a, _, rfl, .inl hS, _, _, rfl, _, _, rfl, _, rfl, by omega, by omega, ?_⟩
    refine for_range (lo := 0) (fun i σ G => Same H G ∧ ∃ u1 u2 u3 : Option V, σ = [some (.ref a), u1, u2, u3]) ⟨Same.refl _, none, none, none, rfl⟩ ?_ ?_
    · rintro i σ G hi ⟨S0, u1, u2, u3, rfl⟩
      refine ⟨_, rfl, _, rfl, a, ns, i, by simp, S0.seq hS, by omega, fun b G1 nb S1 B1 => ?_⟩
      have nbH : H b = none := S0.free nb
      have sH1 := S0.trans S1
      refine ⟨6, rfl, by decide, by decide, for_range (lo := 0) (n := 6) (fun j σ G2 => Keep b H G2 ∧ BagAt G2 b ∧ ∃ u : Option V, σ = [some (.ref a), some (.int (0 + (i : Nat))), some (.ref b), u]) ⟨Keep.of sH1, B1, u3, rfl⟩ ?_ ?_⟩
      · rintro j σ G2 hj ⟨k2, B2, u, rfl⟩
        refine ⟨_, rfl, b, rfl, B2, fun G3 k3 B3 => ⟨_, rfl, iteF ⟨_, rfl, b, rfl, B3, fun G4 k4 B4 => ⟨_, rfl, iteF ⟨(k2.trans k3).trans k4, B4, _, rfl⟩⟩⟩⟩⟩
      · rintro σ G2 ⟨k2, B2, u, rfl⟩
        exact ⟨fun p x z => k2 p x (fun e => by rw [e, nbH] at z; cases z) z, _, _, _, rfl⟩
    · rintro σ G ⟨S0, u1, u2, u3, rfl⟩
      exact k G
end
end K31

namespace K31
open PySem PySem.Spec PyProof.Rows L2 EV TL LM
abbrev veT : List Value := [.type "ValueError", .type "Exception", .type "BaseException", .type "object"]
abbrev leT : List Value := [.type "LookupError", .type "Exception", .type "BaseException", .type "object"]
/-- the values are these texts -/
def strsIn : List Value → List Str → Bool
  | [], [] => true
  | .str z _ :: us, w :: ws => z == w && strsIn us ws
  | _, _ => false
theorem strs_vals : ∀ {us : List Value} {ws : List Str}, strsIn us ws = true → Vals (ws.map V.str) us
  | [], [], _ => .nil
  | [], _ :: _, h => by simp [strsIn] at h
  | u :: us, [], h => by cases u <;> simp [strsIn] at h
  | u :: us, w :: ws, h => by
    cases u <;> simp [strsIn] at h
    obtain ⟨h1, h2⟩ := h
    subst h1
    exact .cons ⟨_, rfl⟩ (strs_vals h2)
theorem tupk_of {K : Fg} {a : Addr} {od : Option Addr} {its : Array Value} {n : Nat} {sl : Array (Option Value)} {ws : List Str} (l : K.lookup a = some ⟨.type "tuple", od, .seq its n, sl⟩) (o : strsIn its.toList ws = true) (hl : ws.length ≤ sizeLine) : TupK K a (ws.map V.str) := by
  have v := strs_vals o
  refine ⟨_, _, _, l, rfl, rfl, ?_, v⟩
  have := v.length
  rw [List.length_map] at this
  show its.toList.length ≤ _
  omega
theorem all_mk {l : PySem.W.OpenLaw} {w : World} {K : Fg} {h : Heap} {mg : Str → Option Value} {fa : Addr} (X : K.In h) (G : h.Ns mainGlobals mg) (hfa : mg "law" = some (.ref fa))
    {C_Phrase g_Phrase__letter g_Phrase__is_between g_Phrase__skip_small g_Phrase__take g_Phrase__take_word g_Phrase__take_class g_Phrase__take_request g_Phrase__take_start g_Phrase_take_all g_Phrase___init__ C_Expression g_Expression___init__ g_Expression_signs g_Expression___len__ g_Expression___eq__ g__written g_Expression___str__ g_Expression_leaf p_Expression_leaf g_Expression_asked p_Expression_asked g__checked g_Expression_read p_Expression_read g_Expression_leaves g__law_take g__law_bag g__law_of g__law_letters g__law_number g__law_leaf_right g__law_asked_right g_law v_BINARY_SIGNSA v_UNARY_SIGNSA : Addr}
    {od_Phrase__letter an_Phrase__letter od_Phrase__is_between an_Phrase__is_between od_Phrase__skip_small an_Phrase__skip_small od_Phrase__take an_Phrase__take od_Phrase__take_word an_Phrase__take_word od_Phrase__take_class an_Phrase__take_class od_Phrase__take_request an_Phrase__take_request od_Phrase__take_start an_Phrase__take_start od_Phrase_take_all an_Phrase_take_all od_Phrase___init__ an_Phrase___init__ od_Expression___init__ an_Expression___init__ od_Expression_signs an_Expression_signs od_Expression___len__ an_Expression___len__ od_Expression___eq__ an_Expression___eq__ od__written an__written od_Expression___str__ an_Expression___str__ od_Expression_leaf an_Expression_leaf od_Expression_asked an_Expression_asked od__checked an__checked od_Expression_read an_Expression_read od_Expression_leaves an_Expression_leaves od__law_take an__law_take od__law_bag an__law_bag od__law_of an__law_of od__law_letters an__law_letters od__law_number an__law_number od__law_leaf_right an__law_leaf_right od__law_asked_right an__law_asked_right od_law an_law od_BINARY_SIGNS od_UNARY_SIGNS : Option Addr}
    {sl_Phrase__letter sl_Phrase__is_between sl_Phrase__skip_small sl_Phrase__take sl_Phrase__take_word sl_Phrase__take_class sl_Phrase__take_request sl_Phrase__take_start sl_Phrase_take_all sl_Phrase___init__ sl_Expression___init__ sl_Expression_signs sl_Expression___len__ sl_Expression___eq__ sl__written sl_Expression___str__ sl_Expression_leaf sl_Expression_asked sl__checked sl_Expression_read sl_Expression_leaves sl__law_take sl__law_bag sl__law_of sl__law_letters sl__law_number sl__law_leaf_right sl__law_asked_right sl_law sl_BINARY_SIGNS sl_UNARY_SIGNS : Array (Option Value)}
    {oc_Phrase__letter dc_Phrase__letter pm_Phrase__letter cd_Phrase__letter ct_Phrase__letter kV_Phrase__letter oc_Phrase__is_between dc_Phrase__is_between pm_Phrase__is_between cd_Phrase__is_between ct_Phrase__is_between kV_Phrase__is_between oc_Phrase__skip_small dc_Phrase__skip_small pm_Phrase__skip_small cd_Phrase__skip_small ct_Phrase__skip_small kV_Phrase__skip_small oc_Phrase__take dc_Phrase__take pm_Phrase__take cd_Phrase__take ct_Phrase__take kV_Phrase__take oc_Phrase__take_word dc_Phrase__take_word pm_Phrase__take_word cd_Phrase__take_word ct_Phrase__take_word kV_Phrase__take_word oc_Phrase__take_class dc_Phrase__take_class pm_Phrase__take_class cd_Phrase__take_class ct_Phrase__take_class kV_Phrase__take_class oc_Phrase__take_request dc_Phrase__take_request pm_Phrase__take_request cd_Phrase__take_request ct_Phrase__take_request kV_Phrase__take_request oc_Phrase__take_start dc_Phrase__take_start pm_Phrase__take_start cd_Phrase__take_start ct_Phrase__take_start kV_Phrase__take_start oc_Phrase_take_all dc_Phrase_take_all pm_Phrase_take_all cd_Phrase_take_all ct_Phrase_take_all kV_Phrase_take_all oc_Phrase___init__ dc_Phrase___init__ pm_Phrase___init__ cd_Phrase___init__ ct_Phrase___init__ kV_Phrase___init__ oc_Expression___init__ dc_Expression___init__ pm_Expression___init__ cd_Expression___init__ ct_Expression___init__ kV_Expression___init__ oc_Expression_signs dc_Expression_signs pm_Expression_signs cd_Expression_signs ct_Expression_signs kV_Expression_signs oc_Expression___len__ dc_Expression___len__ pm_Expression___len__ cd_Expression___len__ ct_Expression___len__ kV_Expression___len__ oc_Expression___eq__ dc_Expression___eq__ pm_Expression___eq__ cd_Expression___eq__ ct_Expression___eq__ kV_Expression___eq__ oc__written dc__written pm__written cd__written ct__written kV__written oc_Expression___str__ dc_Expression___str__ pm_Expression___str__ cd_Expression___str__ ct_Expression___str__ kV_Expression___str__ oc_Expression_leaf dc_Expression_leaf pm_Expression_leaf cd_Expression_leaf ct_Expression_leaf kV_Expression_leaf oc_Expression_asked dc_Expression_asked pm_Expression_asked cd_Expression_asked ct_Expression_asked kV_Expression_asked oc__checked dc__checked pm__checked cd__checked ct__checked kV__checked oc_Expression_read dc_Expression_read pm_Expression_read cd_Expression_read ct_Expression_read kV_Expression_read oc_Expression_leaves dc_Expression_leaves pm_Expression_leaves cd_Expression_leaves ct_Expression_leaves kV_Expression_leaves oc__law_take dc__law_take pm__law_take cd__law_take ct__law_take kV__law_take oc__law_bag dc__law_bag pm__law_bag cd__law_bag ct__law_bag kV__law_bag oc__law_of dc__law_of pm__law_of cd__law_of ct__law_of kV__law_of oc__law_letters dc__law_letters pm__law_letters cd__law_letters ct__law_letters kV__law_letters oc__law_number dc__law_number pm__law_number cd__law_number ct__law_number kV__law_number oc__law_leaf_right dc__law_leaf_right pm__law_leaf_right cd__law_leaf_right ct__law_leaf_right kV__law_leaf_right oc__law_asked_right dc__law_asked_right pm__law_asked_right cd__law_asked_right ct__law_asked_right kV__law_asked_right oc_law dc_law pm_law cd_law ct_law kV_law : Value}
    {rs_Expression_leaf rs_Expression_asked rs_Expression_read : List Value}
    {it_BINARY_SIGNS it_UNARY_SIGNS : Array Value}
    {t_LONGEST_NAME t_MOST_OPENED t_MOST_STEPS n_BINARY_SIGNS n_UNARY_SIGNS : Nat}
    (a_Phrase : PySem.W.nsIn K mainGlobals "Phrase" = some (some (.ref C_Phrase)))
    (a_Expression : PySem.W.nsIn K mainGlobals "Expression" = some (some (.ref C_Expression)))
    (a__written : PySem.W.nsIn K mainGlobals "_written" = some (some (.ref g__written)))
    (a__checked : PySem.W.nsIn K mainGlobals "_checked" = some (some (.ref g__checked)))
    (a__law_take : PySem.W.nsIn K mainGlobals "_law_take" = some (some (.ref g__law_take)))
    (a__law_bag : PySem.W.nsIn K mainGlobals "_law_bag" = some (some (.ref g__law_bag)))
    (a__law_of : PySem.W.nsIn K mainGlobals "_law_of" = some (some (.ref g__law_of)))
    (a__law_letters : PySem.W.nsIn K mainGlobals "_law_letters" = some (some (.ref g__law_letters)))
    (a__law_number : PySem.W.nsIn K mainGlobals "_law_number" = some (some (.ref g__law_number)))
    (a__law_leaf_right : PySem.W.nsIn K mainGlobals "_law_leaf_right" = some (some (.ref g__law_leaf_right)))
    (a__law_asked_right : PySem.W.nsIn K mainGlobals "_law_asked_right" = some (some (.ref g__law_asked_right)))
    (a_law : PySem.W.nsIn K mainGlobals "law" = some (some (.ref g_law)))
    (v_LONGEST_NAME : PySem.W.nsIn K mainGlobals "LONGEST_NAME" = some (some (.int 8 t_LONGEST_NAME)))
    (v_MOST_OPENED : PySem.W.nsIn K mainGlobals "MOST_OPENED" = some (some (.int 100 t_MOST_OPENED)))
    (v_MOST_STEPS : PySem.W.nsIn K mainGlobals "MOST_STEPS" = some (some (.int 100 t_MOST_STEPS)))
    (v_BINARY_SIGNS : PySem.W.nsIn K mainGlobals "BINARY_SIGNS" = some (some (.ref v_BINARY_SIGNSA)))
    (v_UNARY_SIGNS : PySem.W.nsIn K mainGlobals "UNARY_SIGNS" = some (some (.ref v_UNARY_SIGNSA)))
    (z_isinstance : PySem.W.nsIn K mainGlobals "isinstance" = some none)
    (z_list : PySem.W.nsIn K mainGlobals "list" = some none)
    (z_tuple : PySem.W.nsIn K mainGlobals "tuple" = some none)
    (z_int : PySem.W.nsIn K mainGlobals "int" = some none)
    (z_str : PySem.W.nsIn K mainGlobals "str" = some none)
    (z_bool : PySem.W.nsIn K mainGlobals "bool" = some none)
    (z_len : PySem.W.nsIn K mainGlobals "len" = some none)
    (z_abs : PySem.W.nsIn K mainGlobals "abs" = some none)
    (z_max : PySem.W.nsIn K mainGlobals "max" = some none)
    (z_min : PySem.W.nsIn K mainGlobals "min" = some none)
    (z_range : PySem.W.nsIn K mainGlobals "range" = some none)
    (z_enumerate : PySem.W.nsIn K mainGlobals "enumerate" = some none)
    (z_all : PySem.W.nsIn K mainGlobals "all" = some none)
    (z_ValueError : PySem.W.nsIn K mainGlobals "ValueError" = some none)
    (z_LookupError : PySem.W.nsIn K mainGlobals "LookupError" = some none)
    (z_KeyError : PySem.W.nsIn K mainGlobals "KeyError" = some none)
    (z_IndexError : PySem.W.nsIn K mainGlobals "IndexError" = some none)
    (sa_Phrase : PySem.W.findIn K (.ref C_Phrase) "__setattr__" = some (some (.builtin "object.__setattr__")))
    (nA_Phrase_0 : PySem.W.findIn K (.ref C_Phrase) "_text" = some none)
    (nA_Phrase_1 : PySem.W.findIn K (.ref C_Phrase) "_at" = some none)
    (nA_Phrase_2 : PySem.W.findIn K (.ref C_Phrase) "_waiting" = some none)
    (nA_Phrase_3 : PySem.W.findIn K (.ref C_Phrase) "_found" = some none)
    (m_Phrase__letter : PySem.W.findIn K (.ref C_Phrase) "_letter" = some (some (.ref g_Phrase__letter)))
    (m_Phrase__is_between : PySem.W.findIn K (.ref C_Phrase) "_is_between" = some (some (.ref g_Phrase__is_between)))
    (m_Phrase__skip_small : PySem.W.findIn K (.ref C_Phrase) "_skip_small" = some (some (.ref g_Phrase__skip_small)))
    (m_Phrase__take : PySem.W.findIn K (.ref C_Phrase) "_take" = some (some (.ref g_Phrase__take)))
    (m_Phrase__take_word : PySem.W.findIn K (.ref C_Phrase) "_take_word" = some (some (.ref g_Phrase__take_word)))
    (m_Phrase__take_class : PySem.W.findIn K (.ref C_Phrase) "_take_class" = some (some (.ref g_Phrase__take_class)))
    (m_Phrase__take_request : PySem.W.findIn K (.ref C_Phrase) "_take_request" = some (some (.ref g_Phrase__take_request)))
    (m_Phrase__take_start : PySem.W.findIn K (.ref C_Phrase) "_take_start" = some (some (.ref g_Phrase__take_start)))
    (m_Phrase_take_all : PySem.W.findIn K (.ref C_Phrase) "take_all" = some (some (.ref g_Phrase_take_all)))
    (i_Phrase___init__ : PySem.W.findIn K (.ref C_Phrase) "__init__" = some (some (.ref g_Phrase___init__)))
    (sa_Expression : PySem.W.findIn K (.ref C_Expression) "__setattr__" = some (some (.builtin "object.__setattr__")))
    (nA_Expression_0 : PySem.W.findIn K (.ref C_Expression) "_parts" = some none)
    (nA_Expression_1 : PySem.W.findIn K (.ref C_Expression) "_signs" = some none)
    (i_Expression___init__ : PySem.W.findIn K (.ref C_Expression) "__init__" = some (some (.ref g_Expression___init__)))
    (m_Expression_signs : PySem.W.findIn K (.ref C_Expression) "signs" = some (some (.ref g_Expression_signs)))
    (m_Expression___len__ : PySem.W.findIn K (.ref C_Expression) "__len__" = some (some (.ref g_Expression___len__)))
    (haI_Expression : PySem.W.findIn K (.ref C_Expression) "__class__" = some (some (.builtin "object.__class__")))
    (m_Expression___eq__ : PySem.W.findIn K (.ref C_Expression) "__eq__" = some (some (.ref g_Expression___eq__)))
    (m_Expression___str__ : PySem.W.findIn K (.ref C_Expression) "__str__" = some (some (.ref g_Expression___str__)))
    (fc_Expression_leaf : PySem.W.findCls K (.ref C_Expression) (.type "type") "leaf" = some (.get (.builtin "staticmethod.__get__") (.ref p_Expression_leaf) .none (.ref C_Expression)))
    (fc_Expression_asked : PySem.W.findCls K (.ref C_Expression) (.type "type") "asked" = some (.get (.builtin "staticmethod.__get__") (.ref p_Expression_asked) .none (.ref C_Expression)))
    (fc_Expression_read : PySem.W.findCls K (.ref C_Expression) (.type "type") "read" = some (.get (.builtin "classmethod.__get__") (.ref p_Expression_read) .none (.ref C_Expression)))
    (m_Expression_leaves : PySem.W.findIn K (.ref C_Expression) "leaves" = some (some (.ref g_Expression_leaves)))
    (ne_Expression : PySem.W.findIn K (.ref C_Expression) "__ne__" = some (some (.builtin "object.__ne__")))
    (rc_Expression_leaf : PySem.W.recIn K p_Expression_leaf "staticmethod" = some (.ref g_Expression_leaf :: rs_Expression_leaf))
    (rc_Expression_asked : PySem.W.recIn K p_Expression_asked "staticmethod" = some (.ref g_Expression_asked :: rs_Expression_asked))
    (rc_Expression_read : PySem.W.recIn K p_Expression_read "classmethod" = some (.ref g_Expression_read :: rs_Expression_read))
    (l_Phrase__letter : K.lookup g_Phrase__letter = some ⟨oc_Phrase__letter, od_Phrase__letter, .func (PySem.W.fnOf "_letter" "Phrase._letter" (defArgs s_Phrase__letter) (defBody s_Phrase__letter) (defScope s_Phrase__letter) .none kV_Phrase__letter dc_Phrase__letter pm_Phrase__letter an_Phrase__letter cd_Phrase__letter ct_Phrase__letter), sl_Phrase__letter⟩)
    (l_Phrase__is_between : K.lookup g_Phrase__is_between = some ⟨oc_Phrase__is_between, od_Phrase__is_between, .func (PySem.W.fnOf "_is_between" "Phrase._is_between" (defArgs s_Phrase__is_between) (defBody s_Phrase__is_between) (defScope s_Phrase__is_between) .none kV_Phrase__is_between dc_Phrase__is_between pm_Phrase__is_between an_Phrase__is_between cd_Phrase__is_between ct_Phrase__is_between), sl_Phrase__is_between⟩)
    (l_Phrase__skip_small : K.lookup g_Phrase__skip_small = some ⟨oc_Phrase__skip_small, od_Phrase__skip_small, .func (PySem.W.fnOf "_skip_small" "Phrase._skip_small" (defArgs s_Phrase__skip_small) (defBody s_Phrase__skip_small) (defScope s_Phrase__skip_small) .none kV_Phrase__skip_small dc_Phrase__skip_small pm_Phrase__skip_small an_Phrase__skip_small cd_Phrase__skip_small ct_Phrase__skip_small), sl_Phrase__skip_small⟩)
    (l_Phrase__take : K.lookup g_Phrase__take = some ⟨oc_Phrase__take, od_Phrase__take, .func (PySem.W.fnOf "_take" "Phrase._take" (defArgs s_Phrase__take) (defBody s_Phrase__take) (defScope s_Phrase__take) .none kV_Phrase__take dc_Phrase__take pm_Phrase__take an_Phrase__take cd_Phrase__take ct_Phrase__take), sl_Phrase__take⟩)
    (l_Phrase__take_word : K.lookup g_Phrase__take_word = some ⟨oc_Phrase__take_word, od_Phrase__take_word, .func (PySem.W.fnOf "_take_word" "Phrase._take_word" (defArgs s_Phrase__take_word) (defBody s_Phrase__take_word) (defScope s_Phrase__take_word) .none kV_Phrase__take_word dc_Phrase__take_word pm_Phrase__take_word an_Phrase__take_word cd_Phrase__take_word ct_Phrase__take_word), sl_Phrase__take_word⟩)
    (l_Phrase__take_class : K.lookup g_Phrase__take_class = some ⟨oc_Phrase__take_class, od_Phrase__take_class, .func (PySem.W.fnOf "_take_class" "Phrase._take_class" (defArgs s_Phrase__take_class) (defBody s_Phrase__take_class) (defScope s_Phrase__take_class) .none kV_Phrase__take_class dc_Phrase__take_class pm_Phrase__take_class an_Phrase__take_class cd_Phrase__take_class ct_Phrase__take_class), sl_Phrase__take_class⟩)
    (l_Phrase__take_request : K.lookup g_Phrase__take_request = some ⟨oc_Phrase__take_request, od_Phrase__take_request, .func (PySem.W.fnOf "_take_request" "Phrase._take_request" (defArgs s_Phrase__take_request) (defBody s_Phrase__take_request) (defScope s_Phrase__take_request) .none kV_Phrase__take_request dc_Phrase__take_request pm_Phrase__take_request an_Phrase__take_request cd_Phrase__take_request ct_Phrase__take_request), sl_Phrase__take_request⟩)
    (l_Phrase__take_start : K.lookup g_Phrase__take_start = some ⟨oc_Phrase__take_start, od_Phrase__take_start, .func (PySem.W.fnOf "_take_start" "Phrase._take_start" (defArgs s_Phrase__take_start) (defBody s_Phrase__take_start) (defScope s_Phrase__take_start) .none kV_Phrase__take_start dc_Phrase__take_start pm_Phrase__take_start an_Phrase__take_start cd_Phrase__take_start ct_Phrase__take_start), sl_Phrase__take_start⟩)
    (l_Phrase_take_all : K.lookup g_Phrase_take_all = some ⟨oc_Phrase_take_all, od_Phrase_take_all, .func (PySem.W.fnOf "take_all" "Phrase.take_all" (defArgs s_Phrase_take_all) (defBody s_Phrase_take_all) (defScope s_Phrase_take_all) .none kV_Phrase_take_all dc_Phrase_take_all pm_Phrase_take_all an_Phrase_take_all cd_Phrase_take_all ct_Phrase_take_all), sl_Phrase_take_all⟩)
    (l_Phrase___init__ : K.lookup g_Phrase___init__ = some ⟨oc_Phrase___init__, od_Phrase___init__, .func (PySem.W.fnOf "__init__" "Phrase.__init__" (defArgs s_Phrase___init__) (defBody s_Phrase___init__) (defScope s_Phrase___init__) .none kV_Phrase___init__ dc_Phrase___init__ pm_Phrase___init__ an_Phrase___init__ cd_Phrase___init__ ct_Phrase___init__), sl_Phrase___init__⟩)
    (l_Expression___init__ : K.lookup g_Expression___init__ = some ⟨oc_Expression___init__, od_Expression___init__, .func (PySem.W.fnOf "__init__" "Expression.__init__" (defArgs s_Expression___init__) (defBody s_Expression___init__) (defScope s_Expression___init__) .none kV_Expression___init__ dc_Expression___init__ pm_Expression___init__ an_Expression___init__ cd_Expression___init__ ct_Expression___init__), sl_Expression___init__⟩)
    (l_Expression_signs : K.lookup g_Expression_signs = some ⟨oc_Expression_signs, od_Expression_signs, .func (PySem.W.fnOf "signs" "Expression.signs" (defArgs s_Expression_signs) (defBody s_Expression_signs) (defScope s_Expression_signs) .none kV_Expression_signs dc_Expression_signs pm_Expression_signs an_Expression_signs cd_Expression_signs ct_Expression_signs), sl_Expression_signs⟩)
    (l_Expression___len__ : K.lookup g_Expression___len__ = some ⟨oc_Expression___len__, od_Expression___len__, .func (PySem.W.fnOf "__len__" "Expression.__len__" (defArgs s_Expression___len__) (defBody s_Expression___len__) (defScope s_Expression___len__) .none kV_Expression___len__ dc_Expression___len__ pm_Expression___len__ an_Expression___len__ cd_Expression___len__ ct_Expression___len__), sl_Expression___len__⟩)
    (l_Expression___eq__ : K.lookup g_Expression___eq__ = some ⟨oc_Expression___eq__, od_Expression___eq__, .func (PySem.W.fnOf "__eq__" "Expression.__eq__" (defArgs s_Expression___eq__) (defBody s_Expression___eq__) (defScope s_Expression___eq__) .none kV_Expression___eq__ dc_Expression___eq__ pm_Expression___eq__ an_Expression___eq__ cd_Expression___eq__ ct_Expression___eq__), sl_Expression___eq__⟩)
    (l__written : K.lookup g__written = some ⟨oc__written, od__written, .func (PySem.W.fnOf "_written" "_written" (defArgs s_written) (defBody s_written) (defScope s_written) .none kV__written dc__written pm__written an__written cd__written ct__written), sl__written⟩)
    (l_Expression___str__ : K.lookup g_Expression___str__ = some ⟨oc_Expression___str__, od_Expression___str__, .func (PySem.W.fnOf "__str__" "Expression.__str__" (defArgs s_Expression___str__) (defBody s_Expression___str__) (defScope s_Expression___str__) .none kV_Expression___str__ dc_Expression___str__ pm_Expression___str__ an_Expression___str__ cd_Expression___str__ ct_Expression___str__), sl_Expression___str__⟩)
    (l_Expression_leaf : K.lookup g_Expression_leaf = some ⟨oc_Expression_leaf, od_Expression_leaf, .func (PySem.W.fnOf "leaf" "Expression.leaf" (defArgs s_Expression_leaf) (defBody s_Expression_leaf) (defScope s_Expression_leaf) .none kV_Expression_leaf dc_Expression_leaf pm_Expression_leaf an_Expression_leaf cd_Expression_leaf ct_Expression_leaf), sl_Expression_leaf⟩)
    (l_Expression_asked : K.lookup g_Expression_asked = some ⟨oc_Expression_asked, od_Expression_asked, .func (PySem.W.fnOf "asked" "Expression.asked" (defArgs s_Expression_asked) (defBody s_Expression_asked) (defScope s_Expression_asked) .none kV_Expression_asked dc_Expression_asked pm_Expression_asked an_Expression_asked cd_Expression_asked ct_Expression_asked), sl_Expression_asked⟩)
    (l__checked : K.lookup g__checked = some ⟨oc__checked, od__checked, .func (PySem.W.fnOf "_checked" "_checked" (defArgs s_checked) (defBody s_checked) (defScope s_checked) .none kV__checked dc__checked pm__checked an__checked cd__checked ct__checked), sl__checked⟩)
    (l_Expression_read : K.lookup g_Expression_read = some ⟨oc_Expression_read, od_Expression_read, .func (PySem.W.fnOf "read" "Expression.read" (defArgs s_Expression_read) (defBody s_Expression_read) (defScope s_Expression_read) .none kV_Expression_read dc_Expression_read pm_Expression_read an_Expression_read cd_Expression_read ct_Expression_read), sl_Expression_read⟩)
    (l_Expression_leaves : K.lookup g_Expression_leaves = some ⟨oc_Expression_leaves, od_Expression_leaves, .func (PySem.W.fnOf "leaves" "Expression.leaves" (defArgs s_Expression_leaves) (defBody s_Expression_leaves) (defScope s_Expression_leaves) .none kV_Expression_leaves dc_Expression_leaves pm_Expression_leaves an_Expression_leaves cd_Expression_leaves ct_Expression_leaves), sl_Expression_leaves⟩)
    (l__law_take : K.lookup g__law_take = some ⟨oc__law_take, od__law_take, .func (PySem.W.fnOf "_law_take" "_law_take" (defArgs s_law_take) (defBody s_law_take) (defScope s_law_take) .none kV__law_take dc__law_take pm__law_take an__law_take cd__law_take ct__law_take), sl__law_take⟩)
    (l__law_bag : K.lookup g__law_bag = some ⟨oc__law_bag, od__law_bag, .func (PySem.W.fnOf "_law_bag" "_law_bag" (defArgs s_law_bag) (defBody s_law_bag) (defScope s_law_bag) .none kV__law_bag dc__law_bag pm__law_bag an__law_bag cd__law_bag ct__law_bag), sl__law_bag⟩)
    (l__law_of : K.lookup g__law_of = some ⟨oc__law_of, od__law_of, .func (PySem.W.fnOf "_law_of" "_law_of" (defArgs s_law_of) (defBody s_law_of) (defScope s_law_of) .none kV__law_of dc__law_of pm__law_of an__law_of cd__law_of ct__law_of), sl__law_of⟩)
    (l__law_letters : K.lookup g__law_letters = some ⟨oc__law_letters, od__law_letters, .func (PySem.W.fnOf "_law_letters" "_law_letters" (defArgs s_law_letters) (defBody s_law_letters) (defScope s_law_letters) .none kV__law_letters dc__law_letters pm__law_letters an__law_letters cd__law_letters ct__law_letters), sl__law_letters⟩)
    (l__law_number : K.lookup g__law_number = some ⟨oc__law_number, od__law_number, .func (PySem.W.fnOf "_law_number" "_law_number" (defArgs s_law_number) (defBody s_law_number) (defScope s_law_number) .none kV__law_number dc__law_number pm__law_number an__law_number cd__law_number ct__law_number), sl__law_number⟩)
    (l__law_leaf_right : K.lookup g__law_leaf_right = some ⟨oc__law_leaf_right, od__law_leaf_right, .func (PySem.W.fnOf "_law_leaf_right" "_law_leaf_right" (defArgs s_law_leaf_right) (defBody s_law_leaf_right) (defScope s_law_leaf_right) .none kV__law_leaf_right dc__law_leaf_right pm__law_leaf_right an__law_leaf_right cd__law_leaf_right ct__law_leaf_right), sl__law_leaf_right⟩)
    (l__law_asked_right : K.lookup g__law_asked_right = some ⟨oc__law_asked_right, od__law_asked_right, .func (PySem.W.fnOf "_law_asked_right" "_law_asked_right" (defArgs s_law_asked_right) (defBody s_law_asked_right) (defScope s_law_asked_right) .none kV__law_asked_right dc__law_asked_right pm__law_asked_right an__law_asked_right cd__law_asked_right ct__law_asked_right), sl__law_asked_right⟩)
    (l_law : K.lookup g_law = some ⟨oc_law, od_law, .func (PySem.W.fnOf "law" "law" (defArgs s_law) (defBody s_law) (defScope s_law) .none kV_law dc_law pm_law an_law cd_law ct_law), sl_law⟩)
    (l_BINARY_SIGNS : K.lookup v_BINARY_SIGNSA = some ⟨.type "tuple", od_BINARY_SIGNS, .seq it_BINARY_SIGNS n_BINARY_SIGNS, sl_BINARY_SIGNS⟩)
    (l_UNARY_SIGNS : K.lookup v_UNARY_SIGNSA = some ⟨.type "tuple", od_UNARY_SIGNS, .seq it_UNARY_SIGNS n_UNARY_SIGNS, sl_UNARY_SIGNS⟩)
    (pg_Phrase : PySem.W.plainGet K C_Phrase Str.empty = true)
    (hd_Phrase : PySem.W.hasDictIn K C_Phrase = true)
    (po_Phrase : PySem.W.plainOver K C_Phrase = true)
    (kC_Phrase : PySem.W.keepIn K (.ref C_Phrase) = true)
    (mk_Phrase : PySem.W.makesIn K C_Phrase = true)
    (rd_Phrase : PySem.W.readsIn K C_Phrase (.type "type") = true)
    (ga_Phrase : PySem.W.specialIn K (.ref C_Phrase) "__getattribute__" = some (some (.builtin "type.__getattribute__")))
    (ic_Phrase : PySem.W.isClsIn K C_Phrase = true)
    (c_Phrase__letter : PySem.W.codeIn K cd_Phrase__letter "Phrase._letter" = true)
    (k_Phrase__letter : PySem.W.keepIn K (.ref g_Phrase__letter) = true)
    (f_Phrase__letter : PySem.W.isFn K (.ref g_Phrase__letter) = true)
    (c_Phrase__is_between : PySem.W.codeIn K cd_Phrase__is_between "Phrase._is_between" = true)
    (k_Phrase__is_between : PySem.W.keepIn K (.ref g_Phrase__is_between) = true)
    (f_Phrase__is_between : PySem.W.isFn K (.ref g_Phrase__is_between) = true)
    (c_Phrase__skip_small : PySem.W.codeIn K cd_Phrase__skip_small "Phrase._skip_small" = true)
    (k_Phrase__skip_small : PySem.W.keepIn K (.ref g_Phrase__skip_small) = true)
    (f_Phrase__skip_small : PySem.W.isFn K (.ref g_Phrase__skip_small) = true)
    (c_Phrase__take : PySem.W.codeIn K cd_Phrase__take "Phrase._take" = true)
    (k_Phrase__take : PySem.W.keepIn K (.ref g_Phrase__take) = true)
    (f_Phrase__take : PySem.W.isFn K (.ref g_Phrase__take) = true)
    (c_Phrase__take_word : PySem.W.codeIn K cd_Phrase__take_word "Phrase._take_word" = true)
    (k_Phrase__take_word : PySem.W.keepIn K (.ref g_Phrase__take_word) = true)
    (f_Phrase__take_word : PySem.W.isFn K (.ref g_Phrase__take_word) = true)
    (c_Phrase__take_class : PySem.W.codeIn K cd_Phrase__take_class "Phrase._take_class" = true)
    (k_Phrase__take_class : PySem.W.keepIn K (.ref g_Phrase__take_class) = true)
    (f_Phrase__take_class : PySem.W.isFn K (.ref g_Phrase__take_class) = true)
    (c_Phrase__take_request : PySem.W.codeIn K cd_Phrase__take_request "Phrase._take_request" = true)
    (k_Phrase__take_request : PySem.W.keepIn K (.ref g_Phrase__take_request) = true)
    (f_Phrase__take_request : PySem.W.isFn K (.ref g_Phrase__take_request) = true)
    (c_Phrase__take_start : PySem.W.codeIn K cd_Phrase__take_start "Phrase._take_start" = true)
    (k_Phrase__take_start : PySem.W.keepIn K (.ref g_Phrase__take_start) = true)
    (f_Phrase__take_start : PySem.W.isFn K (.ref g_Phrase__take_start) = true)
    (c_Phrase_take_all : PySem.W.codeIn K cd_Phrase_take_all "Phrase.take_all" = true)
    (k_Phrase_take_all : PySem.W.keepIn K (.ref g_Phrase_take_all) = true)
    (f_Phrase_take_all : PySem.W.isFn K (.ref g_Phrase_take_all) = true)
    (c_Phrase___init__ : PySem.W.codeIn K cd_Phrase___init__ "Phrase.__init__" = true)
    (k_Phrase___init__ : PySem.W.keepIn K (.ref g_Phrase___init__) = true)
    (f_Phrase___init__ : PySem.W.isFn K (.ref g_Phrase___init__) = true)
    (pg_Expression : PySem.W.plainGet K C_Expression Str.empty = true)
    (hd_Expression : PySem.W.hasDictIn K C_Expression = true)
    (po_Expression : PySem.W.plainOver K C_Expression = true)
    (kC_Expression : PySem.W.keepIn K (.ref C_Expression) = true)
    (mk_Expression : PySem.W.makesIn K C_Expression = true)
    (rd_Expression : PySem.W.readsIn K C_Expression (.type "type") = true)
    (ga_Expression : PySem.W.specialIn K (.ref C_Expression) "__getattribute__" = some (some (.builtin "type.__getattribute__")))
    (ic_Expression : PySem.W.isClsIn K C_Expression = true)
    (c_Expression___init__ : PySem.W.codeIn K cd_Expression___init__ "Expression.__init__" = true)
    (k_Expression___init__ : PySem.W.keepIn K (.ref g_Expression___init__) = true)
    (f_Expression___init__ : PySem.W.isFn K (.ref g_Expression___init__) = true)
    (c_Expression_signs : PySem.W.codeIn K cd_Expression_signs "Expression.signs" = true)
    (k_Expression_signs : PySem.W.keepIn K (.ref g_Expression_signs) = true)
    (f_Expression_signs : PySem.W.isFn K (.ref g_Expression_signs) = true)
    (c_Expression___len__ : PySem.W.codeIn K cd_Expression___len__ "Expression.__len__" = true)
    (k_Expression___len__ : PySem.W.keepIn K (.ref g_Expression___len__) = true)
    (f_Expression___len__ : PySem.W.isFn K (.ref g_Expression___len__) = true)
    (hn : PySem.W.specialIn K (.builtin "object.__class__") "__get__" = some (some (.builtin "getset_descriptor.__get__")))
    (ht : PySem.W.takesIn K (.builtin "object.__class__") = some true)
    (hm_Expression : PySem.W.mroIn K C_Expression (.type "object") = some true)
    (c_Expression___eq__ : PySem.W.codeIn K cd_Expression___eq__ "Expression.__eq__" = true)
    (k_Expression___eq__ : PySem.W.keepIn K (.ref g_Expression___eq__) = true)
    (f_Expression___eq__ : PySem.W.isFn K (.ref g_Expression___eq__) = true)
    (c__written : PySem.W.codeIn K cd__written "_written" = true)
    (k__written : PySem.W.keepIn K (.ref g__written) = true)
    (c_Expression___str__ : PySem.W.codeIn K cd_Expression___str__ "Expression.__str__" = true)
    (k_Expression___str__ : PySem.W.keepIn K (.ref g_Expression___str__) = true)
    (f_Expression___str__ : PySem.W.isFn K (.ref g_Expression___str__) = true)
    (c_Expression_leaf : PySem.W.codeIn K cd_Expression_leaf "Expression.leaf" = true)
    (k_Expression_leaf : PySem.W.keepIn K (.ref g_Expression_leaf) = true)
    (c_Expression_asked : PySem.W.codeIn K cd_Expression_asked "Expression.asked" = true)
    (k_Expression_asked : PySem.W.keepIn K (.ref g_Expression_asked) = true)
    (c__checked : PySem.W.codeIn K cd__checked "_checked" = true)
    (k__checked : PySem.W.keepIn K (.ref g__checked) = true)
    (c_Expression_read : PySem.W.codeIn K cd_Expression_read "Expression.read" = true)
    (k_Expression_read : PySem.W.keepIn K (.ref g_Expression_read) = true)
    (fn_Expression_read : PySem.W.fnIn K g_Expression_read = true)
    (c_Expression_leaves : PySem.W.codeIn K cd_Expression_leaves "Expression.leaves" = true)
    (k_Expression_leaves : PySem.W.keepIn K (.ref g_Expression_leaves) = true)
    (f_Expression_leaves : PySem.W.isFn K (.ref g_Expression_leaves) = true)
    (c__law_take : PySem.W.codeIn K cd__law_take "_law_take" = true)
    (k__law_take : PySem.W.keepIn K (.ref g__law_take) = true)
    (c__law_bag : PySem.W.codeIn K cd__law_bag "_law_bag" = true)
    (k__law_bag : PySem.W.keepIn K (.ref g__law_bag) = true)
    (c__law_of : PySem.W.codeIn K cd__law_of "_law_of" = true)
    (k__law_of : PySem.W.keepIn K (.ref g__law_of) = true)
    (c__law_letters : PySem.W.codeIn K cd__law_letters "_law_letters" = true)
    (k__law_letters : PySem.W.keepIn K (.ref g__law_letters) = true)
    (c__law_number : PySem.W.codeIn K cd__law_number "_law_number" = true)
    (k__law_number : PySem.W.keepIn K (.ref g__law_number) = true)
    (c__law_leaf_right : PySem.W.codeIn K cd__law_leaf_right "_law_leaf_right" = true)
    (k__law_leaf_right : PySem.W.keepIn K (.ref g__law_leaf_right) = true)
    (c__law_asked_right : PySem.W.codeIn K cd__law_asked_right "_law_asked_right" = true)
    (k__law_asked_right : PySem.W.keepIn K (.ref g__law_asked_right) = true)
    (c_law : PySem.W.codeIn K cd_law "law" = true)
    (k_law : PySem.W.keepIn K (.ref g_law) = true)
    (o_BINARY_SIGNS : strsIn it_BINARY_SIGNS.toList binary = true)
    (o_UNARY_SIGNS : strsIn it_UNARY_SIGNS.toList unary = true)
    : ∃ fd : FuncData, (∀ (s : Shared) (v : Value), BindsTo s fd ⟨[v], []⟩ [("script", v)]) ∧ ∀ base : Heap, K.In base → base.Ns mainGlobals mg → FnOk l.prog w K mg base CX0 10 fa fd ["script"] (spLaw K) := by
  have e := hfa.symm.trans (PySem.W.mg_of X G a_law)
  cases e
  have T : Cst K mg := ⟨⟨PySem.W.mg_none_of X G z_isinstance, PySem.W.mg_none_of X G z_list, PySem.W.mg_none_of X G z_tuple, PySem.W.mg_none_of X G z_int, PySem.W.mg_none_of X G z_str, PySem.W.mg_none_of X G z_bool, PySem.W.mg_none_of X G z_len, PySem.W.mg_none_of X G z_abs, PySem.W.mg_none_of X G z_max, PySem.W.mg_none_of X G z_min, PySem.W.mg_none_of X G z_range, PySem.W.mg_none_of X G z_enumerate, PySem.W.mg_none_of X G z_all, PySem.W.mg_none_of X G z_ValueError, PySem.W.mg_none_of X G z_LookupError, PySem.W.mg_none_of X G z_KeyError, PySem.W.mg_none_of X G z_IndexError⟩, ⟨_, PySem.W.mg_of X G v_LONGEST_NAME, ⟨_, rfl⟩⟩, ⟨_, PySem.W.mg_of X G v_MOST_OPENED, ⟨_, rfl⟩⟩, ⟨_, PySem.W.mg_of X G v_MOST_STEPS, ⟨_, rfl⟩⟩, ⟨_, PySem.W.mg_of X G v_BINARY_SIGNS, (tupk_of l_BINARY_SIGNS o_BINARY_SIGNS (by decide +kernel))⟩, ⟨_, PySem.W.mg_of X G v_UNARY_SIGNS, (tupk_of l_UNARY_SIGNS o_UNARY_SIGNS (by decide +kernel))⟩⟩
  refine ⟨PySem.W.fnOf "law" "law" (defArgs s_law) (defBody s_law) (defScope s_law) .none kV_law dc_law pm_law an_law cd_law ct_law, fun s v => .of_eq rfl, fun base _ _ => ?_⟩
  have cl_Phrase : Cls K C_Phrase := ⟨pg_Phrase, hd_Phrase, po_Phrase, sa_Phrase⟩
  have hC_Phrase : PhC K C_Phrase := ⟨cl_Phrase, fun f hf => by simp only [List.mem_cons, List.not_mem_nil, or_false] at hf; rcases hf with rfl | rfl | rfl | rfl; exact nA_Phrase_0; exact nA_Phrase_1; exact nA_Phrase_2; exact nA_Phrase_3⟩
  have U_Phrase__letter := fun_mk (st := s_Phrase__letter) l_Phrase__letter c_Phrase__letter k_Phrase__letter
  have Z1 : OkM CX0 l.prog w K mg base 1 C_Phrase "_letter" ["self"] (spLetter C_Phrase) := ⟨_, _, (ok_letter U_Phrase__letter T hC_Phrase), ⟨m_Phrase__letter, f_Phrase__letter, k_Phrase__letter⟩, U_Phrase__letter.binds (ps := ["self"]) (fun _ _ _ _ _ _ us hl => match us, hl with | [_], _ => rfl)⟩
  have U_Phrase__is_between := fun_mk (st := s_Phrase__is_between) l_Phrase__is_between c_Phrase__is_between k_Phrase__is_between
  have Z2 : OkM CX0 l.prog w K mg base 2 C_Phrase "_is_between" ["self", "low", "high"] (spBetw C_Phrase) := ⟨_, _, (ok_between U_Phrase__is_between T hC_Phrase Z1), ⟨m_Phrase__is_between, f_Phrase__is_between, k_Phrase__is_between⟩, U_Phrase__is_between.binds (ps := ["self", "low", "high"]) (fun _ _ _ _ _ _ us hl => match us, hl with | [_, _, _], _ => rfl)⟩
  have U_Phrase__skip_small := fun_mk (st := s_Phrase__skip_small) l_Phrase__skip_small c_Phrase__skip_small k_Phrase__skip_small
  have Z3 : OkM CX0 l.prog w K mg base 3 C_Phrase "_skip_small" ["self", "end"] (spSkip C_Phrase) := ⟨_, _, (ok_skip U_Phrase__skip_small T hC_Phrase Z2), ⟨m_Phrase__skip_small, f_Phrase__skip_small, k_Phrase__skip_small⟩, U_Phrase__skip_small.binds (ps := ["self", "end"]) (fun _ _ _ _ _ _ us hl => match us, hl with | [_, _], _ => rfl)⟩
  have U_Phrase__take := fun_mk (st := s_Phrase__take) l_Phrase__take c_Phrase__take k_Phrase__take
  have Z4 : OkM CX0 l.prog w K mg base 2 C_Phrase "_take" ["self", "letter"] (spTakeL C_Phrase) := ⟨_, _, (ok_take U_Phrase__take T hC_Phrase Z1), ⟨m_Phrase__take, f_Phrase__take, k_Phrase__take⟩, U_Phrase__take.binds (ps := ["self", "letter"]) (fun _ _ _ _ _ _ us hl => match us, hl with | [_, _], _ => rfl)⟩
  have U_Phrase__take_word := fun_mk (st := s_Phrase__take_word) l_Phrase__take_word c_Phrase__take_word k_Phrase__take_word
  have Z5 : OkM CX0 l.prog w K mg base 4 C_Phrase "_take_word" ["self"] (spWord C_Phrase) := ⟨_, _, (ok_word U_Phrase__take_word T hC_Phrase Z3), ⟨m_Phrase__take_word, f_Phrase__take_word, k_Phrase__take_word⟩, U_Phrase__take_word.binds (ps := ["self"]) (fun _ _ _ _ _ _ us hl => match us, hl with | [_], _ => rfl)⟩
  have U_Phrase__take_class := fun_mk (st := s_Phrase__take_class) l_Phrase__take_class c_Phrase__take_class k_Phrase__take_class
  have Z6 : OkM CX0 l.prog w K mg base 4 C_Phrase "_take_class" ["self"] (spClass C_Phrase) := ⟨_, _, (ok_class U_Phrase__take_class T hC_Phrase Z2 Z3), ⟨m_Phrase__take_class, f_Phrase__take_class, k_Phrase__take_class⟩, U_Phrase__take_class.binds (ps := ["self"]) (fun _ _ _ _ _ _ us hl => match us, hl with | [_], _ => rfl)⟩
  have U_Phrase__take_request := fun_mk (st := s_Phrase__take_request) l_Phrase__take_request c_Phrase__take_request k_Phrase__take_request
  have Z7 : OkM CX0 l.prog w K mg base 5 C_Phrase "_take_request" ["self"] (spReq C_Phrase) := ⟨_, _, (ok_request U_Phrase__take_request T hC_Phrase Z5), ⟨m_Phrase__take_request, f_Phrase__take_request, k_Phrase__take_request⟩, U_Phrase__take_request.binds (ps := ["self"]) (fun _ _ _ _ _ _ us hl => match us, hl with | [_], _ => rfl)⟩
  have U_Phrase__take_start := fun_mk (st := s_Phrase__take_start) l_Phrase__take_start c_Phrase__take_start k_Phrase__take_start
  have Z8 : OkM CX0 l.prog w K mg base 6 C_Phrase "_take_start" ["self"] (spStart C_Phrase) := ⟨_, _, (ok_start U_Phrase__take_start T hC_Phrase Z1 Z2 Z6 Z7 Z5 Z4), ⟨m_Phrase__take_start, f_Phrase__take_start, k_Phrase__take_start⟩, U_Phrase__take_start.binds (ps := ["self"]) (fun _ _ _ _ _ _ us hl => match us, hl with | [_], _ => rfl)⟩
  have U_Phrase_take_all := fun_mk (st := s_Phrase_take_all) l_Phrase_take_all c_Phrase_take_all k_Phrase_take_all
  have Z9 : OkM CX0 l.prog w K mg base 7 C_Phrase "take_all" ["self"] (spAll K C_Phrase) := ⟨_, _, (ok_all U_Phrase_take_all T hC_Phrase Z8), ⟨m_Phrase_take_all, f_Phrase_take_all, k_Phrase_take_all⟩, U_Phrase_take_all.binds (ps := ["self"]) (fun _ _ _ _ _ _ us hl => match us, hl with | [_], _ => rfl)⟩
  have U_Phrase___init__ := fun_mk (st := s_Phrase___init__) l_Phrase___init__ c_Phrase___init__ k_Phrase___init__
  have Z10 : OkI l.prog w K mg base 1 "Phrase" C_Phrase ["self", "text"] (spPhrase C_Phrase) := ⟨PySem.W.mg_of X G a_Phrase, _, _, (ok_Phrase U_Phrase___init__ T hC_Phrase), ⟨mk_Phrase, i_Phrase___init__, f_Phrase___init__, kC_Phrase⟩, U_Phrase___init__.binds (ps := ["self", "text"]) (fun _ _ _ _ _ _ us hl => match us, hl with | [_, _], _ => rfl)⟩
  have cl_Expression : Cls K C_Expression := ⟨pg_Expression, hd_Expression, po_Expression, sa_Expression⟩
  have hC_Expression : ExC K C_Expression := ⟨cl_Expression, fun f hf => by simp only [List.mem_cons, List.not_mem_nil, or_false] at hf; rcases hf with rfl | rfl; exact nA_Expression_0; exact nA_Expression_1⟩
  have U_Expression___init__ := fun_mk (st := s_Expression___init__) l_Expression___init__ c_Expression___init__ k_Expression___init__
  have Z11 : OkI l.prog w K mg base 1 "Expression" C_Expression ["self", "parts"] (spEx K C_Expression) := ⟨PySem.W.mg_of X G a_Expression, _, _, (ok_Expression U_Expression___init__ T hC_Expression), ⟨mk_Expression, i_Expression___init__, f_Expression___init__, kC_Expression⟩, U_Expression___init__.binds (ps := ["self", "parts"]) (fun _ _ _ _ _ _ us hl => match us, hl with | [_, _], _ => rfl)⟩
  have U_Expression_signs := fun_mk (st := s_Expression_signs) l_Expression_signs c_Expression_signs k_Expression_signs
  have Z12 : OkM CX0 l.prog w K mg base 1 C_Expression "signs" ["self"] (spSigns K C_Expression) := ⟨_, _, (ok_signs U_Expression_signs T hC_Expression), ⟨m_Expression_signs, f_Expression_signs, k_Expression_signs⟩, U_Expression_signs.binds (ps := ["self"]) (fun _ _ _ _ _ _ us hl => match us, hl with | [_], _ => rfl)⟩
  have U_Expression___len__ := fun_mk (st := s_Expression___len__) l_Expression___len__ c_Expression___len__ k_Expression___len__
  have Z13 : OkM CX0 l.prog w K mg base 1 C_Expression "__len__" ["self"] (spLen K C_Expression) := ⟨_, _, (ok_len U_Expression___len__ T hC_Expression), ⟨m_Expression___len__, f_Expression___len__, k_Expression___len__⟩, U_Expression___len__.binds (ps := ["self"]) (fun _ _ _ _ _ _ us hl => match us, hl with | [_], _ => rfl)⟩
  have U_Expression___eq__ := fun_mk (st := s_Expression___eq__) l_Expression___eq__ c_Expression___eq__ k_Expression___eq__
  have Z14 : OkM CX0 l.prog w K mg base 1 C_Expression "__eq__" ["self", "other"] (spEq K C_Expression) := ⟨_, _, (ok_eq U_Expression___eq__ T hC_Expression ⟨haI_Expression, hn, ht, hm_Expression⟩ (PySem.W.mg_of X G a_Expression)), ⟨m_Expression___eq__, f_Expression___eq__, k_Expression___eq__⟩, U_Expression___eq__.binds (ps := ["self", "other"]) (fun _ _ _ _ _ _ us hl => match us, hl with | [_, _], _ => rfl)⟩
  have U__written := fun_mk (st := s_written) l__written c__written k__written
  have Z15 : Ok l.prog w K mg base 1 "_written" ["parts"] (spWritten K) := ⟨_, _, (ok_written U__written T), PySem.W.mg_of X G a__written, k__written, U__written.binds (ps := ["parts"]) (fun _ _ _ _ _ _ us hl => match us, hl with | [_], _ => rfl)⟩
  have U_Expression___str__ := fun_mk (st := s_Expression___str__) l_Expression___str__ c_Expression___str__ k_Expression___str__
  have Z16 : OkM CX0 l.prog w K mg base 2 C_Expression "__str__" ["self"] (spStr K C_Expression) := ⟨_, _, (ok_str U_Expression___str__ T hC_Expression Z15), ⟨m_Expression___str__, f_Expression___str__, k_Expression___str__⟩, U_Expression___str__.binds (ps := ["self"]) (fun _ _ _ _ _ _ us hl => match us, hl with | [_], _ => rfl)⟩
  have U_Expression_leaf := fun_mk (st := s_Expression_leaf) l_Expression_leaf c_Expression_leaf k_Expression_leaf
  have SM_Expression_leaf : SM K C_Expression "leaf" g_Expression_leaf := ⟨⟨_, p_Expression_leaf, rs_Expression_leaf, ⟨rd_Expression, ga_Expression⟩, fc_Expression_leaf, rc_Expression_leaf⟩, k_Expression_leaf⟩
  have Z17 : OkS l.prog w K mg base 3 C_Expression "leaf" ["label", "name"] (spLeaf K C_Expression) := ⟨_, _, (ok_leaf U_Expression_leaf T Z11), SM_Expression_leaf, U_Expression_leaf.binds (ps := ["label", "name"]) (fun _ _ _ _ _ _ us hl => match us, hl with | [_, _], _ => rfl)⟩
  have Z17K : OkSK l.prog w K mg base 3 C_Expression "leaf" ["label", "name"] ["name", "label"] (spLeaf K C_Expression) := ⟨_, _, (ok_leaf U_Expression_leaf T Z11), SM_Expression_leaf, kb_swap U_Expression_leaf (fun _ _ _ _ _ _ _ _ => rfl)⟩
  have U_Expression_asked := fun_mk (st := s_Expression_asked) l_Expression_asked c_Expression_asked k_Expression_asked
  have SM_Expression_asked : SM K C_Expression "asked" g_Expression_asked := ⟨⟨_, p_Expression_asked, rs_Expression_asked, ⟨rd_Expression, ga_Expression⟩, fc_Expression_asked, rc_Expression_asked⟩, k_Expression_asked⟩
  have Z18 : OkS l.prog w K mg base 3 C_Expression "asked" ["name", "word"] (spAsked K C_Expression) := ⟨_, _, (ok_asked U_Expression_asked T Z11), SM_Expression_asked, U_Expression_asked.binds (ps := ["name", "word"]) (fun _ _ _ _ _ _ us hl => match us, hl with | [_, _], _ => rfl)⟩
  have Z18K : OkSK l.prog w K mg base 3 C_Expression "asked" ["name", "word"] ["word", "name"] (spAsked K C_Expression) := ⟨_, _, (ok_asked U_Expression_asked T Z11), SM_Expression_asked, kb_swap U_Expression_asked (fun _ _ _ _ _ _ _ _ => rfl)⟩
  have U__checked := fun_mk (st := s_checked) l__checked c__checked k__checked
  have Z19 : Ok l.prog w K mg base 3 "_checked" ["parts"] (spChecked K C_Expression) := ⟨_, _, (ok_checked U__checked T Z11), PySem.W.mg_of X G a__checked, k__checked, U__checked.binds (ps := ["parts"]) (fun _ _ _ _ _ _ us hl => match us, hl with | [_], _ => rfl)⟩
  have U_Expression_read := fun_mk (st := s_Expression_read) l_Expression_read c_Expression_read k_Expression_read
  have Z20 : OkC0 l.prog w K mg base 8 C_Expression "read" ["cls", "text"] (spRead K C_Expression) := ⟨p_Expression_read, _, _, _, (ok_read U_Expression_read T hC_Phrase Z10 Z9 Z19), ⟨rd_Expression, ga_Expression⟩, ⟨fc_Expression_read, ⟨rs_Expression_read, rc_Expression_read⟩, fn_Expression_read⟩, U_Expression_read.binds (ps := ["cls", "text"]) (fun _ _ _ _ _ _ us hl => match us, hl with | [_, _], _ => rfl)⟩
  have Z20K : OkCK l.prog w K mg base 8 C_Expression "read" ["cls", "text"] ["text"] (spRead K C_Expression) := ⟨p_Expression_read, _, _, _, (ok_read U_Expression_read T hC_Phrase Z10 Z9 Z19), ⟨rd_Expression, ga_Expression⟩, ⟨fc_Expression_read, ⟨rs_Expression_read, rc_Expression_read⟩, fn_Expression_read⟩, kb_one U_Expression_read (fun _ _ _ _ _ _ _ _ => rfl)⟩
  have U_Expression_leaves := fun_mk (st := s_Expression_leaves) l_Expression_leaves c_Expression_leaves k_Expression_leaves
  have Z21 : OkM CX0 l.prog w K mg base 1 C_Expression "leaves" ["self"] (spLeaves K C_Expression) := ⟨_, _, (ok_leaves U_Expression_leaves T hC_Expression), ⟨m_Expression_leaves, f_Expression_leaves, k_Expression_leaves⟩, U_Expression_leaves.binds (ps := ["self"]) (fun _ _ _ _ _ _ us hl => match us, hl with | [_], _ => rfl)⟩
  have U__law_take := fun_mk (st := s_law_take) l__law_take c__law_take k__law_take
  have Z22 : Ok l.prog w K mg base 1 "_law_take" ["bag", "many"] spTake := ⟨_, _, (ok_law_take U__law_take T.toTxt), PySem.W.mg_of X G a__law_take, k__law_take, U__law_take.binds (ps := ["bag", "many"]) (fun _ _ _ _ _ _ us hl => match us, hl with | [_, _], _ => rfl)⟩
  have U__law_bag := fun_mk (st := s_law_bag) l__law_bag c__law_bag k__law_bag
  have Z23 : Ok l.prog w K mg base 1 "_law_bag" ["script", "at"] (spBag K) := ⟨_, _, (ok_law_bag U__law_bag T.toTxt), PySem.W.mg_of X G a__law_bag, k__law_bag, U__law_bag.binds (ps := ["script", "at"]) (fun _ _ _ _ _ _ us hl => match us, hl with | [_, _], _ => rfl)⟩
  have U__law_of := fun_mk (st := s_law_of) l__law_of c__law_of k__law_of
  have Z24 : Ok l.prog w K mg base 2 "_law_of" ["bag", "some"] spOfS := ⟨_, _, (ok_law_of U__law_of T Z22), PySem.W.mg_of X G a__law_of, k__law_of, U__law_of.binds (ps := ["bag", "some"]) (fun _ _ _ _ _ _ us hl => match us, hl with | [_, _], _ => rfl)⟩
  have U__law_letters := fun_mk (st := s_law_letters) l__law_letters c__law_letters k__law_letters
  have Z25 : Ok l.prog w K mg base 3 "_law_letters" ["bag", "first", "many"] spLetters := ⟨_, _, (ok_law_letters U__law_letters T Z22 Z24), PySem.W.mg_of X G a__law_letters, k__law_letters, U__law_letters.binds (ps := ["bag", "first", "many"]) (fun _ _ _ _ _ _ us hl => match us, hl with | [_, _, _], _ => rfl)⟩
  have U__law_number := fun_mk (st := s_law_number) l__law_number c__law_number k__law_number
  have Z26 : Ok l.prog w K mg base 1 "_law_number" ["x", "due"] spNum := ⟨_, _, (ok_law_number U__law_number T), PySem.W.mg_of X G a__law_number, k__law_number, U__law_number.binds (ps := ["x", "due"]) (fun _ _ _ _ _ _ us hl => match us, hl with | [_, _], _ => rfl)⟩
  have U__law_leaf_right := fun_mk (st := s_law_leaf_right) l__law_leaf_right c__law_leaf_right k__law_leaf_right
  have Z27 : Ok l.prog w K mg base 9 "_law_leaf_right" ["bag"] spLeafR := ⟨_, _, (ok_law_leaf_right U__law_leaf_right T hC_Expression (PySem.W.mg_of X G a_Expression) ⟨ne_Expression, hm_Expression⟩ Z17 Z17K Z20 Z16 Z13 Z14 Z21 Z12 Z24 Z25 Z26), PySem.W.mg_of X G a__law_leaf_right, k__law_leaf_right, U__law_leaf_right.binds (ps := ["bag"]) (fun _ _ _ _ _ _ us hl => match us, hl with | [_], _ => rfl)⟩
  have U__law_asked_right := fun_mk (st := s_law_asked_right) l__law_asked_right c__law_asked_right k__law_asked_right
  have Z28 : Ok l.prog w K mg base 9 "_law_asked_right" ["bag"] spLeafR := ⟨_, _, (ok_law_asked_right U__law_asked_right T hC_Expression (PySem.W.mg_of X G a_Expression) ⟨ne_Expression, hm_Expression⟩ Z18 Z18K Z20K Z16 Z13 Z14 Z21 Z12 Z24 Z25 Z26), PySem.W.mg_of X G a__law_asked_right, k__law_asked_right, U__law_asked_right.binds (ps := ["bag"]) (fun _ _ _ _ _ _ us hl => match us, hl with | [_], _ => rfl)⟩
  have U_law := fun_mk (st := s_law) l_law c_law k_law
  exact ok_law U_law T Z23 Z27 Z28
theorem walk {l : PySem.W.OpenLaw} {q : Program} {loose : List Str} {XP : (Str → Option Value) → Heap → Prop} {YP : World → Heap → Prop} {d : DefRec} {K : Params → Fg} (hn : l.most = some 63) (hdf : d.params.defaults = [])
    (hY : ∀ (w : World) (h : Heap), YP w h → (K w.params).In h)
    (F : ∀ (w : World) (mg : Str → Option Value) (fa : Addr) (h : Heap), (K w.params).In h → h.Ns mainGlobals mg → mg d.name = some (.ref fa) →
      ∃ fd : FuncData, (∀ (s : Shared) (u : Value), BindsTo s fd ⟨[u], []⟩ [("script", u)]) ∧ ∀ base : Heap, (K w.params).In base → base.Ns mainGlobals mg → FnOk l.prog w (K w.params) mg base CX0 10 fa fd ["script"] (spLaw (K w.params))) :
    PySem.W.WalkO q loose XP YP l.row.toRowW d [] (fun f vs => PySem.call f vs) :=
  L2.walk_of (n := 63) (k := 10) (x := "script") (CX := fun _ => CX0) (sp := fun w => spLaw (K w.params)) hn (by decide) hdf ⟨rfl, by decide, by decide⟩ hY F
    (fun _ _ a ns hl _ hS => ⟨a, ns, rfl, hS, hl, fun _ => rfl⟩) fun _ _ _ _ _ z => z
end K31

open PySem PySem.W PyProof.Rows in
set_option maxRecDepth 100000 in
set_option maxHeartbeats 0 in
theorem PySem.Challenge.cw_heirsback_k31_leaves_and_requests_holds : PySem.Challenge.rw_heirsback_k31_leaves_and_requests.Holds := by
  w_on; o_law; k_head; (case hw => w_witness2)
  k_fill
  refine K31.walk (l := PySem.Challenge.rw_heirsback_k31_leaves_and_requests) rfl rfl (fun w h Y => PySem.W.kIn_of Y) ?F
  case F =>
    intro w mg fa h KX G hmg
    refine' K31.all_mk KX G hmg ?a_Phrase ?a_Expression ?a__written ?a__checked ?a__law_take ?a__law_bag ?a__law_of ?a__law_letters ?a__law_number ?a__law_leaf_right ?a__law_asked_right ?a_law ?v_LONGEST_NAME ?v_MOST_OPENED ?v_MOST_STEPS ?v_BINARY_SIGNS ?v_UNARY_SIGNS ?z_isinstance ?z_list ?z_tuple ?z_int ?z_str ?z_bool ?z_len ?z_abs ?z_max ?z_min ?z_range ?z_enumerate ?z_all ?z_ValueError ?z_LookupError ?z_KeyError ?z_IndexError ?sa_Phrase ?nA_Phrase_0 ?nA_Phrase_1 ?nA_Phrase_2 ?nA_Phrase_3 ?m_Phrase__letter ?m_Phrase__is_between ?m_Phrase__skip_small ?m_Phrase__take ?m_Phrase__take_word ?m_Phrase__take_class ?m_Phrase__take_request ?m_Phrase__take_start ?m_Phrase_take_all ?i_Phrase___init__ ?sa_Expression ?nA_Expression_0 ?nA_Expression_1 ?i_Expression___init__ ?m_Expression_signs ?m_Expression___len__ ?haI_Expression ?m_Expression___eq__ ?m_Expression___str__ ?fc_Expression_leaf ?fc_Expression_asked ?fc_Expression_read ?m_Expression_leaves ?ne_Expression ?rc_Expression_leaf ?rc_Expression_asked ?rc_Expression_read ?l_Phrase__letter ?l_Phrase__is_between ?l_Phrase__skip_small ?l_Phrase__take ?l_Phrase__take_word ?l_Phrase__take_class ?l_Phrase__take_request ?l_Phrase__take_start ?l_Phrase_take_all ?l_Phrase___init__ ?l_Expression___init__ ?l_Expression_signs ?l_Expression___len__ ?l_Expression___eq__ ?l__written ?l_Expression___str__ ?l_Expression_leaf ?l_Expression_asked ?l__checked ?l_Expression_read ?l_Expression_leaves ?l__law_take ?l__law_bag ?l__law_of ?l__law_letters ?l__law_number ?l__law_leaf_right ?l__law_asked_right ?l_law ?l_BINARY_SIGNS ?l_UNARY_SIGNS ?pg_Phrase ?hd_Phrase ?po_Phrase ?kC_Phrase ?mk_Phrase ?rd_Phrase ?ga_Phrase ?ic_Phrase ?c_Phrase__letter ?k_Phrase__letter ?f_Phrase__letter ?c_Phrase__is_between ?k_Phrase__is_between ?f_Phrase__is_between ?c_Phrase__skip_small ?k_Phrase__skip_small ?f_Phrase__skip_small ?c_Phrase__take ?k_Phrase__take ?f_Phrase__take ?c_Phrase__take_word ?k_Phrase__take_word ?f_Phrase__take_word ?c_Phrase__take_class ?k_Phrase__take_class ?f_Phrase__take_class ?c_Phrase__take_request ?k_Phrase__take_request ?f_Phrase__take_request ?c_Phrase__take_start ?k_Phrase__take_start ?f_Phrase__take_start ?c_Phrase_take_all ?k_Phrase_take_all ?f_Phrase_take_all ?c_Phrase___init__ ?k_Phrase___init__ ?f_Phrase___init__ ?pg_Expression ?hd_Expression ?po_Expression ?kC_Expression ?mk_Expression ?rd_Expression ?ga_Expression ?ic_Expression ?c_Expression___init__ ?k_Expression___init__ ?f_Expression___init__ ?c_Expression_signs ?k_Expression_signs ?f_Expression_signs ?c_Expression___len__ ?k_Expression___len__ ?f_Expression___len__ ?hn ?ht ?hm_Expression ?c_Expression___eq__ ?k_Expression___eq__ ?f_Expression___eq__ ?c__written ?k__written ?c_Expression___str__ ?k_Expression___str__ ?f_Expression___str__ ?c_Expression_leaf ?k_Expression_leaf ?c_Expression_asked ?k_Expression_asked ?c__checked ?k__checked ?c_Expression_read ?k_Expression_read ?fn_Expression_read ?c_Expression_leaves ?k_Expression_leaves ?f_Expression_leaves ?c__law_take ?k__law_take ?c__law_bag ?k__law_bag ?c__law_of ?k__law_of ?c__law_letters ?k__law_letters ?c__law_number ?k__law_number ?c__law_leaf_right ?k__law_leaf_right ?c__law_asked_right ?k__law_asked_right ?c_law ?k_law ?o_BINARY_SIGNS ?o_UNARY_SIGNS
    (case a_Phrase => k_is)
    (case a_Expression => k_is)
    (case a__written => k_is)
    (case a__checked => k_is)
    (case a__law_take => k_is)
    (case a__law_bag => k_is)
    (case a__law_of => k_is)
    (case a__law_letters => k_is)
    (case a__law_number => k_is)
    (case a__law_leaf_right => k_is)
    (case a__law_asked_right => k_is)
    (case a_law => k_is)
    (case v_LONGEST_NAME => k_is)
    (case v_MOST_OPENED => k_is)
    (case v_MOST_STEPS => k_is)
    (case v_BINARY_SIGNS => k_is)
    (case v_UNARY_SIGNS => k_is)
    (case z_isinstance => k_is)
    (case z_list => k_is)
    (case z_tuple => k_is)
    (case z_int => k_is)
    (case z_str => k_is)
    (case z_bool => k_is)
    (case z_len => k_is)
    (case z_abs => k_is)
    (case z_max => k_is)
    (case z_min => k_is)
    (case z_range => k_is)
    (case z_enumerate => k_is)
    (case z_all => k_is)
    (case z_ValueError => k_is)
    (case z_LookupError => k_is)
    (case z_KeyError => k_is)
    (case z_IndexError => k_is)
    (case sa_Phrase => k_is)
    (case nA_Phrase_0 => k_is)
    (case nA_Phrase_1 => k_is)
    (case nA_Phrase_2 => k_is)
    (case nA_Phrase_3 => k_is)
    (case m_Phrase__letter => k_is)
    (case m_Phrase__is_between => k_is)
    (case m_Phrase__skip_small => k_is)
    (case m_Phrase__take => k_is)
    (case m_Phrase__take_word => k_is)
    (case m_Phrase__take_class => k_is)
    (case m_Phrase__take_request => k_is)
    (case m_Phrase__take_start => k_is)
    (case m_Phrase_take_all => k_is)
    (case i_Phrase___init__ => k_is)
    (case sa_Expression => k_is)
    (case nA_Expression_0 => k_is)
    (case nA_Expression_1 => k_is)
    (case i_Expression___init__ => k_is)
    (case m_Expression_signs => k_is)
    (case m_Expression___len__ => k_is)
    (case haI_Expression => k_is)
    (case m_Expression___eq__ => k_is)
    (case m_Expression___str__ => k_is)
    (case fc_Expression_leaf => k_is)
    (case fc_Expression_asked => k_is)
    (case fc_Expression_read => k_is)
    (case m_Expression_leaves => k_is)
    (case ne_Expression => k_is)
    (case rc_Expression_leaf => k_is)
    (case rc_Expression_asked => k_is)
    (case rc_Expression_read => k_is)
    (case l_Phrase__letter => k_is)
    (case l_Phrase__is_between => k_is)
    (case l_Phrase__skip_small => k_is)
    (case l_Phrase__take => k_is)
    (case l_Phrase__take_word => k_is)
    (case l_Phrase__take_class => k_is)
    (case l_Phrase__take_request => k_is)
    (case l_Phrase__take_start => k_is)
    (case l_Phrase_take_all => k_is)
    (case l_Phrase___init__ => k_is)
    (case l_Expression___init__ => k_is)
    (case l_Expression_signs => k_is)
    (case l_Expression___len__ => k_is)
    (case l_Expression___eq__ => k_is)
    (case l__written => k_is)
    (case l_Expression___str__ => k_is)
    (case l_Expression_leaf => k_is)
    (case l_Expression_asked => k_is)
    (case l__checked => k_is)
    (case l_Expression_read => k_is)
    (case l_Expression_leaves => k_is)
    (case l__law_take => k_is)
    (case l__law_bag => k_is)
    (case l__law_of => k_is)
    (case l__law_letters => k_is)
    (case l__law_number => k_is)
    (case l__law_leaf_right => k_is)
    (case l__law_asked_right => k_is)
    (case l_law => k_is)
    (case l_BINARY_SIGNS => k_is)
    (case l_UNARY_SIGNS => k_is)
    (case pg_Phrase => k_is)
    (case hd_Phrase => k_is)
    (case po_Phrase => k_is)
    (case kC_Phrase => k_is)
    (case mk_Phrase => k_is)
    (case rd_Phrase => k_is)
    (case ga_Phrase => k_is)
    (case ic_Phrase => k_is)
    (case c_Phrase__letter => k_is)
    (case k_Phrase__letter => k_is)
    (case f_Phrase__letter => k_is)
    (case c_Phrase__is_between => k_is)
    (case k_Phrase__is_between => k_is)
    (case f_Phrase__is_between => k_is)
    (case c_Phrase__skip_small => k_is)
    (case k_Phrase__skip_small => k_is)
    (case f_Phrase__skip_small => k_is)
    (case c_Phrase__take => k_is)
    (case k_Phrase__take => k_is)
    (case f_Phrase__take => k_is)
    (case c_Phrase__take_word => k_is)
    (case k_Phrase__take_word => k_is)
    (case f_Phrase__take_word => k_is)
    (case c_Phrase__take_class => k_is)
    (case k_Phrase__take_class => k_is)
    (case f_Phrase__take_class => k_is)
    (case c_Phrase__take_request => k_is)
    (case k_Phrase__take_request => k_is)
    (case f_Phrase__take_request => k_is)
    (case c_Phrase__take_start => k_is)
    (case k_Phrase__take_start => k_is)
    (case f_Phrase__take_start => k_is)
    (case c_Phrase_take_all => k_is)
    (case k_Phrase_take_all => k_is)
    (case f_Phrase_take_all => k_is)
    (case c_Phrase___init__ => k_is)
    (case k_Phrase___init__ => k_is)
    (case f_Phrase___init__ => k_is)
    (case pg_Expression => k_is)
    (case hd_Expression => k_is)
    (case po_Expression => k_is)
    (case kC_Expression => k_is)
    (case mk_Expression => k_is)
    (case rd_Expression => k_is)
    (case ga_Expression => k_is)
    (case ic_Expression => k_is)
    (case c_Expression___init__ => k_is)
    (case k_Expression___init__ => k_is)
    (case f_Expression___init__ => k_is)
    (case c_Expression_signs => k_is)
    (case k_Expression_signs => k_is)
    (case f_Expression_signs => k_is)
    (case c_Expression___len__ => k_is)
    (case k_Expression___len__ => k_is)
    (case f_Expression___len__ => k_is)
    (case hn => k_is)
    (case ht => k_is)
    (case hm_Expression => k_is)
    (case c_Expression___eq__ => k_is)
    (case k_Expression___eq__ => k_is)
    (case f_Expression___eq__ => k_is)
    (case c__written => k_is)
    (case k__written => k_is)
    (case c_Expression___str__ => k_is)
    (case k_Expression___str__ => k_is)
    (case f_Expression___str__ => k_is)
    (case c_Expression_leaf => k_is)
    (case k_Expression_leaf => k_is)
    (case c_Expression_asked => k_is)
    (case k_Expression_asked => k_is)
    (case c__checked => k_is)
    (case k__checked => k_is)
    (case c_Expression_read => k_is)
    (case k_Expression_read => k_is)
    (case fn_Expression_read => k_is)
    (case c_Expression_leaves => k_is)
    (case k_Expression_leaves => k_is)
    (case f_Expression_leaves => k_is)
    (case c__law_take => k_is)
    (case k__law_take => k_is)
    (case c__law_bag => k_is)
    (case k__law_bag => k_is)
    (case c__law_of => k_is)
    (case k__law_of => k_is)
    (case c__law_letters => k_is)
    (case k__law_letters => k_is)
    (case c__law_number => k_is)
    (case k__law_number => k_is)
    (case c__law_leaf_right => k_is)
    (case k__law_leaf_right => k_is)
    (case c__law_asked_right => k_is)
    (case k__law_asked_right => k_is)
    (case c_law => k_is)
    (case k_law => k_is)
    (case o_BINARY_SIGNS => decide +kernel)
    (case o_UNARY_SIGNS => decide +kernel)
