import PyProof.Rows.All
import Wide.All
import OpenK.AllK
import Wide.FinOn
import KE.KExcInit
import KE.KExcIs
import PyProof.ListStr
import PyProof.FitsInt
import HandS.ExcInit
import HandS.ExcField
import HandS.ExcIs
import HandS.IsInst
import HandS.Words
import HandS.WordsList
import HandS.Wide
import HandS.Comp
import HandS.Text
import HandS.Iter
import HandS.Walk
import KE.KCallOwn
import OpenK.KMeth
import OpenK.KOps
import HandS.Exc
import HandS.ExcOwn
import HandS.WordsExc
import HandS.ClsMeth
import HandS.More
import HandS.Property
import HandS.FStr
import KE.KOpsOwn
import HandS.List
import PySem.Challenge.RW_heirsback_k87_families_joined
import HandS.DictComp
import HandS.Star
import HandS.OwnEq
import HandS.Defaults
import HandS.AnyAll
import HandS.TryOnly
import HandS.StrMore
import HandS.Style
import KE.KExcLine
set_option Elab.async false
set_option linter.all false
set_option maxRecDepth 100000
set_option maxHeartbeats 8000000
/-! own exceptions held as values: made by their own __init__, their fields stored and read, isinstance -/
namespace EV
open PySem PySem.Spec PyProof.Rows L2 PySem.Builtin PySem.Builtin.ObjectAttr
abbrev Fg := PySem.W.Frag
/-- what the text says of an own exception class at C -/
structure XCls (K : Fg) (C : Addr) : Prop where
  base : ∃ (B nI iI : String) (bmB : List Value), ExcBaseFacts B nI iI bmB ∧ StoreFacts B bmB "object.__setattr__" "object" ∧
    PySem.W.excInitIn K C bmB nI = true ∧ PySem.W.excOver K C bmB = true
  sa : PySem.W.findIn K (.ref C) "__setattr__" = some (some (.builtin "object.__setattr__"))
  ex : ExcC K C
  kC : PySem.W.keepIn K (.ref C) = true
section
variable {X : Cx} {pins : List (Addr × Obj)} {σ : L2.St} {H : Hp} {s : Shared} {a C dx : Addr} {f : Str} {y : V} {u : Value}
variable {fs : List (Str × V)} {Q : Unit → Shared → Prop} {E : Value → Shared → Prop} {A : Around}

/-- the first field -/
theorem put_first (T : XCls X.K C) (I : Inv X pins σ H s) (e : H a = some (exo a C none)) (no : NoAttr X.K C f) (ry : RelV y u)
    (h : ∀ dx s', H dx = none → dx ≠ a → Inv X pins σ (upd (upd H dx (exd dx [(f, y)])) a (exo a C (some dx))) s' → Q () s') :
    wpAny (model X.prog X.w) A (setAttr (.ref a) f u) Q E s := by
  obtain ⟨B, nI, iI, bmB, FB, SF, q1, q2⟩ := T.base
  obtain ⟨t1, ho⟩ := exo_at I.hok e
  obtain ⟨hp, g, d, t, os⟩ := s
  have J : PySem.W.InstAt hp a { cls := .ref C, dict := none, data := .fields #[.ref t1, .none, .none, .none, .bool false, .none] } C none :=
    ⟨ho, rfl, rfl, trivial⟩
  refine PySem.W.set_plain I.kIn J T.sa ?_
  refine PySem.W.osa_openX (s := ⟨hp, g, d, t + 1, os⟩) (r := none) SF I.kIn J q2 no.taker fun b => ?_
  show wpAny _ _ (storeInOwnDict (.ref a) (.ref C) (.str f t) f u b) _ _ _
  obtain ⟨cd, hc, hh⟩ := PySem.W.any_some T.ex.hd
  have hcls : PySem.W.Looks (model X.prog X.w) hp (classData C) cd := PySem.W.looks_clsIn I.kIn hc
  have hxs : a ≠ hp.objs.size := Nat.ne_of_lt (Heap.lt_size ho)
  obtain ⟨nm, bs, mro, ns, qn, hd, sn, sb, ab, col, del⟩ := cd
  dsimp only at hh
  subst hh
  unfold storeInOwnDict ownDictForStores
  repeat (first
    | with_reducible refine PySem.HandSPX.store_in_new ?_ ?_
    | with_reducible refine wpAny_loadPart_at ho ?_
    | with_reducible refine hcls.at ?_
    | wp_step)
  · exact ⟨_, #[], _, (Heap.get?_update_ne _ _ _ _ hxs.symm).trans (Heap.get?_push_at rfl rfl), rfl, fun z hz => absurd hz (by simp), fun _ => rfl⟩
  · intro h' tk' hn hs
    have en : H hp.objs.size = none := I.hok.fresh (Nat.le_refl _)
    have g1 : (hp.push { cls := .type "dict", data := .dict #[] }).get? hp.objs.size = some { cls := .type "dict", data := .dict #[] } :=
      Heap.get?_push_size hp rfl
    have e3 : (hp.push { cls := .type "dict", data := .dict #[] }).Ns hp.objs.size (fun _ => none) :=
      ⟨_, #[], _, g1, rfl, fun z hz => absurd hz (by simp), fun _ => rfl⟩
    have I1 := I.laid (a := hp.objs.size) (o := exd hp.objs.size []) (t' := tk') (h' := hp.push { cls := .type "dict", data := .dict #[] })
      (fun b o q => Heap.get?_push_of_some _ q) (Nat.le_refl _) (exd_ok (fs := []) (Heap.Ns1.of_empty e3) fun _ => True.intro)
    have g2 := Heap.get?_push_of_some (h := hp) { cls := .type "dict", data := .dict #[] } ho
    have ga := Heap.get?_update_self (fun o : Obj => { cls := o.cls, dict := some hp.objs.size, data := o.data, slots := o.slots }) g2 rfl
    have I2 := I1.write (x := a) (e := a) (o := exo a C (some hp.objs.size)) (t' := tk')
      (h' := (hp.push { cls := .type "dict", data := .dict #[] }).update a fun o => { cls := o.cls, dict := some hp.objs.size, data := o.data, slots := o.slots })
      (by rw [upd_ne hxs, e]; exact True.intro) (.inl rfl) (fun b o hb q => (Heap.get?_update_ne _ _ _ _ hb).trans q) ⟨_, ga⟩ (exo_ok ga)
    have I3 := I2.write (x := hp.objs.size) (e := hp.objs.size) (o := exd hp.objs.size [(f, y)]) (t' := tk') (h' := h')
      (by rw [upd_ne hxs.symm, upd_same]; exact True.intro) (.inl rfl) (fun b o hb q => (hs.2 b hb).trans q)
      (let ⟨o, _, _, z, _⟩ := hn; ⟨o, z⟩) (exd_ok hn (relO_put (fs := []) ry fun _ => True.intro))
    have eu : upd (upd (upd H hp.objs.size (exd hp.objs.size [])) a (exo a C (some hp.objs.size))) hp.objs.size (exd hp.objs.size [(f, y)])
        = upd (upd H hp.objs.size (exd hp.objs.size [(f, y)])) a (exo a C (some hp.objs.size)) := by
      funext b
      unfold upd
      by_cases h1 : b = a
      · subst h1
        rw [if_neg hxs, if_pos rfl, if_pos rfl]
      · by_cases h2 : b = hp.objs.size
        · rw [if_pos h2, if_neg h1, if_pos h2]
        · rw [if_neg h2, if_neg h1, if_neg h2, if_neg h1, if_neg h2]
    rw [eu] at I3
    exact h hp.objs.size _ en hxs.symm I3
/-- a further field -/
theorem put_more (T : XCls X.K C) (I : Inv X pins σ H s) (e : H a = some (exo a C (some dx))) (ed : H dx = some (exd dx fs)) (hl : fs.length ≤ 900)
    (no : NoAttr X.K C f) (ry : RelV y u) (h : ∀ s', Inv X pins σ (upd H dx (exd dx ((f, y) :: fs))) s' → Q () s') :
    wpAny (model X.prog X.w) A (setAttr (.ref a) f u) Q E s := by
  obtain ⟨B, nI, iI, bmB, FB, SF, q1, q2⟩ := T.base
  obtain ⟨t1, ho⟩ := exo_at I.hok e
  obtain ⟨mA, hns, rel⟩ := exd_at I.hok ed
  have hw := within_of rel
  obtain ⟨hp, g, d, t, os⟩ := s
  obtain ⟨oD, esD, epD, hoD, hdD, _⟩ := hns.count hw
  have J : PySem.W.InstAt hp a { cls := .ref C, dict := some dx, data := .fields #[.ref t1, .none, .none, .none, .bool false, .none] } C (some oD) :=
    ⟨ho, rfl, rfl, hoD⟩
  refine PySem.W.set_plain I.kIn J T.sa ?_
  refine PySem.W.osa_openX (s := ⟨hp, g, d, t + 1, os⟩) (r := none) SF I.kIn J q2 no.taker fun b => ?_
  show wpAny _ _ (storeInOwnDict (.ref a) (.ref C) (.str f t) f u b) _ _ _
  obtain ⟨cd, hc, hh⟩ := PySem.W.any_some T.ex.hd
  have hcls : PySem.W.Looks (model X.prog X.w) hp (classData C) cd := PySem.W.looks_clsIn I.kIn hc
  obtain ⟨nm, bs, mro, ns, qn, hd, sn, sb, ab, col, del⟩ := cd
  dsimp only at hh
  subst hh
  unfold storeInOwnDict ownDictForStores
  repeat (first
    | with_reducible refine PySem.OEX.store_in_old hns hw ?_ ?_
    | with_reducible refine wpAny_loadPart_at ho ?_
    | with_reducible refine hcls.at ?_
    | wp_step)
  · rw [List.length_map]; omega
  · intro h' tk' hn hs
    have hd : ∃ o, h'.get? dx = some o := by
      obtain ⟨o, _, _, z, _⟩ := hn
      exact ⟨o, z⟩
    exact h _ (I.write (t' := tk') (x := dx) (e := dx) (o := exd dx ((f, y) :: fs)) (by rw [ed]; exact True.intro) (.inl rfl)
      (fun b o hb q => (hs.2 b hb).trans q) hd (exd_ok hn (relO_put ry rel)))
end
/-! ### the statement self.f = e -/
/-- the error at a is of the class at C, its fields are fs -/
def ErrAt (H : Hp) (a C : Addr) (fs : List (Str × V)) : Prop := ∃ d, H a = some (exo a C (some d)) ∧ H d = some (exd d fs)
section
variable {X : Cx} {o e : Expr} {es : List Expr} {to te : TE} {ta : TA} {f : Str} {p p' pos : Pos} {C : Addr}
def tPut1 (K : Fg) (f : Str) (to te : TE) : TS := fun D σ H => te σ H fun y H1 => to σ H1 fun x H2 => ∃ a C : Addr, x = .ref a ∧ XCls K C ∧ NoAttr K C f ∧
  H2 a = some (exo a C none) ∧ ∀ dx, H2 dx = none → dx ≠ a → D.nx σ (upd (upd H2 dx (exd dx [(f, y)])) a (exo a C (some dx)))
def tPut2 (K : Fg) (f : Str) (to te : TE) : TS := fun D σ H => te σ H fun y H1 => to σ H1 fun x H2 => ∃ (a C dx : Addr) (fs : List (Str × V)), x = .ref a ∧ XCls K C ∧ NoAttr K C f ∧
  H2 a = some (exo a C (some dx)) ∧ H2 dx = some (exd dx fs) ∧ fs.length ≤ 900 ∧ D.nx σ (upd H2 dx (exd dx ((f, y) :: fs)))
theorem ps_put1 (ho : PE X o to) (he : PE X e te) (hs : swapsWith e (some (.Attribute o f p')) pos.line X.env = pure false := by rfl) :
    PS X (.Assign [.Attribute o f p'] e pos) (tPut1 X.K f to te) := by
  refine ⟨fun pins s σ H D I h => ?_⟩
  refine plainObj_wpAny_Assign_Attribute (thn (he.run pins s σ H _ I h) fun v s1 hv => ?_) hs
  obtain ⟨y, H1, I1, r1, q1⟩ := hv
  refine thn (ho.run pins s1 σ H1 _ I1 q1) fun u s2 hu => ?_
  obtain ⟨x, H2, I2, r2, a, C, ex, T, no, ea, q⟩ := hu
  subst ex
  obtain rfl : u = Value.ref a := r2
  exact put_first T I2 ea no r1 fun dx s' n ne J => ⟨σ, _, J, q dx n ne⟩
theorem ps_put2 (ho : PE X o to) (he : PE X e te) (hs : swapsWith e (some (.Attribute o f p')) pos.line X.env = pure false := by rfl) :
    PS X (.Assign [.Attribute o f p'] e pos) (tPut2 X.K f to te) := by
  refine ⟨fun pins s σ H D I h => ?_⟩
  refine plainObj_wpAny_Assign_Attribute (thn (he.run pins s σ H _ I h) fun v s1 hv => ?_) hs
  obtain ⟨y, H1, I1, r1, q1⟩ := hv
  refine thn (ho.run pins s1 σ H1 _ I1 q1) fun u s2 hu => ?_
  obtain ⟨x, H2, I2, r2, a, C, dx, fs, ex, T, no, ea, ed, hl, q⟩ := hu
  subst ex
  obtain rfl : u = Value.ref a := r2
  exact put_more T I2 ea ed hl no r1 fun s' J => ⟨σ, _, J, q⟩
/-! ### C(e, ..), a new error as a value -/
def tNew (C : Addr) (sp : Sp) (dvs : List V) (ta : TA) : TE := fun σ H Q => ta σ H fun vs H1 => vs.length ≤ 1000 ∧ ∀ a, H1 a = none →
  sp (.ref a :: (vs ++ dvs)) (upd H1 a (exo a C none)) (fun v H2 => v = .non ∧ Q (.ref a) H2) (fun _ _ _ => False)
theorem pe_new {CX : CXT} {x : Str} {fI : Addr} {k : Nat} {fd : FuncData} {ps : List Str} {sp : Sp} {ds : List Value} {dvs : List V} (T : XCls X.K C)
    (iC : PySem.W.findIn X.K (.ref C) "__init__" = some (some (.ref fI))) (tI : PySem.W.isFn X.K (.ref fI) = true)
    (F1 : FnOk X.prog X.w X.K X.mg X.base CX k fI fd ps sp) (hr : Room (k + 1) X.A) (hb : Binds X.K fd ps ds) (hd : Vals dvs ds)
    (hx : Passes CX X (fun _ _ _ => False)) (hg : Gl X x) (hm : X.mg x = some (.ref C)) (ha : PA X (e :: es) ta)
    (hdb : (x == ("__debug__" : Str)) = false := by decide) (he : starEach (e :: es) X.env = (false, eval e X.env) :: starEach es X.env := by rfl)
    (hpl : (backTo pos (starEach es X.env)).any (·.1) = false := by rfl) :
    PE X (.Call (.Name x p) (e :: es) [] pos) (tNew C sp dvs ta) := by
  refine ⟨fun pins s σ H Q I h => ?_⟩
  obtain ⟨B, nI, iI, bmB, FB, SF, q1, q2⟩ := T.base
  refine wpAny_Call_Name_kw (ld_glob I hg hm ?_ hdb)
  refine PySem.W.callWith_K (h₀ := X.base) I.ok.mod.kin T.kC (thn (ha.run pos pins s σ H _ I h) fun us s1 hu => ?_) he hpl
  obtain ⟨vs, H1, I1, r1, hz, q⟩ := hu
  refine ⟨I1.kIn, ?_⟩
  show wpAny _ _ (call (.ref C) us) _ _ _
  obtain ⟨nm, N', qn, bs, bm, hdct, sn, sub, ab, col, dd, k0, k1, k2, k3, k5, hC, hT⟩ := PySem.W.excInit_of I1.kIn q1
  obtain ⟨oI, hoI, hcI⟩ : ∃ oI, s1.heap.get? fI = some oI ∧ oI.cls = .type "function" := by
    obtain ⟨o, z1, z2⟩ := Option.map_eq_some_iff.mp (show (X.K.lookup fI).map (·.cls) = some (.type "function") from beq_iff_eq.mp tI)
    exact ⟨o, I1.kIn _ _ z1, z2⟩
  obtain ⟨hp, g, dr, tk, os⟩ := s1
  have hsz : hp.objs.size ≤ hp.objs.size + 1 := Nat.le_succ _
  have hn : H1 (hp.objs.size + 1) = none := I1.hok.fresh hsz
  have hq := q (hp.objs.size + 1) hn
  have kk : ∀ b o, hp.get? b = some o → ((hp.push (PySem.W.kdv_tup us)).push (PySem.HandSPX.excO C hp.objs.size)).get? b = some o :=
    fun b o z => Heap.get?_push_of_some _ (Heap.get?_push_of_some _ z)
  have hget : ((hp.push (PySem.W.kdv_tup us)).push (PySem.HandSPX.excO C hp.objs.size)).get? (hp.objs.size + 1) = some (PySem.HandSPX.excO C hp.objs.size) := by heap_get
  have I2 := I1.laid (t' := tk) (a := hp.objs.size + 1) (o := exo (hp.objs.size + 1) C none)
    (h' := (hp.push (PySem.W.kdv_tup us)).push (PySem.HandSPX.excO C hp.objs.size)) kk hsz (exo_ok hget)
  have r2 : Vals (V.ref (hp.objs.size + 1) :: (vs ++ dvs)) (Value.ref (hp.objs.size + 1) :: (us ++ ds)) := .cons rfl (r1.append hd)
  have hl : (Value.ref (hp.objs.size + 1) :: us ++ ds).length = ps.length := by
    have z := r2.length
    rw [F1.len _ _ _ _ hq] at z
    exact z.symm
  have hus : us.length ≤ sizeLine := by
    rw [← Paired.length r1, sizeLine_eq]
    omega
  refine wpAny_call (PySem.HandSPX.call_own FB hT hC (PySem.W.looks_findIn I1.kIn iC) (fun self => PySem.W.exc_bind hoI hcI self) hus
    (codeAny_mono (F1.run _ X.stack _ _ ⟨Value.ref (hp.objs.size + 1) :: us, []⟩ (Value.ref (hp.objs.size + 1) :: (us ++ ds)) _ _ (fun _ _ _ => False)
      (hr.make C us []) (I2.env0.make C us []) (hb _ (Value.ref (hp.objs.size + 1) :: us) I2.kIn hl) r2 hq) fun r s' hq' => ?_))
  cases r with
  | error er => exact hx pins σ _ _ er s' I2 hq'
  | ok fl =>
    cases fl with
    | ret u =>
      obtain ⟨v, H2, I3, rv, ev, q2⟩ := I2.after hq'
      subst ev
      exact ⟨rv, .ref (hp.objs.size + 1), H2, I3, rfl, q2⟩
    | next => exact False.elim hq'
    | brk => exact False.elim hq'
    | cont => exact False.elim hq'
/-! ### e.f of an error -/
def tGet (K : Fg) (te : TE) (f : Str) : TE := fun σ H Q => te σ H fun x H1 => ∃ (a C : Addr) (fs : List (Str × V)) (v : V), x = .ref a ∧ XCls K C ∧ NoAttr K C f ∧
  ErrAt H1 a C fs ∧ fs.lookup f = some v ∧ Q v H1
theorem pe_get {te : TE} (he : PE X e te) (hb : attributeBase e f X.env (eval e X.env) = eval e X.env := by rfl) :
    PE X (.Attribute e f pos) (tGet X.K te f) := by
  refine ⟨fun pins s σ H Q I h => ?_⟩
  refine attr_of hb (thn (he.run pins s σ H _ I h) fun u s1 hu => ?_)
  obtain ⟨x, H1, I1, rx, a, C, fs, v, ex, T, no, ⟨d, ea, ed⟩, l, q⟩ := hu
  subst ex
  obtain rfl : u = Value.ref a := rx
  obtain ⟨t1, ho⟩ := exo_at I1.hok ea
  obtain ⟨mA, hns, hr⟩ := exd_at I1.hok ed
  obtain ⟨od, hod, hl⟩ := lookIn_ns hns
  obtain ⟨u, hu, ru⟩ := RelO.some_of (v := v) (o := mA f) (by rw [← l]; exact hr f)
  have J : PySem.W.InstAt s1.heap a { cls := .ref C, dict := some d, data := .fields #[.ref t1, .none, .none, .none, .bool false, .none] } C (some od) :=
    ⟨ho, rfl, rfl, hod⟩
  exact PySem.HandSPX.exc_get I1.kIn J T.ex.hg T.ex.hk T.ex.hs (PySem.W.findObj_own T.ex.hd no rfl (by rw [hl, hu])) (handed_of ru)
    ⟨v, H1, I1.tok _, ru, q⟩
/-! ### isinstance of an error -/
def rIsX (K : Fg) : List V → Hp → VK → Prop := fun xs H Q => ∃ (a C : Addr) (c : V) (u : Value) (b : Bool) (fs : List (Str × V)), xs = [.ref a, c] ∧ ClsV c u ∧
  ErrAt H a C fs ∧ XCls K C ∧ PySem.W.kitOne K (.ref C) u = some b ∧ Q (.bl b) H
theorem call_isX : CallR X (.builtin "isinstance") (rIsX X.K) := by
  intro pins s σ H xs us Q I r h
  obtain ⟨a, C, c, u, b, fs, rfl, hc, ⟨d, ea, ed⟩, T, ek, q⟩ := h
  obtain ⟨u1, u2, rfl, r1, r2⟩ := vals2 r
  obtain rfl : u1 = Value.ref a := r1
  have e2 := hc.eq r2
  subst e2
  obtain ⟨t1, ho⟩ := exo_at I.hok ea
  obtain ⟨mA, hns, hr⟩ := exd_at I.hok ed
  obtain ⟨od, hod, hl⟩ := lookIn_ns hns
  have J : PySem.W.InstAt s.heap a { cls := .ref C, dict := some d, data := .fields #[.ref t1, .none, .none, .none, .bool false, .none] } C (some od) :=
    ⟨ho, rfl, rfl, hod⟩
  exact PySem.W.kia_one (PySem.W.kitx_exc (by obtain ⟨cd, hc, _⟩ := PySem.W.any_some T.ex.hd; rw [hc]; rfl) T.ex.hg T.ex.hk T.ex.hs T.ex.ha T.ex.hn T.ex.ht T.ex.hm) I.kIn J ek (fun z => nomatch z)
    fun tk => ⟨.bl b, H, I.kept (t' := tk) fun _ _ z => z, rfl, q⟩
end
/-! ### a def, a class by its name -/
structure Ok (P : Program) (w : World) (K : Fg) (mg : Str → Option Value) (base : Heap) (k : Nat) (x : Str) (ps : List Str) (sp : Sp) : Prop where
  ex : ∃ (f : Addr) (fd : FuncData), FnOk P w K mg base CX0 k f fd ps sp ∧ mg x = some (.ref f) ∧ PySem.W.keepIn K (.ref f) = true ∧ Binds K fd ps []
structure OkC (P : Program) (w : World) (K : Fg) (mg : Str → Option Value) (base : Heap) (k : Nat) (x : Str) (C : Addr) (ps : List Str) (sp : Sp) : Prop where
  cl : XCls K C
  nm : mg x = some (.ref C)
  ex : ∃ (f : Addr) (fd : FuncData), FnOk P w K mg base CX0 k f fd ps sp ∧ PySem.W.findIn K (.ref C) "__init__" = some (some (.ref f)) ∧
    PySem.W.isFn K (.ref f) = true ∧ Binds K fd ps []
section
variable {X : Cx} {e : Expr} {es : List Expr} {t : TA} {x : Str} {p pos : Pos} {k : Nat} {ps : List Str} {sp : Sp} {C : Addr}
theorem pe_callO (O : Ok X.prog X.w X.K X.mg X.base k x ps sp) (hr : Room k X.A) (ha : PA X (e :: es) t) (hg : Gl X x := by rfl)
    (hdb : (x == ("__debug__" : Str)) = false := by decide) (he : starEach (e :: es) X.env = (false, eval e X.env) :: starEach es X.env := by rfl)
    (hpl : (backTo pos (starEach es X.env)).any (·.1) = false := by rfl) : PE X (.Call (.Name x p) (e :: es) [] pos) (tCall sp [] E0 t) := by
  obtain ⟨f, fd, G, m, kp, b⟩ := O.ex
  exact pe_call G hr hg m kp b .nil pass0 ha hdb he hpl
theorem pe_newO (O : OkC X.prog X.w X.K X.mg X.base k x C ps sp) (hr : Room (k + 1) X.A) (ha : PA X (e :: es) t) (hg : Gl X x := by rfl)
    (hdb : (x == ("__debug__" : Str)) = false := by decide) (he : starEach (e :: es) X.env = (false, eval e X.env) :: starEach es X.env := by rfl)
    (hpl : (backTo pos (starEach es X.env)).any (·.1) = false := by rfl) : PE X (.Call (.Name x p) (e :: es) [] pos) (tNew C sp [] t) := by
  obtain ⟨f, fd, G, i, kp, b⟩ := O.ex
  exact pe_new O.cl i kp G hr b .nil pass0 hg O.nm ha hdb he hpl
end
/-! ### what is said of heaps -/
theorem same_upd {H : Hp} {p : Addr} {o : HO} (h : H p = none) : Same H (upd H p o) := fun b u z => by
  rw [upd_ne (ne_of_none z h)]
  exact z
theorem same_upd' {H0 H : Hp} {p : Addr} {o : HO} (s : Same H0 H) (h : H0 p = none) : Same H0 (upd H p o) := fun b u z => by
  rw [upd_ne (ne_of_none z h)]
  exact s b u z
theorem ErrAt.same {H H' : Hp} {a C : Addr} {fs : List (Str × V)} (s : Same H H') (h : ErrAt H a C fs) : ErrAt H' a C fs :=
  let ⟨d, z1, z2⟩ := h
  ⟨d, s _ _ z1, s _ _ z2⟩
/-- all but what stands at b is as it was -/
def Keep (b : Addr) (H H' : Hp) : Prop := ∀ a o, a ≠ b → H a = some o → H' a = some o
theorem Keep.refl {b : Addr} (H : Hp) : Keep b H H := fun _ _ _ z => z
theorem Keep.trans {b : Addr} {H H1 H2 : Hp} (x : Keep b H H1) (y : Keep b H1 H2) : Keep b H H2 := fun a o n z => y a o n (x a o n z)
theorem Keep.of {b : Addr} {H H' : Hp} (s : Same H H') : Keep b H H' := fun a o _ z => s a o z
theorem Keep.upd {b : Addr} {H : Hp} {o : HO} : Keep b H (upd H b o) := fun a u n z => by
  rw [upd_ne n]
  exact z
theorem ErrAt.keep {b : Addr} {H H' : Hp} {a C : Addr} {fs : List (Str × V)} (s : Keep b H H') (h : ErrAt H a C fs) {l : List V} (hb : H b = some (.lst l)) : ErrAt H' a C fs :=
  let ⟨d, z1, z2⟩ := h
  ⟨d, s _ _ (ne_of z1 hb (by intro q; cases q)) z1, s _ _ (ne_of z2 hb (by intro q; cases q)) z2⟩
/-! ### list(text) -/
def signsV (z : Str) : List V := z.cps.toList.map fun c => V.str ⟨#[c]⟩
theorem signs_vals (z : Str) : ∀ (l : List Nat) (its : List Value), its.length = l.length →
    (∀ (j : Nat) (v : Value), its[j]? = some v → ∃ (c : Nat) (u : Tok), l[j]? = some c ∧ v = Value.str ⟨#[c]⟩ u) → Vals (l.map fun c => V.str ⟨#[c]⟩) its
  | [], [], _, _ => .nil
  | [], _ :: _, h, _ => absurd h (by simp)
  | _ :: _, [], h, _ => absurd h (by simp)
  | c :: l, v :: its, h, k => by
    refine .cons ?_ (signs_vals z l its (by simpa using h) fun j u q => ?_)
    · obtain ⟨c', u, e1, e2⟩ := k 0 v rfl
      cases e1
      exact ⟨u, e2⟩
    · exact k (j + 1) u (by simpa using q)
theorem call_list_text {X : Cx} (hc : X.calm = true) : CallR X (.type "list") (fun xs H Q => ∃ z, xs = [.str z] ∧ z.length ≤ sizeLine ∧
    ∀ l, H l = none → Q (.ref l) (upd H l (.lst (signsV z)))) := by
  intro pins s σ H xs us Q I r h
  obtain ⟨z, rfl, hz, q⟩ := h
  obtain ⟨u, rfl, t, rfl⟩ := vals1 r
  have hl : z.cps.size ≤ sizeLine := hz
  refine call_list_str (hn := hl) (I.ok.hd hc) z t fun h' tk acc' c' hk hS hacc => ?_
  have hn : H s.heap.objs.size = none := I.hok.fresh (Nat.le_refl _)
  have hv : Vals (signsV z) acc'.toList := by
    refine signs_vals z _ _ (by rw [Array.length_toList, Array.length_toList, hacc.1]) fun j v q => ?_
    obtain ⟨c, u, e1, e2⟩ := hacc.2 j v (by rw [← Array.getElem?_toList]; exact q)
    exact ⟨c, u, by rw [Array.getElem?_toList]; exact e1, e2⟩
  refine ⟨.ref s.heap.objs.size, _, I.laid (a := s.heap.objs.size) (o := .lst (signsV z)) (t' := tk) hk (Nat.le_refl _) ⟨?_, acc'.toList, c', hv, ?_⟩, rfl, q _ hn⟩
  · show (z.cps.toList.map _).length ≤ sizeLine
    rw [List.length_map, Array.length_toList]
    exact hl
  · simpa using hS
/-! ### where ways meet: what is wanted between -/
section
variable {X : Cx} {e : Expr} {te : TE} {tt : TT} {st : Stmt} {ts : TS}
def tMid (t : TE) : TE := fun σ H Q => ∃ Q0 : VK, t σ H Q0 ∧ ∀ x H1, Q0 x H1 → Q x H1
theorem pe_mid (h : PE X e te) : PE X e (tMid te) := by
  refine ⟨fun pins s σ H Q I hq => ?_⟩
  obtain ⟨Q0, h0, k⟩ := hq
  exact thn (h.run pins s σ H Q0 I h0) fun u s1 hu => by
    obtain ⟨v, H1, I1, r, q⟩ := hu
    exact ⟨v, H1, I1, r, k _ _ q⟩
def bMid (t : TT) : TT := fun σ H Q => ∃ Q0 : Bool → Hp → Prop, t σ H Q0 ∧ ∀ x H1, Q0 x H1 → Q x H1
theorem pt_mid (h : PT X e tt) : PT X e (bMid tt) := by
  refine ⟨fun pins s σ H Q I hq => ?_⟩
  obtain ⟨Q0, h0, k⟩ := hq
  exact thn (h.run pins s σ H Q0 I h0) fun u s1 hu => by
    obtain ⟨H1, I1, q⟩ := hu
    exact ⟨H1, I1, k _ _ q⟩
def sMid (t : TS) : TS := fun D σ H => ∃ M : L2.St → Hp → Prop, t { D with nx := M } σ H ∧ ∀ σ' H', M σ' H' → D.nx σ' H'
theorem ps_mid (h : PS X st ts) : PS X st (sMid ts) := by
  refine ⟨fun pins s σ H D I hq => ?_⟩
  obtain ⟨M, h0, k⟩ := hq
  refine thn (h.run pins s σ H _ I h0) fun f s1 hf => ?_
  cases f with
  | next =>
    obtain ⟨σ', H', I', q⟩ := hf
    exact ⟨σ', H', I', k _ _ q⟩
  | ret v => exact hf
  | brk => exact hf
  | cont => exact hf
end
theorem same_keep {H0 H H' : Hp} {b : Addr} (s : Same H0 H) (n : H0 b = none) (k : Keep b H H') : Same H0 H' := fun a o z =>
  k a o (ne_of_none z n) (s a o z)
/-! ### lists of truth values, compared -/
theorem dp_bools {K : Fg} {H : Hp} {p : Addr} {bs : List Bool} (h : H p = some (.lst (bs.map V.bl))) : Dp K H (.ref p) (.list (bs.map PyData.bool)) := by
  refine .lst (SqL.of h) ?_
  clear h
  induction bs with
  | nil => exact .nil
  | cons b bs ih => exact .cons (.bl b) ih
theorem can_bools (bs : List Bool) : PyData.canLay0 (.list (bs.map PyData.bool)) = true := by
  rw [PyData.canLay0]
  induction bs with
  | nil => rfl
  | cons b bs ih =>
    rw [List.map_cons, PyData.canLayAll0, PyData.canLay0, ih]
    rfl
theorem depth_bools (bs : List Bool) : PyData.depthAll (bs.map PyData.bool) ≤ 1 := by
  induction bs with
  | nil => simp [PyData.depthAll]
  | cons b bs ih => simp only [List.map_cons, PyData.depthAll, PyData.depth]; omega
theorem shaped_bools (bs : List Bool) : SeqAt.shaped (.list (bs.map PyData.bool)) = true := by
  unfold SeqAt.shaped
  rw [can_bools, Bool.true_and]
  refine decide_eq_true ?_
  have q := depth_bools bs
  rw [PyData.depth]
  omega
/-- two lists of the same truth values are not unlike -/
theorem ne_bools {K : Fg} {H : Hp} {p q : Addr} {bs : List Bool} {Q : VK} (h1 : H p = some (.lst (bs.map V.bl))) (h2 : H q = some (.lst (bs.map V.bl))) (k : Q (.bl false) H) :
    rNeD K (.ref p) (.ref q) H Q := by
  refine ⟨_, _, dp_bools h1, dp_bools h2, shaped_bools bs, shaped_bools bs, ?_⟩
  rw [SeqAt.eqv_refl _ (can_bools bs)]
  exact k
end EV

/-! rules for objects of own classes: methods by one word, own __contains__, __len__, __str__, cls(..), own errors raised -/
namespace EV
open PySem PySem.Spec PyProof.Rows L2
/-- a def that may raise -/
structure OkX (P : Program) (w : World) (K : Fg) (mg : Str → Option Value) (base : Heap) (k : Nat) (x : Str) (ps : List Str) (sp : Sp) : Prop where
  ex : ∃ (f : Addr) (fd : FuncData), FnOk P w K mg base (L2.CX P w) k f fd ps sp ∧ mg x = some (.ref f) ∧ PySem.W.keepIn K (.ref f) = true ∧ Binds K fd ps []
/-- a method of the class at C (cx: what leaves it) -/
structure OkM (cx : CXT) (P : Program) (w : World) (K : Fg) (mg : Str → Option Value) (base : Heap) (k : Nat) (C : Addr) (m : Str) (ps : List Str) (sp : Sp) : Prop where
  ex : ∃ (f : Addr) (fd : FuncData), FnOk P w K mg base cx k f fd ps sp ∧ Meth K C m f ∧ Binds K fd ps []
/-- the class at C, made by its own __init__ -/
structure OkI (P : Program) (w : World) (K : Fg) (mg : Str → Option Value) (base : Heap) (k : Nat) (x : Str) (C : Addr) (ps : List Str) (sp : Sp) : Prop where
  nm : mg x = some (.ref C)
  ex : ∃ (f : Addr) (fd : FuncData), FnOk P w K mg base CX0 k f fd ps sp ∧ Mk K C f ∧ Binds K fd ps []
/-- a classmethod of the class at C -/
structure OkCM (P : Program) (w : World) (K : Fg) (mg : Str → Option Value) (base : Heap) (k : Nat) (C : Addr) (m : Str) (ps : List Str) (sp : Sp) : Prop where
  ex : ∃ (p g : Addr) (fd : FuncData) (mc : Value), FnOk P w K mg base (L2.CX P w) k g fd ps sp ∧ ClX.CRead K C mc ∧ ClX.CMet K C mc m p g ∧ Binds K fd ps []
section
variable {X : Cx} {e o : Expr} {es : List Expr} {t : TA} {ta : TE} {x m : Str} {p pos apos : Pos} {k : Nat} {ps : List Str} {sp : Sp} {C : Addr} {W : WX}
/-! ### calls whose error is taken by W -/
theorem pe_callX (tk : Takes X W) (O : OkX X.prog X.w X.K X.mg X.base k x ps sp) (hr : Room k X.A) (ha : PA X (e :: es) t) (hg : Gl X x := by rfl)
    (hdb : (x == ("__debug__" : Str)) = false := by decide) (he : starEach (e :: es) X.env = (false, eval e X.env) :: starEach es X.env := by rfl)
    (hpl : (backTo pos (starEach es X.env)).any (·.1) = false := by rfl) : PE X (.Call (.Name x p) (e :: es) [] pos) (tCallS sp (WE W) t) := by
  obtain ⟨f, fd, G, m, kp, b⟩ := O.ex
  exact pe_callS G hr hg m kp b (fun σ => passAt tk σ) ha hdb he hpl
def tMethS (C : Addr) (m : Str) (sp : Sp) (E : L2.St → XK) (ta : TE) (t : TA) : TE := fun σ H Q => ta σ H fun x H1 => ∃ a dx fs, x = .ref a ∧ H1 a = some (.ins C dx fs) ∧ fs.lookup m = none ∧ t σ H1 fun vs H2 => sp (x :: vs) H2 Q (E σ)
theorem pe_methX {pl : Sem Bool} (tk : Takes X W) (he : PE X o ta) (c : Cls X.K C) (O : OkM (L2.CX X.prog X.w) X.prog X.w X.K X.mg X.base k C m ps sp) (hr : Room k X.A) (ha : PA X (e :: es) t)
    (hst : starEach (e :: es) X.env = (false, eval e X.env) :: starEach es X.env := by rfl) (hpl : (backTo pos (starEach es X.env)).any (·.1) = false := by rfl)
    (ht : eval (.Call (.Attribute o m apos) (e :: es) [] pos) X.env = (do
      let ov ← eval o X.env
      standAt apos.atName
      let (f, first) ← holding [ov] (getMethod ov m pl)
      callWith pos f first (backTo pos (starEach (e :: es) X.env)) (backToKw pos (keywordEach [] X.env))) := by rfl) :
    PE X (.Call (.Attribute o m apos) (e :: es) [] pos) (tMethS C m sp (WE W) ta t) := by
  obtain ⟨f, fd, F, hm, hb⟩ := O.ex
  refine ⟨fun pins s σ H Q I h => ?_⟩
  refine PySem.W.methodCall_KW (pl := pl) (thn (he.run pins s σ H _ I h) fun u s1 ⟨x, H1, I1, rx, a, dx, fs, ex, ea, l, q⟩ => ?_) ht
  subst ex
  obtain rfl : u = Value.ref a := rx
  refine getmeth_ok I1 ea c hm l ?_
  refine PySem.W.callWith_K (first := [.ref a]) (h₀ := X.base) I.ok.mod.kin hm.kp (thn (ha.run pos pins s1 σ H1 _ I1 q) fun us s2 ⟨vs, H2, I2, r, q2⟩ => ⟨I2.kIn, ?_⟩) hst hpl
  exact run_fnS (us := .ref a :: us) (vs := .ref a :: vs) (E := WE W) F hr hb (passAt tk σ) I2 (.cons rfl r) q2
theorem pe_methO {pl : Sem Bool} (he : PE X o ta) (c : Cls X.K C) (O : OkM CX0 X.prog X.w X.K X.mg X.base k C m ps sp) (hr : Room k X.A) (ha : PA X (e :: es) t)
    (hst : starEach (e :: es) X.env = (false, eval e X.env) :: starEach es X.env := by rfl) (hpl : (backTo pos (starEach es X.env)).any (·.1) = false := by rfl)
    (ht : eval (.Call (.Attribute o m apos) (e :: es) [] pos) X.env = (do
      let ov ← eval o X.env
      standAt apos.atName
      let (f, first) ← holding [ov] (getMethod ov m pl)
      callWith pos f first (backTo pos (starEach (e :: es) X.env)) (backToKw pos (keywordEach [] X.env))) := by rfl) :
    PE X (.Call (.Attribute o m apos) (e :: es) [] pos) (tMeth C m sp [] E0 ta t) := by
  obtain ⟨f, fd, F, hm, hb⟩ := O.ex
  exact pe_meth he c hm F hr hb .nil pass0 ha hst hpl ht
theorem pe_methO0 {pl : Sem Bool} (he : PE X o ta) (c : Cls X.K C) (O : OkM CX0 X.prog X.w X.K X.mg X.base k C m ps sp) (hr : Room k X.A)
    (ht : eval (.Call (.Attribute o m apos) [] [] pos) X.env = (do
      let ov ← eval o X.env
      standAt apos.atName
      let (f, first) ← holding [ov] (getMethod ov m pl)
      callWith pos f first (backTo pos (starEach [] X.env)) (backToKw pos (keywordEach [] X.env))) := by rfl) :
    PE X (.Call (.Attribute o m apos) [] [] pos) (tMeth C m sp [] E0 ta tNil) := by
  obtain ⟨f, fd, F, hm, hb⟩ := O.ex
  exact pe_meth0 he c hm F hr hb .nil pass0 ht
/-- C(e, ..), the class by its name -/
theorem pe_makeO (O : OkI X.prog X.w X.K X.mg X.base k x C ps sp) (hr : Room (k + 1) X.A) (ha : PA X (e :: es) t) (hg : Gl X x := by rfl)
    (hdb : (x == ("__debug__" : Str)) = false := by decide) (he : starEach (e :: es) X.env = (false, eval e X.env) :: starEach es X.env := by rfl)
    (hpl : (backTo pos (starEach es X.env)).any (·.1) = false := by rfl) : PE X (.Call (.Name x p) (e :: es) [] pos) (tMake C sp [] E0 t) := by
  obtain ⟨f, fd, F, M, b⟩ := O.ex
  exact pe_make M F hr hg O.nm b .nil pass0 ha hdb he hpl
/-- cls(e, ..), the class in a slot -/
def tMakeV (C : Addr) (sp : Sp) (tf : TE) (t : TA) : TE := fun σ H Q => tf σ H fun c H1 => c = .ref C ∧ tMake C sp [] E0 t σ H1 Q
theorem pe_makeV {y : Str} (O : OkI X.prog X.w X.K X.mg X.base k y C ps sp) (hr : Room (k + 1) X.A) (hf : PE X (.Name x p) ta) (ha : PA X (e :: es) t)
    (he : starEach (e :: es) X.env = (false, eval e X.env) :: starEach es X.env := by rfl)
    (hpl : (backTo pos (starEach es X.env)).any (·.1) = false := by rfl) : PE X (.Call (.Name x p) (e :: es) [] pos) (tMakeV C sp ta t) := by
  obtain ⟨f, fd, F, M, b⟩ := O.ex
  refine ⟨fun pins s σ H Q I h => ?_⟩
  refine wpAny_Call_Name_kw (thn (hf.run pins s σ H _ I h) fun u s1 ⟨c, H1, I1, rc, ec, q1⟩ => ?_)
  subst ec
  obtain rfl : u = Value.ref C := rc
  refine PySem.W.callWith_K (h₀ := X.base) I.ok.mod.kin M.kp (thn (ha.run pos pins s1 σ H1 _ I1 q1) fun us s2 ⟨vs, H2, I2, r, q⟩ => ⟨I2.kIn, ?_⟩) he hpl
  exact run_make M F hr b .nil pass0 I2 r q
/-! ### x in o, len(o), str(o) -/
theorem ins_inst {pins : List (Addr × Obj)} {σ : L2.St} {H : Hp} {s : Shared} {a dx : Addr} {fs : List (Str × V)} (I : Inv X pins σ H s) (ea : H a = some (.ins C dx fs)) : ∃ ox od, PySem.W.InstAt s.heap a ox C (some od) := by
  obtain ⟨mA, O, _, _, _, _⟩ := ins_get I.hok ea
  obtain ⟨od, J, _⟩ := O.look
  exact ⟨_, od, J⟩
def rInOwn (C : Addr) (sp : Sp) (neg : Bool) : R2 := fun x y H Q => ∃ a dx fs, y = .ref a ∧ H a = some (.ins C dx fs) ∧ sp [.ref a, x] H (fun v H2 => ∃ b : Bool, v = .bl b ∧ Q (.bl (if neg then !b else b)) H2) E0
theorem op_inO (O : OkM CX0 X.prog X.w X.K X.mg X.base k C "__contains__" ps sp) (hr : Room k X.A) : OpR X (compareOp .In) (rInOwn C sp false) := by
  intro pins s σ H x y v u Q I rx ry h
  obtain ⟨a, dx, fs, rfl, ea, q⟩ := h
  obtain rfl : u = Value.ref a := ry
  obtain ⟨f, fd, F, hm, hb⟩ := O.ex
  obtain ⟨ox, od, J⟩ := ins_inst I ea
  obtain ⟨m, fr⟩ := I.fr
  refine PySem.W.in_K fr I.ok.mod.kin J hm.at_ hm.fn ?_
  refine thn (run_fn (us := [.ref a, v]) (vs := [.ref a, x]) (dvs := []) F hr hb .nil pass0 I (.cons rfl (.cons rx .nil)) q) fun r s1 hh => ?_
  obtain ⟨z, H2, I2, rz, b, ez, q2⟩ := hh
  subst ez
  obtain rfl : r = Value.bool b := rz
  exact wpAny_truthy_bool ⟨.bl b, H2, I2, rfl, q2⟩
theorem op_notInO (O : OkM CX0 X.prog X.w X.K X.mg X.base k C "__contains__" ps sp) (hr : Room k X.A) : OpR X (compareOp .NotIn) (rInOwn C sp true) := by
  intro pins s σ H x y v u Q I rx ry h
  obtain ⟨a, dx, fs, rfl, ea, q⟩ := h
  obtain rfl : u = Value.ref a := ry
  obtain ⟨f, fd, F, hm, hb⟩ := O.ex
  obtain ⟨ox, od, J⟩ := ins_inst I ea
  obtain ⟨m, fr⟩ := I.fr
  refine PySem.W.notIn_K fr I.ok.mod.kin J hm.at_ hm.fn ?_
  refine thn (run_fn (us := [.ref a, v]) (vs := [.ref a, x]) (dvs := []) F hr hb .nil pass0 I (.cons rfl (.cons rx .nil)) q) fun r s1 hh => ?_
  obtain ⟨z, H2, I2, rz, b, ez, q2⟩ := hh
  subst ez
  obtain rfl : r = Value.bool b := rz
  exact wpAny_truthy_bool ⟨.bl (!b), H2, I2, rfl, q2⟩
/-- a def, run where a builtin runs -/
theorem run_in {A : Around} {Q : Value → Shared → Prop} {E : Value → Shared → Prop} {f : Addr} {fd : FuncData} {ps : List Str} {sp : Sp} {pins : List (Addr × Obj)} {σ : L2.St} {H : Hp} {s : Shared} {us : List Value} {vs : List V} {QV : VK}
    (F : FnOk X.prog X.w X.K X.mg X.base CX0 k f fd ps sp) (hr : Room k A) (hf : A.frames = X.A.frames) (hb : Binds X.K fd ps []) (I : Inv X pins σ H s) (r : Vals vs us) (h : sp vs H QV E0)
    (hQ : ∀ v s', EP X pins σ QV v s' → Q v s') : wpAny (model X.prog X.w) A (call (.ref f) us) Q E s := by
  have hl : us.length = ps.length := by rw [← r.length]; exact F.len _ _ _ _ h
  have b := hb s us I.kIn (by rw [List.append_nil]; exact hl)
  rw [List.append_nil] at b
  have e0 := I.env0
  refine wpAny_call (codeAny_mono (F.run A X.stack s H ⟨us, []⟩ us vs QV E0 hr { e0 with frames := hf.trans e0.frames } b r h) fun z s' hq => ?_)
  cases z with
  | error er => exact False.elim hq
  | ok fl =>
    cases fl with
    | ret u => exact hQ _ _ (I.after hq)
    | next => exact False.elim hq
    | brk => exact False.elim hq
    | cont => exact False.elim hq
theorem call_lenO (O : OkM CX0 X.prog X.w X.K X.mg X.base k C "__len__" ps sp) (hr : Room (k + 1) X.A) : CallR X (.builtin "len") (fun xs H Q => ∃ a dx fs, xs = [.ref a] ∧ H a = some (.ins C dx fs) ∧
    sp [.ref a] H (fun v H2 => ∃ n : Int, v = .int n ∧ 0 ≤ n ∧ n < 2 ^ 63 ∧ Q (.int n) H2) E0) := by
  intro pins s σ H xs us Q I r h
  obtain ⟨a, dx, fs, rfl, ea, q⟩ := h
  obtain ⟨u, rfl, ru⟩ := vals1 r
  obtain rfl : u = Value.ref a := ru
  obtain ⟨f, fd, F, hm, hb⟩ := O.ex
  obtain ⟨ox, od, J⟩ := ins_inst I ea
  obtain ⟨m, fr⟩ := I.fr
  refine PySem.W.len_K fr I.ok.mod.kin J hm.at_ hm.fn (run_in (vs := [.ref a]) F hr.in1 rfl hb I (.cons rfl .nil) q fun v s' hh => ?_)
  obtain ⟨z, H2, I2, rz, n, ez, n0, n1, q2⟩ := hh
  subst ez
  obtain ⟨t, rfl⟩ := rz
  exact ⟨⟨n0, n1⟩, ⟨.int n, H2, I2.tok _, ⟨_, rfl⟩, q2⟩⟩
theorem call_strO (O : OkM CX0 X.prog X.w X.K X.mg X.base k C "__str__" ps sp) (hr : Room (k + 2) X.A) : CallR X (.type "str") (fun xs H Q => ∃ a dx fs, xs = [.ref a] ∧ H a = some (.ins C dx fs) ∧
    sp [.ref a] H (fun v H2 => ∃ z : Str, v = .str z ∧ Q (.str z) H2) E0) := by
  intro pins s σ H xs us Q I r h
  obtain ⟨a, dx, fs, rfl, ea, q⟩ := h
  obtain ⟨u, rfl, ru⟩ := vals1 r
  obtain rfl : u = Value.ref a := ru
  obtain ⟨f, fd, F, hm, hb⟩ := O.ex
  obtain ⟨ox, od, J⟩ := ins_inst I ea
  have h2 : Room k X.A.in1.in1 := (Room.in1 (k := k + 1) hr).in1
  refine PySem.W.kso_call (h2.units0) I.kIn J hm.at_ hm.fn (run_in (vs := [.ref a]) F h2 rfl hb I (.cons rfl .nil) q fun v s' hh => ?_)
  obtain ⟨z, H2, I2, rz, y, ez, q2⟩ := hh
  subst ez
  obtain ⟨t, rfl⟩ := rz
  exact ⟨.str y, H2, I2, ⟨_, rfl⟩, q2⟩
/-! ### a == b, both of the class at C, by C's own __eq__ -/
def rEqO (C : Addr) (sp : Sp) : R2 := fun x y H Q => ∃ a b dx dy fs gs, x = .ref a ∧ y = .ref b ∧ H a = some (.ins C dx fs) ∧ H b = some (.ins C dy gs) ∧
  sp [.ref a, .ref b] H (fun v H2 => ∃ c : Bool, v = .bl c ∧ Q (.bl c) H2) E0
theorem op_eqO (O : OkM CX0 X.prog X.w X.K X.mg X.base k C "__eq__" ps sp) (hr : Room k X.A) : OpR X (compareOp .Eq) (rEqO C sp) := by
  intro pins s σ H x y v u Q I rx ry h
  obtain ⟨a, b, dx, dy, fs, gs, rfl, rfl, ea, eb, q⟩ := h
  obtain rfl : v = Value.ref a := rx
  obtain rfl : u = Value.ref b := ry
  obtain ⟨f, fd, F, hm, hb⟩ := O.ex
  obtain ⟨ox, od, J⟩ := ins_inst I ea
  obtain ⟨oy, od', J'⟩ := ins_inst I eb
  obtain ⟨m, fr⟩ := I.fr
  show wpAny (model X.prog X.w) X.A (richCompare .Eq (.ref a) (.ref b)) (EP X pins σ Q) X.xe s
  refine PySem.W.cmp_K (op := .Eq) (tb := .ref C) hr.units0 fr I.ok.mod.kin J J'.type (by simp [PySem.W.notFirst]) hm.at_ hm.fn ?_
  refine thn (run_fn (us := [.ref a, .ref b]) (vs := [.ref a, .ref b]) (dvs := []) F hr hb .nil pass0 I (.cons rfl (.cons rfl .nil)) q) fun r s1 hh => ?_
  obtain ⟨z, H2, I2, rz, c, ez, q2⟩ := hh
  subst ez
  obtain rfl : r = Value.bool c := rz
  exact ⟨.bl c, H2, I2, rfl, q2⟩
/-! ### C.m(..), m a classmethod that may raise -/
theorem pe_cmethX {pl : Sem Bool} (tk : Takes X W) (he : PE X o ta) (O : OkCM X.prog X.w X.K X.mg X.base k C m ps sp) (hr : Room k X.A) (ha : PA X (e :: es) t)
    (hst : starEach (e :: es) X.env = (false, eval e X.env) :: starEach es X.env := by rfl) (hpl : (backTo pos (starEach es X.env)).any (·.1) = false := by rfl)
    (ht : eval (.Call (.Attribute o m apos) (e :: es) [] pos) X.env = (do
      let ov ← eval o X.env
      standAt apos.atName
      let (f, first) ← holding [ov] (getMethod ov m pl)
      callWith pos f first (backTo pos (starEach (e :: es) X.env)) (backToKw pos (keywordEach [] X.env))) := by rfl) :
    PE X (.Call (.Attribute o m apos) (e :: es) [] pos) (fun σ H Q => ta σ H fun x H1 => x = .ref C ∧ t σ H1 fun vs H2 => sp (.ref C :: vs) H2 Q (WE W σ)) := by
  obtain ⟨p, g, fd, mc, F, r, c, hb⟩ := O.ex
  refine ⟨fun pins s σ H Q I h => ?_⟩
  refine PySem.W.methodCall_KW (pl := pl) (thn (he.run pins s σ H _ I h) fun u s1 ⟨x, H1, I1, rx, ex, q⟩ => ?_) ht
  subst ex
  obtain rfl : u = Value.ref C := rx
  refine ClX.getmethcm_ok I1 r c fun s2 I2 => ?_
  refine ClX.callwith_cm I2 (ClX.base_none I1 (Nat.le_refl _)) c.fi (thn (ha.run pos _ s2 σ H1 _ I2 q) fun us s3 ⟨vs, H2, I3, rv, q2⟩ => ⟨⟨ClX.pin_at I3, I3.kIn⟩, ?_⟩) hst hpl
  have hl : (Value.ref C :: us).length = ps.length := by
    have z : Vals (V.ref C :: vs) (Value.ref C :: us) := .cons rfl rv
    rw [← z.length]
    exact F.len _ _ _ _ q2
  have bb := hb s3 (.ref C :: us) I3.kIn (by rw [List.append_nil]; exact hl)
  rw [List.append_nil] at bb
  refine thn (Q := EP X ((s1.heap.objs.size, PySem.W.methodObj (.ref g) (.ref C)) :: pins) σ Q) (wpAny_call (PySem.W.method_call (ClX.pin_at I3) (codeAny_mono (F.run X.A X.stack s3 H2 ⟨.ref C :: us, []⟩ (.ref C :: us) (.ref C :: vs) Q (WE W σ) hr I3.env0 bb (.cons rfl rv) q2) fun z s' hq => ?_))) fun _ _ y => ClX.unpinE y
  cases z with
  | error er => exact passAt tk σ _ _ _ _ _ I3 hq
  | ok fl =>
    cases fl with
    | ret u => exact I3.after hq
    | next => exact False.elim hq
    | brk => exact False.elim hq
    | cont => exact False.elim hq
/-! ### raise C(e, ..), C an own error with its own __init__ -/
theorem pmk_x {C : Addr} (O : OkC X.prog X.w X.K X.mg X.base k x C ps sp) (ty : PySem.W.typeIn X.K (.ref C) = some (.type "type")) (hr : Room (k + 1) X.A) (ha : PA X (e :: es) t) (hg : Gl X x := by rfl)
    (hdb : (x == ("__debug__" : Str)) = false := by decide) (he : starEach (e :: es) X.env = (false, eval e X.env) :: starEach es X.env := by rfl)
    (hpl : (backTo pos (starEach es X.env)).any (·.1) = false := by rfl) : PMk X (.Call (.Name x p) (e :: es) [] pos) (tMkO C sp [] t) := by
  obtain ⟨fI, fd, F1, iC, tI, hb⟩ := O.ex
  intro pins s σ H Q I h
  obtain ⟨B, nI, iI, bmB, FB, SF, q1, q2⟩ := O.cl.base
  refine wpAny_Call_Name_kw (ld_glob I hg O.nm ?_ hdb)
  refine PySem.W.callWith_K (h₀ := X.base) I.ok.mod.kin O.cl.kC (thn (ha.run pos pins s σ H _ I h) fun us s1 hu => ?_) he hpl
  obtain ⟨vs, H1, I1, r1, hz, q⟩ := hu
  refine ⟨I1.kIn, ?_⟩
  show wpAny _ _ (call (.ref C) us) _ _ _
  obtain ⟨nm, N', qn, bs, bm, hdct, sn, sub, ab, col, dd, k0, k1, k2, k3, k5, hC, hT⟩ := PySem.W.excInit_of I1.kIn q1
  obtain ⟨oI, hoI, hcI⟩ : ∃ oI, s1.heap.get? fI = some oI ∧ oI.cls = .type "function" := by
    obtain ⟨o, z1, z2⟩ := Option.map_eq_some_iff.mp (show (X.K.lookup fI).map (·.cls) = some (.type "function") from beq_iff_eq.mp tI)
    exact ⟨o, I1.kIn _ _ z1, z2⟩
  obtain ⟨hp, g, dr, tk, os⟩ := s1
  have hsz : hp.objs.size ≤ hp.objs.size + 1 := Nat.le_succ _
  have hq := q (hp.objs.size + 1) (I1.hok.fresh hsz)
  rw [List.append_nil] at hq
  have kk : ∀ b o, hp.get? b = some o → ((hp.push (PySem.W.kdv_tup us)).push (PySem.HandSPX.excO C hp.objs.size)).get? b = some o :=
    fun b o z => Heap.get?_push_of_some _ (Heap.get?_push_of_some _ z)
  have hget : ((hp.push (PySem.W.kdv_tup us)).push (PySem.HandSPX.excO C hp.objs.size)).get? (hp.objs.size + 1) = some (PySem.HandSPX.excO C hp.objs.size) := by heap_get
  have I2 := I1.laid (t' := tk) (a := hp.objs.size + 1) (o := exo (hp.objs.size + 1) C none)
    (h' := (hp.push (PySem.W.kdv_tup us)).push (PySem.HandSPX.excO C hp.objs.size)) kk hsz (exo_ok hget)
  have r2 : Vals (V.ref (hp.objs.size + 1) :: vs) (Value.ref (hp.objs.size + 1) :: us) := .cons rfl r1
  have hl : (Value.ref (hp.objs.size + 1) :: us ++ []).length = ps.length := by
    have z := r2.length
    rw [F1.len _ _ _ _ hq] at z
    rw [List.append_nil]
    exact z.symm
  have bb := hb _ (Value.ref (hp.objs.size + 1) :: us) I2.kIn hl
  rw [List.append_nil] at bb
  have hus : us.length ≤ sizeLine := by
    rw [← Paired.length r1, sizeLine_eq]
    omega
  refine wpAny_call (PySem.HandSPX.call_own FB hT hC (PySem.W.looks_findIn I1.kIn iC) (fun self => PySem.W.exc_bind hoI hcI self) hus
    (codeAny_mono (F1.run _ X.stack _ _ ⟨Value.ref (hp.objs.size + 1) :: us, []⟩ (Value.ref (hp.objs.size + 1) :: us) _ _ (fun _ _ _ => False)
      (hr.make C us []) (I2.env0.make C us []) bb r2 hq) fun r s' hq' => ?_))
  cases r with
  | error er => exact False.elim hq'
  | ok fl =>
    cases fl with
    | ret u =>
      obtain ⟨v, H2, os2, bare2, un2, hok2, rv, ev, d, fs, ea, ed, hd1, q2⟩ := hq'
      subst ev
      obtain ⟨h2, g2, d2, t2, os'⟩ := s'
      exact ⟨rv, mk_end (raises_own O.cl.ex.hs ty) I1 hsz kk un2 hok2 os2 bare2 ea ed hd1 q2⟩
    | next => exact False.elim hq'
    | brk => exact False.elim hq'
    | cont => exact False.elim hq'
/-- a global by its name, its value known up to the token -/
theorem pe_gv {v : V} {x : Str} {pos : Pos} (h : ∃ u, X.mg x = some u ∧ RelV v u) (hg : Gl X x := by rfl) (hd : (x == ("__debug__" : Str)) = false := by decide) : PE X (.Name x pos) (tC v) := by
  obtain ⟨u, hm, r⟩ := h
  exact pe_glob hg hm r hd
/-- isinstance(e, c), e the error that the suite holds -/
theorem call_isEX {a D : Addr} {oe : Obj} {cls : Value} {d : Option Addr} {pn : List (Addr × Obj)} (T : ExcC X.K D) (hz : Zc cls d oe) (hf : ∃ vs, oe.data = .fields vs) : CallR (X.suite a ((a, oe) :: pn)) (.builtin "isinstance")
    (fun xs H Q => ∃ (c : V) (cv : Value) (b : Bool) (dd : Addr) (fs : List (Str × V)), xs = [.ref a, c] ∧ cls = .ref D ∧ d = some dd ∧ H dd = some (.xd fs) ∧ (∀ u, RelV c u → u = cv) ∧ PySem.W.kitOne X.K (.ref D) cv = some b ∧ Q (.bl b) H) := by
  intro pins s σ H xs us Q I r h
  obtain ⟨c, cv, b, dd, fs, rfl, ec, edd, ed, hcv, e, q⟩ := h
  obtain ⟨u1, u2, rfl, r1, r2⟩ := vals2 r
  obtain rfl : u1 = Value.ref a := r1
  have e2 := hcv _ r2
  subst e2
  subst ec
  subst edd
  obtain ⟨ha, _⟩ := I.pin (a, oe) (List.mem_append_left _ List.mem_cons_self)
  obtain ⟨vs, hd⟩ := hf
  have hx : ObjOk X.prog X.w H s.heap dd (.xd fs) := I.hok dd _ ed
  obtain ⟨mA, hns, hr⟩ := hx
  obtain ⟨od, ho, hl⟩ := lookIn_ns hns
  have J : PySem.W.InstAt s.heap a oe D (some od) := ⟨ha, hz.1, by unfold PySem.W.notCls; rw [hd] <;> rfl, by rw [hz.2]; exact ho⟩
  exact PySem.W.kia_one (PySem.W.kitx_exc (by obtain ⟨cd, hc, _⟩ := PySem.W.any_some T.hd; rw [hc]; rfl) T.hg T.hk T.hs T.ha T.hn T.ht T.hm) I.kIn J e (fun z => nomatch z)
    fun tk => ⟨.bl b, H, I.kept (t' := tk) fun _ _ z => z, rfl, q⟩
/-! ### static methods -/
/-- C.m is a static method: its record at p, its def at f -/
structure SM (K : Fg) (C : Addr) (m : Str) (f : Addr) : Prop where
  ex : ∃ (mc : Value) (p : Addr) (rest : List Value), ClX.CRead K C mc ∧ PySem.W.findCls K (.ref C) mc m = some (.get (.builtin "staticmethod.__get__") (.ref p) .none (.ref C)) ∧
    PySem.W.recIn K p "staticmethod" = some (.ref f :: rest)
  kp : PySem.W.keepIn K (.ref f) = true
/-- .. reached through an instance -/
structure SMI (K : Fg) (C : Addr) (m : Str) (f : Addr) : Prop where
  pg : PySem.W.plainGet K C Str.empty = true
  ic : PySem.W.isClsIn K C = true
  cp : PySem.W.copiedNames.contains m = false
  ex : ∃ (p : Addr) (rest : List Value), PySem.W.findIn K (.ref C) m = some (some (.ref p)) ∧ PySem.W.typeIn K (.ref p) = some (.type "staticmethod") ∧
    PySem.W.specialIn K (.ref p) "__get__" = some (some (.builtin "staticmethod.__get__")) ∧ PySem.W.takesIn K (.ref p) = some false ∧ PySem.W.recIn K p "staticmethod" = some (.ref f :: rest)
  kp : PySem.W.keepIn K (.ref f) = true
theorem SMI.get' {K : Fg} {C f : Addr} {m : Str} (k : SMI K C m f) : PySem.W.plainGet K C m = true := k.pg
section
variable {X : Cx} {e o : Expr} {es : List Expr} {t tk : TA} {ta : TE} {x m : Str} {p pos apos : Pos} {k : Nat} {ps ks : List Str} {sp : Sp} {C f : Addr} {fd : FuncData} {kws : List Keyword} {ds : List Value} {dvs : List V}
  {g : List Value → List Value → List Value} {gV : List V → List V → List V} {pins : List (Addr × Obj)} {σ : L2.St} {H : Hp} {s : Shared}
theorem getsm_ok {pl : Sem Bool} {A : Around} {E : Value → Shared → Prop} {Q : Value × List Value → Shared → Prop} (I : Inv X pins σ H s) (S : SM X.K C m f) (h : ∀ s', Inv X pins σ H s' → Q (.ref f, []) s') :
    wpAny (model X.prog X.w) A (getMethod (.ref C) m pl) Q E s := by
  obtain ⟨mc, q, rest, r, at_, rc⟩ := S.ex
  refine PySem.W.method_cls I.kIn r.ga (PySem.W.cls_bind I.kIn r.rd at_ ?_)
  exact wpAny_call (PySem.W.sm_get (s := { s with toks := s.toks + 1 }) I.kIn rc (PySem.W.handed_on rfl (h _ (I.tok _))))
theorem getsmi_ok {pl : Sem Bool} {A : Around} {E : Value → Shared → Prop} {Q : Value × List Value → Shared → Prop} {a dx : Addr} {fs : List (Str × V)} (I : Inv X pins σ H s) (S : SMI X.K C m f) (ea : H a = some (.ins C dx fs)) (l : fs.lookup m = none)
    (h : ∀ s', Inv X pins σ H s' → Q (.ref f, []) s') : wpAny (model X.prog X.w) A (getMethod (.ref a) m pl) Q E s := by
  obtain ⟨q, rest, at_, ty, get, tk, rc⟩ := S.ex
  obtain ⟨mA, O, rr, _, _, _⟩ := ins_get I.hok ea
  have hn : mA m = none := RelO.none_of (by rw [← l]; exact rr m)
  obtain ⟨od, J, hl⟩ := O.look
  refine PySem.W.method_usual (r := some (.ref q)) I.kIn J (PySem.W.plainGet_of S.get').1 (PySem.W.plainGet_of S.get').2 at_ ?_ ?_
  · show ((PySem.W.typeIn X.K (.ref q)).any fun t => t != .type "function" && t != .type "method_descriptor" && t != .type "wrapper_descriptor") = true
    rw [ty]
    first
    | rfl
    | decide +kernel
  · refine PySem.W.get_bind I.kIn J (PySem.W.plainGet_of S.get').1 (ClX.find_cm S.ic at_ get tk S.cp (by rw [hl m, hn])) (PySem.W.plainGet_of S.get').2 ?_
    exact wpAny_call (PySem.W.sm_get (s := { s with toks := s.toks + 1 }) I.kIn rc (PySem.W.handed_on rfl (h _ (I.tok _))))
/-- C.m(e, ..), the lacking ones by their defaults -/
theorem pe_smeth {pl : Sem Bool} (he : PE X o ta) (S : SM X.K C m f) (F : FnOk X.prog X.w X.K X.mg X.base CX0 k f fd ps sp) (hr : Room k X.A) (hb : Binds X.K fd ps ds) (hd : Vals dvs ds) (ha : PA X (e :: es) t)
    (hst : starEach (e :: es) X.env = (false, eval e X.env) :: starEach es X.env := by rfl) (hpl : (backTo pos (starEach es X.env)).any (·.1) = false := by rfl)
    (ht : eval (.Call (.Attribute o m apos) (e :: es) [] pos) X.env = (do
      let ov ← eval o X.env
      standAt apos.atName
      let (f, first) ← holding [ov] (getMethod ov m pl)
      callWith pos f first (backTo pos (starEach (e :: es) X.env)) (backToKw pos (keywordEach [] X.env))) := by rfl) :
    PE X (.Call (.Attribute o m apos) (e :: es) [] pos) (fun σ H Q => ta σ H fun x H1 => x = .ref C ∧ t σ H1 fun vs H2 => sp (vs ++ dvs) H2 Q E0) := by
  refine ⟨fun pins s σ H Q I h => ?_⟩
  refine PySem.W.methodCall_KW (pl := pl) (thn (he.run pins s σ H _ I h) fun u s1 ⟨x, H1, I1, rx, ex, q⟩ => ?_) ht
  subst ex
  obtain rfl : u = Value.ref C := rx
  refine getsm_ok I1 S fun s2 I2 => ?_
  refine PySem.W.callWith_K (first := []) (h₀ := X.base) I.ok.mod.kin S.kp (thn (ha.run pos pins s2 σ H1 _ I2 q) fun us s3 ⟨vs, H2, I3, r, q2⟩ => ⟨I3.kIn, ?_⟩) hst hpl
  exact run_fn (us := us) (vs := vs) F hr hb hd pass0 I3 r q2
/-- C.m(e, .., k = v, ..) -/
theorem pe_smethK {pl : Sem Bool} (he : PE X o ta) (S : SM X.K C m f) (F : FnOk X.prog X.w X.K X.mg X.base CX0 k f fd ps sp) (hr : Room k X.A) (hb : KBinds X.K fd ps ks g gV) (ha : PA X (e :: es) t) (hkw : PK X kws tk)
    (hall : (backToKw pos (keywordEach kws X.env)).all (·.1.isSome) = true := by rfl) (hks : (backToKw pos (keywordEach kws X.env)).filterMap (·.1) = ks := by rfl)
    (hst : starEach (e :: es) X.env = (false, eval e X.env) :: starEach es X.env := by rfl)
    (hpl : ((backTo pos (starEach (e :: es) X.env)).any (·.1) || (backToKw pos (keywordEach kws X.env)).any (·.1.isNone)) = false := by rfl)
    (ht : eval (.Call (.Attribute o m apos) (e :: es) kws pos) X.env = (do
      let ov ← eval o X.env
      standAt apos.atName
      let (f, first) ← holding [ov] (getMethod ov m pl)
      callWith pos f first (backTo pos (starEach (e :: es) X.env)) (backToKw pos (keywordEach kws X.env))) := by rfl) :
    PE X (.Call (.Attribute o m apos) (e :: es) kws pos) (fun σ H Q => ta σ H fun x H1 => x = .ref C ∧ t σ H1 fun vs H2 => tk σ H2 fun zs H3 => sp (gV vs zs) H3 Q E0) := by
  refine ⟨fun pins s σ H Q I h => ?_⟩
  refine PySem.W.methodCall_KW (pl := pl) (thn (he.run pins s σ H _ I h) fun u s1 ⟨x, H1, I1, rx, ex, q⟩ => ?_) ht
  subst ex
  obtain rfl : u = Value.ref C := rx
  refine getsm_ok I1 S fun s2 I2 => ?_
  refine PySem.W.callWith_KW (first := []) (h₀ := X.base) I.ok.mod.kin S.kp hall (thn (ha.run pos pins s2 σ H1 _ I2 q) fun us s3 ⟨vs, H2, I3, r, q2⟩ => ?_) hpl hst
  refine thn (hkw.run pos pins s3 σ H2 _ I3 q2) fun ws s4 ⟨zs, H3, I4, rz, q3⟩ => ⟨I4.kIn, ?_⟩
  rw [hks]
  exact run_fnk F hr hb pass0 I4 r rz q3
/-- o.m(e, .., k = v, ..), o an instance of C -/
theorem pe_smethI {pl : Sem Bool} (he : PE X o ta) (S : SMI X.K C m f) (F : FnOk X.prog X.w X.K X.mg X.base CX0 k f fd ps sp) (hr : Room k X.A) (hb : KBinds X.K fd ps ks g gV) (ha : PA X (e :: es) t) (hkw : PK X kws tk)
    (hall : (backToKw pos (keywordEach kws X.env)).all (·.1.isSome) = true := by rfl) (hks : (backToKw pos (keywordEach kws X.env)).filterMap (·.1) = ks := by rfl)
    (hst : starEach (e :: es) X.env = (false, eval e X.env) :: starEach es X.env := by rfl)
    (hpl : ((backTo pos (starEach (e :: es) X.env)).any (·.1) || (backToKw pos (keywordEach kws X.env)).any (·.1.isNone)) = false := by rfl)
    (ht : eval (.Call (.Attribute o m apos) (e :: es) kws pos) X.env = (do
      let ov ← eval o X.env
      standAt apos.atName
      let (f, first) ← holding [ov] (getMethod ov m pl)
      callWith pos f first (backTo pos (starEach (e :: es) X.env)) (backToKw pos (keywordEach kws X.env))) := by rfl) :
    PE X (.Call (.Attribute o m apos) (e :: es) kws pos) (fun σ H Q => ta σ H fun x H1 => ∃ a dx fs, x = .ref a ∧ H1 a = some (.ins C dx fs) ∧ fs.lookup m = none ∧ t σ H1 fun vs H2 => tk σ H2 fun zs H3 => sp (gV vs zs) H3 Q E0) := by
  refine ⟨fun pins s σ H Q I h => ?_⟩
  refine PySem.W.methodCall_KW (pl := pl) (thn (he.run pins s σ H _ I h) fun u s1 ⟨x, H1, I1, rx, a, dx, fs, ex, ea, l, q⟩ => ?_) ht
  subst ex
  obtain rfl : u = Value.ref a := rx
  refine getsmi_ok I1 S ea l fun s2 I2 => ?_
  refine PySem.W.callWith_KW (first := []) (h₀ := X.base) I.ok.mod.kin S.kp hall (thn (ha.run pos pins s2 σ H1 _ I2 q) fun us s3 ⟨vs, H2, I3, r, q2⟩ => ?_) hpl hst
  refine thn (hkw.run pos pins s3 σ H2 _ I3 q2) fun ws s4 ⟨zs, H3, I4, rz, q3⟩ => ⟨I4.kIn, ?_⟩
  rw [hks]
  exact run_fnk F hr hb pass0 I4 r rz q3
end
end
end EV

/-! comprehensions that only make objects: what the new list holds -/
namespace EV
open PySem PySem.Spec PyProof.Rows L2
/-- what the first i turns leave in the new list -/
def gath (f : Nat → Option V) : Nat → List V
  | 0 => []
  | i + 1 => gath f i ++ (f i).toList
theorem gath_le (f : Nat → Option V) : ∀ i, (gath f i).length ≤ i
  | 0 => Nat.le_refl _
  | i + 1 => by
    have := gath_le f i
    show (gath f i ++ (f i).toList).length ≤ i + 1
    rw [List.length_append]
    have : (f i).toList.length ≤ 1 := by cases f i <;> simp
    omega
theorem gath_fm {α : Type} (xs : List α) (f : α → Option V) : ∀ i, i ≤ xs.length → gath (fun j : Nat => xs[j]?.bind f) i = (xs.take i).filterMap f
  | 0, _ => by rw [List.take_zero]; rfl
  | i + 1, h => by
    have hi : i < xs.length := h
    show gath _ i ++ (xs[i]?.bind f).toList = _
    rw [gath_fm xs f i (Nat.le_of_lt hi), List.take_succ, List.filterMap_append, List.getElem?_eq_getElem hi]
    cases e : f xs[i] <;> simp [e]
theorem gath_map {α : Type} (xs : List α) (f : α → V) {n : Nat} (hn : n = xs.length) : gath (fun j : Nat => xs[j]?.map f) n = xs.map f := by
  have e : (fun j : Nat => xs[j]?.map f) = fun j : Nat => xs[j]?.bind fun x => some (f x) := by
    funext j
    cases xs[j]? <;> rfl
  subst hn
  rw [e, gath_fm xs _ _ (Nat.le_refl _), List.take_length]
  induction xs with
  | nil => rfl
  | cons x xs ih => simp
theorem gath_filter {α : Type} (xs : List α) (p : α → Bool) (f : α → V) {n : Nat} (hn : n = xs.length) : gath (fun j : Nat => xs[j]?.bind fun x => if p x = true then some (f x) else none) n = (xs.filter p).map f := by
  subst hn
  rw [gath_fm xs _ _ (Nat.le_refl _), List.take_length]
  induction xs with
  | nil => rfl
  | cons x xs ih =>
    by_cases h : p x = true
    · simp [h, ih]
    · simp [h, ih]
section
variable {J : It} {n : Nat} {G : Hp → Prop} {Y : Nat → Hp → V → Hp → Prop} {g : TG} {tt : TT} {te : TE} {vs : List Nat} {σ : L2.St} {H1 : Hp} {D : Addr} {Qd : Hp → Prop}
theorem lc_fm (w : Walk J n G Y) (f : Nat → Option V) (nD : H1 D = none) (hz : n ≤ 1000000) (hG : ∀ H, Same H1 H → G H)
    (hs : ∀ i x H H' (NT : Hp → Prop) (NE : V → Hp → Prop), i < n → Same H1 H → Y i H x H' → (f i = none → ∀ H3, Same H H3 → NT H3) → (∀ y H4, f i = some y → Same H H4 → NE y H4) →
      g x (wipe σ vs) H' fun σ2 H2 => wipe σ2 vs = wipe σ vs ∧ tt σ2 H2 fun b H3 => if b = true then te σ2 H3 NE else NT H3)
    (hd : ∀ H, Same H1 H → H D = some (.lst (gath f n)) → Qd H) :
    ∃ W : Nat → Nat → Hp → Prop, (∃ m, W 0 m (upd H1 D (.lst []))) ∧ ∀ i m H, W i m H →
      (J.stop i H ∧ Qd H) ∨ (J.go i H ∧ ∃ Nx : Hp → Prop, (∀ H', Nx H' → ∃ m', m' < m ∧ W (i + 1) m' H') ∧ ∀ x H', J.yld i H x H' → g x (wipe σ vs) H' fun σ2 H2 => wipe σ2 vs = wipe σ vs ∧ tt σ2 H2 fun b H3 =>
        if b = true then te σ2 H3 fun y H4 => ∃ acc, H4 D = some (.lst acc) ∧ acc.length < sizeLine ∧ Nx (upd H4 D (.lst (acc ++ [y]))) else Nx H3) := by
  refine lc_it w (fun i H => Same H1 H ∧ H D = some (.lst (gath f i))) ⟨same_upd nD, upd_same⟩ (fun i H _ q => hG H q.1) ?_ fun H q => hd H q.1 q.2
  intro i x H H' hi q y
  refine hs i x H H' _ _ hi q.1 y (fun e H3 s3 => ⟨q.1.trans s3, ?_⟩) (fun y H4 e s4 => ⟨gath f i, s4 _ _ q.2, Nat.lt_of_le_of_lt (gath_le f i) (by rw [sizeLine_eq]; omega), ?_, ?_⟩)
  · show H3 D = some (.lst (gath f i ++ (f i).toList))
    rw [e]
    simpa using s3 _ _ q.2
  · exact same_upd' (q.1.trans s4) nD
  · show upd H4 D _ D = some (.lst (gath f i ++ (f i).toList))
    rw [upd_same, e]
    rfl
end
/-- for a, b in ..: two slots (K told, so that a block's own state does not come into the reading) -/
theorem pg_pair {X : Cx} {K : Fg} {x y : Str} {p1 p2 pos : Pos} {k : Nat} (i j : Nat) (hc : X.calm = true) (hN : X.N.Nodup) (hi : X.N[i]? = some x) (hj : X.N[j]? = some y) (lx : X.env.scope.names.lookup x = some .local)
    (ly : X.env.scope.names.lookup y = some .local) (hK : X.K = K := by rfl) : PG X (.Tuple [.Name x p1, .Name y p2] k pos) (gTup K 2 (gCons (gName i) (gCons (gName j) gNil))) := by
  subst hK
  exact pg_tup hc (pgs_cons (pg_name hN hi (Or.inl lx) (.inr lx)) (pgs_cons (pg_name hN hj (Or.inl ly) (.inr ly)) pgs_nil))
theorem pg_three {X : Cx} {K : Fg} {x y z : Str} {p1 p2 p3 pos : Pos} {k : Nat} (i j l : Nat) (hc : X.calm = true) (hN : X.N.Nodup) (hi : X.N[i]? = some x) (hj : X.N[j]? = some y) (hl : X.N[l]? = some z) (lx : X.env.scope.names.lookup x = some .local)
    (ly : X.env.scope.names.lookup y = some .local) (lz : X.env.scope.names.lookup z = some .local) (hK : X.K = K := by rfl) : PG X (.Tuple [.Name x p1, .Name y p2, .Name z p3] k pos) (gTup K 3 (gCons (gName i) (gCons (gName j) (gCons (gName l) gNil)))) := by
  subst hK
  exact pg_tup hc (pgs_cons (pg_name hN hi (Or.inl lx) (.inr lx)) (pgs_cons (pg_name hN hj (Or.inl ly) (.inr ly)) (pgs_cons (pg_name hN hl (Or.inl lz) (.inr lz)) pgs_nil)))
/-- f'..' of two parts or more, its reading as one word -/
def tJoin (ts : List TE) : TE := fun σ H Q => tJs ts Str.empty σ H fun out H1 => Q (.str out) H1
theorem pe_joinedT {X : Cx} {v1 v2 : Expr} {rest : List Expr} {ts : List TE} {pos : Pos} (h : PJ X (v1 :: v2 :: rest) ts) : PE X (.JoinedStr (v1 :: v2 :: rest) pos) (tJoin ts) := pe_joined h
/-- a value's truth as a test, K told -/
theorem pt_truthK {X : Cx} {K : Fg} {a : Expr} {ta : TE} (ha : PE X a ta) (he : ∀ whole, isTrue a X.env whole = (do let v ← whole; standAt a.pos; holding [v] (truthy v))) (hK : X.K = K := by rfl) :
    PT X a (fun σ H Q => ta σ H fun x H' => ∃ k, TruV K x H' k ∧ Q k H') := by
  subst hK
  exact pt_truth ha he
/-- xs.pop() where K is told -/
theorem pe_popK {X : Cx} {K : Fg} {o : Expr} {to : TE} {apos cpos : Pos} (ho : PE X o to) (hbase : attributeBase o "pop" X.env (eval o X.env) = eval o X.env := by rfl)
    (hline : (apos.endLine == cpos.line) = true := by rfl) (hK : X.K = K := by rfl) : PE X (.Call (.Attribute o "pop" apos) [] [] cpos) (tBM0 K "list" rPop to) := by
  subst hK
  exact pe_bm0 PySem.F.plainAttrs_list PySem.F.slot_list_pop PySem.F.type_list_pop mt_pop ho hbase hline
end EV

/-! one construct that may be served by one of two rules; a loop over a list or a tuple -/
namespace EV
open PySem PySem.Spec PyProof.Rows L2
def iOr (w1 w2 : TI) : TI := fun σ H R => w1 σ H R ∨ w2 σ H R
theorem pi_or {X : Cx} {tg e : Expr} {w1 w2 : TI} (h1 : PI X tg e w1) (h2 : PI X tg e w2) : PI X tg e (iOr w1 w2) := by
  refine ⟨fun pins s σ H R I h => ?_⟩
  rcases h with h | h
  · exact h1.run pins s σ H R I h
  · exact h2.run pins s σ H R I h
def eOr (t1 t2 : TE) : TE := fun σ H Q => t1 σ H Q ∨ t2 σ H Q
theorem pe_orR {X : Cx} {e : Expr} {t1 t2 : TE} (h1 : PE X e t1) (h2 : PE X e t2) : PE X e (eOr t1 t2) := by
  refine ⟨fun pins s σ H Q I h => ?_⟩
  rcases h with h | h
  · exact h1.run pins s σ H Q I h
  · exact h2.run pins s σ H Q I h
/-- e.f within a comprehension: K is told -/
theorem pe_fldK {X : Cx} {K : Fg} {e : Expr} {ta : TE} {f : Str} {pos : Pos} (he : PE X e ta) (hb : attributeBase e f X.env (eval e X.env) = eval e X.env := by rfl) (hK : X.K = K := by rfl) : PE X (.Attribute e f pos) (tFld K ta f) := by
  subst hK
  exact pe_fld he hb
/-- f() -/
theorem pe_callO0 {X : Cx} {x : Str} {p pos : Pos} {k : Nat} {ps : List Str} {sp : Sp} (O : Ok X.prog X.w X.K X.mg X.base k x ps sp) (hr : Room k X.A) (hg : Gl X x := by rfl) (hdb : (x == ("__debug__" : Str)) = false := by decide)
    : PE X (.Call (.Name x p) [] [] pos) (tCall sp [] E0 tNil) := by
  obtain ⟨f, fd, G, m, kp, b⟩ := O.ex
  exact pe_call0 G hr hg m kp b .nil pass0 hdb
/-- a list or a tuple -/
def SqX : Bool → Fg → Hp → Addr → List V → Prop
  | true, K, H, a, xs => SqT K H a xs
  | false, K, H, a, xs => SqL K H a xs
theorem any_walk {K : Fg} {i : Nat} {σ : L2.St} {H : Hp} {R : It → Hp → Prop} {l : Addr} {xs : List V} (bt : Bool) (hi : tVar i σ H fun x G => x = .ref l ∧ G = H) (hl : SqX bt K H l xs)
    (go : ∀ J, Walk J xs.length (fun G => SqX bt K G l xs) (YAt xs) → R J H) : iOr (iList K (tVar i)) (iTup K (tVar i)) σ H R := by
  obtain ⟨x, e, rfl, _⟩ := hi
  cases bt with
  | true => exact .inr ⟨_, e, l, rfl, ⟨xs, hl⟩, go _ walk_tup⟩
  | false => exact .inl ⟨_, e, l, rfl, ⟨xs, hl⟩, go _ walk_list⟩
end EV

/-! an object of an own class with an own __eq__, compared with any value: == and != -/
namespace EV
open PySem PySem.Spec PyProof.Rows L2
/-- the type of a value, as a comparison asks for it -/
inductive TyN (H : Hp) : V → Value → Prop where
  | non : TyN H .non (.type "NoneType")
  | bl (b : Bool) : TyN H (.bl b) (.type "bool")
  | int (i : Int) : TyN H (.int i) (.type "int")
  | str (z : Str) : TyN H (.str z) (.type "str")
  | lst {a : Addr} {xs : List V} (e : H a = some (.lst xs)) : TyN H (.ref a) (.type "list")
  | tup {a : Addr} {xs : List V} (e : H a = some (.tup xs)) : TyN H (.ref a) (.type "tuple")
  | ins {a C dx : Addr} {fs : List (Str × V)} (e : H a = some (.ins C dx fs)) : TyN H (.ref a) (.ref C)
/-- the built-in kinds among them -/
def plainTys : List String := ["NoneType", "bool", "int", "str", "list", "tuple"]
theorem plain_sub {K : Fg} {C : Addr} : ∀ T ∈ plainTys, PySem.W.subIn K (.type T) (.ref C) = some false := by
  intro T hT
  have key : ∀ T ∈ plainTys, ∃ l, fastBuiltinMro T = some l ∧ l.all (fun v => match v with | .type _ => true | _ => false) = true := by
    intro T hT
    simp only [plainTys, List.mem_cons, List.not_mem_nil, or_false] at hT
    rcases hT with rfl | rfl | rfl | rfl | rfl | rfl
    · exact ⟨[.type "NoneType", .type "object"], by decide +kernel, rfl⟩
    · exact ⟨[.type "bool", .type "int", .type "object"], by decide +kernel, rfl⟩
    · exact ⟨[.type "int", .type "object"], by decide +kernel, rfl⟩
    · exact ⟨[.type "str", .type "object"], by decide +kernel, rfl⟩
    · exact ⟨[.type "list", .type "object"], by decide +kernel, rfl⟩
    · exact ⟨[.type "tuple", .type "object"], by decide +kernel, rfl⟩
  obtain ⟨l, e, hl⟩ := key T hT
  show (fastBuiltinMro T).map (·.contains (.ref C)) = some false
  rw [e]
  refine congrArg some (show l.contains (.ref C) = false from ?_)
  clear e
  induction l with
  | nil => rfl
  | cons x l ih =>
    rw [List.all_cons, Bool.and_eq_true] at hl
    rw [List.contains_cons]
    have h1 : (Value.ref C == x) = false := by
      cases x with
      | type n => exact beq_eq_false_iff_ne.mpr (fun q => nomatch q)
      | _ => exact absurd hl.1 Bool.false_ne_true
    rw [h1, Bool.false_or]
    exact ih hl.2
theorem TyN.first {H : Hp} {K : Fg} {C : Addr} {y : V} {tb : Value} (t : TyN H y tb) (hc : ∀ a D dx fs, y = .ref a → H a = some (.ins D dx fs) → D = C) : PySem.W.notFirst K C tb = true := by
  unfold PySem.W.notFirst
  have pl : ∀ T ∈ plainTys, (Value.type T == .ref C || PySem.W.subIn K (.type T) (.ref C) == some false) = true := fun T hT => by
    rw [plain_sub T hT]
    exact Bool.or_true _
  cases t with
  | non => exact pl _ (by decide)
  | bl b => exact pl _ (by decide)
  | int i => exact pl _ (by decide)
  | str z => exact pl _ (by decide)
  | lst e => exact pl _ (by decide)
  | tup e => exact pl _ (by decide)
  | ins e =>
    rw [hc _ _ _ _ rfl e]
    simp
section
variable {X : Cx} {k : Nat} {C : Addr} {ps : List Str} {sp : Sp} {pins : List (Addr × Obj)} {σ : L2.St} {H : Hp} {s : Shared}
theorem TyN.sees {y : V} {u tb : Value} (I : Inv X pins σ H s) (r : RelV y u) (t : TyN H y tb) : PySem.W.Looks (model X.prog X.w) s.heap (typeOf u) tb := by
  have at_obj : ∀ (a : Addr) (T : String), (∃ o, s.heap.get? a = some o ∧ o.cls = .type T) → PySem.W.Looks (model X.prog X.w) s.heap (typeOf (.ref a)) (.type T) := by
    rintro a T ⟨o, ho, hc⟩ A Q E s2 kp q
    exact wpAny_typeOf (show s2.TypeIs (.ref a) T from ⟨o, kp _ _ ho, hc⟩) q
  cases t with
  | non => cases (show u = Value.none from r); exact PySem.W.Looks.of_pure rfl
  | bl b => cases (show u = Value.bool b from r); exact PySem.W.Looks.of_pure rfl
  | int i => obtain ⟨_, q⟩ := (show ∃ t, u = Value.int i t from r); cases q; exact PySem.W.Looks.of_pure rfl
  | str z => obtain ⟨_, q⟩ := (show ∃ t, u = Value.str z t from r); cases q; exact PySem.W.Looks.of_pure rfl
  | lst e =>
    cases (show u = Value.ref _ from r)
    obtain ⟨_, _, n, _, h1⟩ := (show ObjOk X.prog X.w H s.heap _ (.lst _) from I.hok _ _ e)
    exact at_obj _ _ ⟨_, h1, rfl⟩
  | tup e =>
    cases (show u = Value.ref _ from r)
    obtain ⟨_, _, _, o, h1, h2, _⟩ := (show ObjOk X.prog X.w H s.heap _ (.tup _) from I.hok _ _ e)
    exact at_obj _ _ ⟨o, h1, h2⟩
  | ins e =>
    cases (show u = Value.ref _ from r)
    obtain ⟨_, _, J⟩ := ins_inst I e
    exact J.type
/-- x == y, x of the class at C, y any value of these kinds, by C's own __eq__ -/
def rEqA (C : Addr) (sp : Sp) : R2 := fun x y H Q => ∃ a dx fs tb, x = .ref a ∧ H a = some (.ins C dx fs) ∧ TyN H y tb ∧ (∀ b D dy gs, y = .ref b → H b = some (.ins D dy gs) → D = C) ∧ sp [.ref a, y] H (fun v H2 => ∃ c : Bool, v = .bl c ∧ Q (.bl c) H2) E0
theorem op_eqA (O : OkM CX0 X.prog X.w X.K X.mg X.base k C "__eq__" ps sp) (hr : Room k X.A) : OpR X (compareOp .Eq) (rEqA C sp) := by
  intro pins s σ H x y v u Q I rx ry want
  obtain ⟨a, dx, fs, tb, rfl, ea, ty, only, q⟩ := want
  cases (show v = Value.ref a from rx)
  obtain ⟨f, fd, F, hm, hb⟩ := O.ex
  obtain ⟨_, _, J⟩ := ins_inst I ea
  obtain ⟨_, fr⟩ := I.fr
  show wpAny (model X.prog X.w) X.A (richCompare .Eq (.ref a) u) (EP X pins σ Q) X.xe s
  refine PySem.W.cmp_K (op := .Eq) hr.units0 fr I.ok.mod.kin J (ty.sees I ry) (ty.first only) hm.at_ hm.fn ?_
  refine thn (run_fn (us := [.ref a, u]) (vs := [.ref a, y]) (dvs := []) F hr hb .nil pass0 I (.cons rfl (.cons ry .nil)) q) ?_
  rintro r s1 ⟨z, H2, I2, rz, c, rfl, q2⟩
  cases (show r = Value.bool c from rz)
  exact ⟨.bl c, H2, I2, rfl, q2⟩
/-- x != y: the class has no __ne__ of its own -/
def rNeA (C : Addr) (sp : Sp) : R2 := fun x y H Q => ∃ a dx fs tb, x = .ref a ∧ H a = some (.ins C dx fs) ∧ TyN H y tb ∧ (∀ b D dy gs, y = .ref b → H b = some (.ins D dy gs) → D = C) ∧ sp [.ref a, y] H (fun v H2 => ∃ c : Bool, v = .bl c ∧ Q (.bl (!c)) H2) E0
structure NeC (K : Fg) (C : Addr) : Prop where
  at_ : PySem.W.findIn K (.ref C) "__ne__" = some (some (.builtin "object.__ne__"))
  obj : PySem.W.mroIn K C (.type "object") = some true
theorem bound_ne {K : Fg} {M : Model} {A : Around} {E : Value → Shared → Prop} {a : Addr} {ox : Obj} {od : Option Obj} {us : List Value} {Q : Option Value → Shared → Prop} (kin : K.In s.heap) (J : PySem.W.InstAt s.heap a ox C od) (nc : NeC K C)
    (go : wpAny M A (call (.builtin "object.__ne__") (.ref a :: us)) (fun v => Q (some v)) E s) : wpAny M A (callSpecialIfBound? (.ref a) "__ne__" us) Q E s := by
  simp only [callSpecialIfBound?, bindSpecialIfBound?]
  refine wpAny_holding (wpAny_bind (wpAny_bind (wpAny_bind (J.type.here ((PySem.W.looks_findIn kin nc.at_).here ?_)))))
  refine wpAny_bind (wpAny_askSetting (wpAny_ite ?_))
  have last : wpAny M A (call (.builtin "object.__ne__") ([.ref a] ++ us) >>= fun v => pure (some v)) Q E s := wpAny_bind (wpAny_mono go (fun v s2 q => wpAny_pure q) (fun _ _ q => q))
  split
  · exact wpAny_bind (wpAny_of_eq (F.cmp_object.ne.bind _) (wpAny_pure last))
  · exact wpAny_tryCatch (wpAny_bind (wpAny_of_eq (F.cmp_object.ne.bind _) (wpAny_pure last)))
theorem op_neA (O : OkM CX0 X.prog X.w X.K X.mg X.base k C "__eq__" ps sp) (nc : NeC X.K C) (hr : Room (k + 2) X.A) : OpR X (compareOp .NotEq) (rNeA C sp) := by
  intro pins s σ H x y v u Q I rx ry want
  obtain ⟨a, dx, fs, tb, rfl, ea, ty, only, q⟩ := want
  cases (show v = Value.ref a from rx)
  obtain ⟨f, fd, Fo, hm, hb⟩ := O.ex
  obtain ⟨ox, od, J⟩ := ins_inst I ea
  obtain ⟨_, fr⟩ := I.fr
  have kin := I.kIn
  have inner : wpAny (model X.prog X.w) X.A (tryCompare (.ref a) "__ne__" u) (fun r s' => ∃ v, r = some v ∧ EP X pins σ Q v s') X.xe s := by
    unfold tryCompare
    refine wpAny_bind (bound_ne kin J nc (wpAny_call (codeAny_call_builtin F.cmp_object.ne.plain F.cmpEntry_ne (PySem.W.check_slot F.cmpKind_ne F.cmpSplit_ne (J.type.andThen (PySem.W.looks_mroIn kin nc.obj)) (F.cmpArgs_ne _ _) ?_))))
    have h1 : Room (k + 1) X.A.in1 := Room.in1 (k := k + 1) hr
    have hu1 := h1.units0
    have ask : ∀ (R : Option Value → Shared → Prop) (Er : Value → Shared → Prop), (∀ (c : Bool) s', EP X pins σ Q (.bool (!c)) s' → R (some (.bool c)) s') → wpAny (model X.prog X.w) X.A.in1 (callSpecialIfBound? (.ref a) "__eq__" [u]) R Er s := by
      intro R Er hR
      refine PySem.W.ifBound_K kin J hm.at_ hm.fn (run_in (vs := [.ref a, y]) Fo (h1.mono (by omega)) rfl hb I (.cons rfl (.cons ry .nil)) q ?_)
      rintro v s' ⟨z, H2, I2, rz, c, rfl, q2⟩
      cases (show v = Value.bool c from rz)
      exact hR c s' ⟨.bl (!c), H2, I2, rfl, q2⟩
    unfold Builtin.«object.__ne__»
    repeat (first | with_reducible refine ask _ _ ?_ | with_reducible refine wpAny_cRoomFor hu1 ?_ | wp_step)
    intro c s' e
    exact wpAny_bind (wpAny_truthy_bool (wpAny_pure (wpAny_pure ⟨_, rfl, e⟩)))
  have hu0 := hr.units0
  have firstly := ty.first (K := X.K) only
  show wpAny (model X.prog X.w) X.A (richCompare .NotEq (.ref a) u) (EP X pins σ Q) X.xe s
  unfold richCompare
  simp only [oneThing_ref]
  refine wpAny_holding (wpAny_bind (wpAny_cRoomFor hu0 (wpAny_bind (J.type.here (wpAny_bind ((ty.sees I ry).here ?_))))))
  by_cases same : tb = .ref C
  · rw [if_neg (by rw [same]; simp)]
    refine wpAny_bind (wpAny_pure ?_)
    simp only [Bool.false_eq_true, if_false]
    refine wpAny_bind (wpAny_mono inner ?_ (fun _ _ z => z))
    rintro r s' ⟨v, rfl, done⟩
    exact wpAny_pure done
  · have other : PySem.W.subIn X.K tb (.ref C) = some false := by
      unfold PySem.W.notFirst at firstly
      rw [beq_eq_false_iff_ne.mpr same, Bool.false_or] at firstly
      exact eq_of_beq firstly
    rw [if_pos (by simpa using Ne.symm same)]
    refine wpAny_bind ((PySem.W.looks_subIn kin other).here ?_)
    simp only [Bool.false_eq_true, if_false]
    refine wpAny_bind (wpAny_mono inner ?_ (fun _ _ z => z))
    rintro r s' ⟨v, rfl, done⟩
    exact wpAny_pure done
end
end EV

/-! operators of own classes: a op b (both of the class), -a +a ~a, repr, truth -/
namespace EV
open PySem PySem.Spec PyProof.Rows L2
theorem back_of {y : V} {v : Value} {s : Shared} {Q : Value → Shared → Prop} (r : RelV y v) (q : Q v s) : PySem.W.CmpBack Q v s := by
  cases y with
  | non => cases (show v = Value.none from r); exact q
  | bl b => cases (show v = Value.bool b from r); exact q
  | int i => obtain ⟨_, e⟩ := (show ∃ t, v = Value.int i t from r); cases e; exact q
  | str x => obtain ⟨_, e⟩ := (show ∃ t, v = Value.str x t from r); cases e; exact q
  | byt b => obtain ⟨_, e⟩ := (show ∃ t, v = Value.bytes b t from r); cases e; exact q
  | flt b => obtain ⟨_, e⟩ := (show ∃ t, v = Value.float b t from r); cases e; exact q
  | ref a => cases (show v = Value.ref a from r); exact q
  | ty n => cases (show v = Value.type n from r); exact q
section
variable {X : Cx} {k : Nat} {C : Addr} {ps : List Str} {sp : Sp}
/-- a op b, both of the class at C, by C's own method -/
def rBinO (C : Addr) (sp : Sp) : R2 := fun x y H Q => ∃ a b dx dy fs gs, x = .ref a ∧ y = .ref b ∧ H a = some (.ins C dx fs) ∧ H b = some (.ins C dy gs) ∧ sp [.ref a, .ref b] H Q E0
theorem op_binO {op : Operator} {m : Str} (O : OkM CX0 X.prog X.w X.K X.mg X.base k C m ps sp) (first : PySem.W.selfFirst X.K C = true) (hr : Room k X.A) (hm : m = PySem.dunder op.info.2 := by rfl) : OpR X (binaryOp op) (rBinO C sp) := by
  subst hm
  intro pins s σ H x y v u Q I rx ry want
  obtain ⟨a, b, dx, dy, fs, gs, rfl, rfl, ea, eb, q⟩ := want
  cases (show v = Value.ref a from rx)
  cases (show u = Value.ref b from ry)
  obtain ⟨f, fd, F, at_, hb⟩ := O.ex
  obtain ⟨_, _, J⟩ := ins_inst I ea
  obtain ⟨_, _, J'⟩ := ins_inst I eb
  obtain ⟨_, fr⟩ := I.fr
  refine PySem.W.binop_K fr I.ok.mod.kin J J'.type first at_.at_ at_.fn (thn (run_fn (us := [.ref a, .ref b]) (vs := [.ref a, .ref b]) (dvs := []) F hr hb .nil pass0 I (.cons rfl (.cons rfl .nil)) q) ?_)
  rintro r s1 ⟨z, H2, I2, rz, q2⟩
  exact back_of rz ⟨z, H2, I2, rz, q2⟩
/-- op a -/
def rUnO (C : Addr) (sp : Sp) : V → Hp → VK → Prop := fun x H Q => ∃ a dx fs, x = .ref a ∧ H a = some (.ins C dx fs) ∧ sp [.ref a] H Q E0
theorem un_run {m : Str} (O : OkM CX0 X.prog X.w X.K X.mg X.base k C m ps sp) (hr : Room k X.A) {pins : List (Addr × Obj)} {σ : L2.St} {H : Hp} {s : Shared} {a : Addr} {Q : VK} (I : Inv X pins σ H s) (q : sp [.ref a] H Q E0) :
    ∃ f, PySem.W.findIn X.K (.ref C) m = some (some (.ref f)) ∧ PySem.W.isFn X.K (.ref f) = true ∧ wpAny (model X.prog X.w) X.A (call (.ref f) [.ref a]) (EP X pins σ Q) X.xe s := by
  obtain ⟨f, fd, F, at_, hb⟩ := O.ex
  exact ⟨f, at_.at_, at_.fn, run_fn (us := [.ref a]) (vs := [.ref a]) (dvs := []) F hr hb .nil pass0 I (.cons rfl .nil) q⟩
theorem un_negO (O : OkM CX0 X.prog X.w X.K X.mg X.base k C "__neg__" ps sp) (hr : Room k X.A) : UnR X (unaryOp .USub) (rUnO C sp) := by
  rintro pins s σ H x v Q I rx ⟨a, dx, fs, rfl, ea, q⟩
  cases (show v = Value.ref a from rx)
  obtain ⟨f, h1, h2, h3⟩ := un_run O hr I q
  obtain ⟨_, _, J⟩ := ins_inst I ea
  obtain ⟨_, fr⟩ := I.fr
  exact PySem.W.ksp_neg fr I.ok.mod.kin J h1 h2 h3
theorem un_posO (O : OkM CX0 X.prog X.w X.K X.mg X.base k C "__pos__" ps sp) (hr : Room k X.A) : UnR X (unaryOp .UAdd) (rUnO C sp) := by
  rintro pins s σ H x v Q I rx ⟨a, dx, fs, rfl, ea, q⟩
  cases (show v = Value.ref a from rx)
  obtain ⟨f, h1, h2, h3⟩ := un_run O hr I q
  obtain ⟨_, _, J⟩ := ins_inst I ea
  obtain ⟨_, fr⟩ := I.fr
  exact PySem.W.ksp_pos fr I.ok.mod.kin J h1 h2 h3
theorem un_invO (O : OkM CX0 X.prog X.w X.K X.mg X.base k C "__invert__" ps sp) (hr : Room k X.A) : UnR X (unaryOp .Invert) (rUnO C sp) := by
  rintro pins s σ H x v Q I rx ⟨a, dx, fs, rfl, ea, q⟩
  cases (show v = Value.ref a from rx)
  obtain ⟨f, h1, h2, h3⟩ := un_run O hr I q
  obtain ⟨_, _, J⟩ := ins_inst I ea
  obtain ⟨_, fr⟩ := I.fr
  exact PySem.W.ksp_inv fr I.ok.mod.kin J h1 h2 h3
/-- repr(a) -/
theorem call_reprO (O : OkM CX0 X.prog X.w X.K X.mg X.base k C "__repr__" ps sp) (hr : Room (k + 1) X.A) : CallR X (.builtin "repr") (fun xs H Q => ∃ a dx fs, xs = [.ref a] ∧ H a = some (.ins C dx fs) ∧
    sp [.ref a] H (fun v H2 => ∃ z : Str, v = .str z ∧ Q (.str z) H2) E0) := by
  intro pins s σ H xs us Q I r want
  obtain ⟨a, dx, fs, rfl, ea, q⟩ := want
  obtain ⟨u, rfl, ru⟩ := vals1 r
  cases (show u = Value.ref a from ru)
  obtain ⟨f, fd, F, at_, hb⟩ := O.ex
  obtain ⟨_, _, J⟩ := ins_inst I ea
  obtain ⟨_, fr⟩ := I.fr
  have h1 : Room k X.A.in1 := Room.in1 hr
  refine PySem.W.repr_K h1.units0 fr I.ok.mod.kin J at_.at_ at_.fn (run_in (vs := [.ref a]) F h1 rfl hb I (.cons rfl .nil) q ?_)
  rintro v s' ⟨z, H2, I2, rz, y, rfl, q2⟩
  obtain ⟨t, rfl⟩ := rz
  exact ⟨.str y, H2, I2, ⟨_, rfl⟩, q2⟩
/-- the truth of an object with an own __bool__ -/
theorem tru_ownO (O : OkM CX0 X.prog X.w X.K X.mg X.base k C "__bool__" ps sp) (hr : Room k X.A) : TruR X (fun x H Q => ∃ a dx fs, x = .ref a ∧ H a = some (.ins C dx fs) ∧ sp [.ref a] H (fun v H2 => ∃ c : Bool, v = .bl c ∧ Q c H2) E0) := by
  rintro pins s σ H x v Q I rx ⟨a, dx, fs, rfl, ea, q⟩
  cases (show v = Value.ref a from rx)
  obtain ⟨f, h1, h2, h3⟩ := un_run O hr I q
  obtain ⟨_, _, J⟩ := ins_inst I ea
  obtain ⟨_, fr⟩ := I.fr
  refine PySem.W.truthy_K fr I.ok.mod.kin J h1 h2 (thn h3 ?_)
  rintro r s1 ⟨z, H2, I2, rz, c, rfl, q2⟩
  cases (show r = Value.bool c from rz)
  exact ⟨H2, I2, q2⟩
end
end EV

/-! names, signs, makers and texts of libraries, as plain functions -/
namespace LM
open PySem TL L2
abbrev Rw := List Str
structure Op where
  sign : Str
  changed : List Str
  maker : Str
deriving DecidableEq
structure Lib where
  name : Str
  ps : List Str
  kept : List (Str × Str)
  hook : Option Str
  ops : List Op
deriving DecidableEq
def noFields : List Str := ["by", "changes", "name", "of", "to", "world"]
def binary : List Str := ["+", "-", "*", "//", "&", "|", "^", "<<", ">>"]
def unary : List Str := ["neg", "pos", "abs", "invert"]
def rootHooks : List Str := ["named", "call", "names", "renew", "copy", "bare"]
def makers0 : List Str := ["named", "call own", "names own", "bare own"]
def makers1 : List Str := ["named", "call own", "names own", "renew own", "copy own", "bare own", "hook"]
def makers2 : List Str := ["named", "call own", "call other", "call deeper", "call common", "names own", "names other", "names deeper", "names common", "renew own", "renew other", "renew deeper",
  "copy own", "copy other", "copy deeper", "bare own", "hook"]
def makersOf : Nat → List Str
  | 0 => makers0
  | 1 => makers1
  | _ => makers2
def within (lo hi : Nat) (l : List Nat) : Bool := l.all fun c => decide (lo ≤ c) && decide (c ≤ hi)
def small (w : Str) : Bool := decide (1 ≤ w.length) && decide (w.length ≤ 8) && within 97 122 (tl w)
def className (w : Str) : Bool := decide (1 ≤ w.length) && decide (w.length ≤ 8) && within 65 90 ((tl w).take 1) && within 97 122 ((tl w).drop 1)
def fieldName (w : Str) : Bool := small w && !noFields.contains w
def request (w : Str) : Bool := small w && !unary.contains w
def arity (w : Str) : Nat := if binary.contains w then 2 else if unary.contains w then 1 else 0
def firstRow (r : Rw) : Bool := match r with
  | [a, n] => a == "library" && className n
  | _ => false
def hookRow (r : Rw) : Bool := match r with
  | [a, w] => a == "hook" && rootHooks.contains w
  | _ => false
/-- one right `needs` row -/
def needsRow (r : Rw) (found : List Str) : Option Str := match r with
  | [a, f] => if a == "needs" && fieldName f && !found.contains f then some f else none
  | _ => none
def paramsM : List Rw → List Str → List Str
  | [], found => found
  | r :: rs, found => match needsRow r found with
    | some f => paramsM rs (found ++ [f])
    | none => found
def keepsRow (r : Rw) (known : List Str) : Option (Str × Str) := match r with
  | [a, f, o, s] => if a == "keeps" && o == "of" && fieldName f && !known.contains f && known.contains s then some (f, s) else none
  | _ => none
def keptM : List Rw → List Str → List (Str × Str) → List (Str × Str)
  | [], _, found => found
  | r :: rs, known, found => match keepsRow r known with
    | some p => keptM rs (known ++ [p.1]) (found ++ [p])
    | none => found
def selection (ws ps : List Str) : Bool := match ws with
  | [] => true
  | a :: chosen => a == "changes" && !chosen.isEmpty && decide (chosen = ps.filter fun f => chosen.contains f)
def requestM (r : Rw) (ps : List Str) : Option Op := match r with
  | a :: w :: b :: rest => if b == "by" && request w && makers0.contains (Str.join " " rest) then some ⟨w, ps, Str.join " " rest⟩ else none
  | _ => none
def opM (r : Rw) (ps : List Str) : Option Op := match r with
  | [] => none
  | s :: rest =>
    if s == "make" then requestM r ps
    else if (!binary.contains s && !unary.contains s) || !rest.contains "by" then none
    else
      let e := rest.findIdx (· == ("by" : Str))
      let maker := Str.join " " (rest.drop (e + 1))
      if !(makersOf (arity s)).contains maker || !selection (rest.take e) ps then none
      else some ⟨s, (rest.take e).drop 1, maker⟩
/-- from row k on: the operations, or the number of the first wrong row -/
def opsM (ps : List Str) (hook : Option Str) : Nat → List Rw → List Op → Except Nat (List Op)
  | _, [], found => .ok found
  | k, r :: rs, found => match opM r ps with
    | none => .error k
    | some o => if found.length = 6 || (found.map (·.sign)).contains o.sign || (o.maker == "hook" && hook.isNone) then .error k else opsM ps hook (k + 1) rs (found ++ [o])
def opsOf (rows : List Rw) (at_ : Nat) (ps : List Str) (hook : Option Str) : Except Nat (List Op) :=
  if at_ = rows.length then .error at_ else opsM ps hook at_ (rows.drop at_) []
def rowsM (z : Str) : List Rw := (Txt.split z "\n").map fun l => Txt.split l " "
def hookAt (rows : List Rw) (k : Nat) : Option Str := match rows[k]? with
  | some r => if hookRow r then some (r.getD 1 "") else none
  | none => none
def readRows (rows : List Rw) : Except Nat Lib :=
  if !firstRow (rows.headD []) then .error 0 else
  let ps := paramsM ((rows.drop 1).take 3) []
  if ps.isEmpty then .error 1 else
  let at1 := 1 + ps.length
  let kept := keptM ((rows.drop at1).take 2) ps []
  let at2 := at1 + kept.length
  let hk := hookAt rows at2
  let at3 := if hk.isSome then at2 + 1 else at2
  match opsOf rows at3 ps hk with
  | .error k => .error k
  | .ok ops => .ok ⟨(rows.headD []).getD 1 "", ps, kept, hk, ops⟩
def readM (z : Str) : Except Nat Lib := readRows (rowsM z)
def opLine (o : Op) : Str :=
  if arity o.sign = 0 then ("make " : Str) ++ o.sign ++ (" by " : Str) ++ o.maker
  else if o.changed = [] then o.sign ++ (" by " : Str) ++ o.maker
  else o.sign ++ (" changes " : Str) ++ Str.join " " o.changed ++ (" by " : Str) ++ o.maker
def rootLines (n : Str) (ps : List Str) (kept : List (Str × Str)) (hook : Option Str) : List Str :=
  [("library " : Str) ++ n] ++ ps.map (fun p => ("needs " : Str) ++ p) ++ kept.map (fun p => ("keeps " : Str) ++ p.1 ++ (" of " : Str) ++ p.2) ++ (match hook with | some h => [("hook " : Str) ++ h] | none => [])
def linesM (L : Lib) : List Str := rootLines L.name L.ps L.kept L.hook ++ L.ops.map opLine
def textM (L : Lib) : Str := Str.join "\n" (linesM L)
end LM

/-! the text of a library, cut into rows and read back -/
namespace LM
open PySem TL L2
/-! ### cutting at one sign -/
theorem pre1_self (s : Nat) (q : List Nat) : pre [s] (s :: q) = true := pre_self [s] q
theorem pre1_ne {s c : Nat} (q : List Nat) (h : c ≠ s) : pre [s] (c :: q) = false := pre_of_head [] q h
theorem spl1_app (s : Nat) : ∀ (p acc q : List Nat), spl [s] 0 acc (p ++ s :: q) = spl [s] 0 acc p ++ spl [s] 0 [] q
  | [], acc, q => by
    rw [List.nil_append, spl_hit (pre1_self s q), spl_nil]
    rfl
  | c :: p, acc, q => by
    by_cases h : c = s
    · subst h
      rw [List.cons_append, spl_hit (pre1_self _ _), spl_hit (pre1_self _ _)]
      show acc :: spl [c] 0 [] (p ++ c :: q) = acc :: spl [c] 0 [] p ++ spl [c] 0 [] q
      rw [spl1_app c p [] q]
      rfl
    · rw [List.cons_append, spl_miss (pre1_ne _ h), spl_miss (pre1_ne _ h), spl1_app s p _ q]
theorem spl1_join (s : Nat) : ∀ (p acc : List Nat), joinL [s] (spl [s] 0 acc p) = acc ++ p
  | [], acc => by
    rw [spl_nil, List.append_nil]
    rfl
  | c :: p, acc => by
    by_cases h : c = s
    · subst h
      rw [spl_hit (pre1_self _ _)]
      show joinL [c] (acc :: spl [c] 0 [] p) = _
      cases e : spl [c] 0 [] p with
      | nil =>
        have z := spl1_join c p []
        cases p with
        | nil => rw [spl_nil] at e; cases e
        | cons d r =>
          by_cases hd : d = c
          · subst hd; rw [spl_hit (pre1_self _ _)] at e; cases e
          · rw [e] at z; cases z
      | cons a r =>
        show acc ++ ([c] ++ joinL [c] (a :: r)) = _
        rw [← e, spl1_join c p []]
        rfl
    · rw [spl_miss (pre1_ne _ h), spl1_join s p _, List.append_assoc]
      rfl
theorem spl1_ne (s : Nat) (p acc : List Nat) : spl [s] 0 acc p ≠ [] := by
  cases p with
  | nil => rw [spl_nil]; simp
  | cons c p =>
    intro e
    induction p generalizing c acc with
    | nil =>
      by_cases h : c = s
      · subst h; rw [spl_hit (pre1_self _ _)] at e; cases e
      · rw [spl_miss (pre1_ne _ h), spl_nil] at e; cases e
    | cons d p ih =>
      by_cases h : c = s
      · subst h; rw [spl_hit (pre1_self _ _)] at e; cases e
      · rw [spl_miss (pre1_ne _ h)] at e
        exact ih _ _ e
theorem tl_sp : tl (" " : Str) = [32] := by decide +kernel
theorem tl_nl : tl ("\n" : Str) = [10] := by decide +kernel
theorem sp_all : ((" " : Str)).cps.all (· < 256) = true := by decide +kernel
theorem nl_all : (("\n" : Str)).cps.all (· < 256) = true := by decide +kernel
theorem split_sp (x : Str) : (Txt.split x " ").map tl = spl [32] 0 [] (tl x) := by
  rw [split_spl x " " (by rw [tl_sp]; simp) (kind_ok sp_all), tl_sp]
theorem split_app (x y : Str) : Txt.split (x ++ (" " : Str) ++ y) " " = Txt.split x " " ++ Txt.split y " " := by
  refine map_tl_inj ?_
  rw [List.map_append, split_sp, split_sp, split_sp, tl_append, tl_append, tl_sp, List.append_assoc]
  exact spl1_app 32 (tl x) [] (tl y)
theorem split_one {x : Str} (h : 32 ∉ tl x) : Txt.split x " " = [x] := by
  refine map_tl_inj ?_
  rw [split_sp, spl_last1 h]
  rfl
theorem join_split (x : Str) : Str.join " " (Txt.split x " ") = x := by
  refine ext_tl ?_
  rw [tl_join, split_sp, tl_sp, spl1_join 32 (tl x) [], List.nil_append]
theorem split_ne (x : Str) : Txt.split x " " ≠ [] := fun e => by
  have z := split_sp x
  rw [e] at z
  exact spl1_ne 32 (tl x) [] z.symm
theorem split_nl_ne (x : Str) : Txt.split x "\n" ≠ [] := fun e => by
  have z := split_spl x "\n" (by rw [tl_nl]; simp) (kind_ok nl_all)
  rw [e, tl_nl] at z
  exact spl1_ne 10 (tl x) [] z.symm
/-! ### words without blanks -/
def Plain (w : Str) : Prop := 32 ∉ tl w ∧ 10 ∉ tl w
def NoNl (w : Str) : Prop := 10 ∉ tl w
instance (w : Str) : Decidable (Plain w) := inferInstanceAs (Decidable (_ ∧ _))
instance (w : Str) : Decidable (NoNl w) := inferInstanceAs (Decidable (_ ∉ _))
theorem NoNl.app {x y : Str} (h : NoNl x) (k : NoNl y) : NoNl (x ++ y) := by
  unfold NoNl at *
  rw [tl_append, List.mem_append]
  exact fun z => z.elim h k
theorem join_cons2 (s x y : Str) (r : List Str) : Str.join s (x :: y :: r) = x ++ s ++ Str.join s (y :: r) := rfl
theorem split_joinP {ws : List Str} (hne : ws ≠ []) (h : ∀ w ∈ ws, Plain w) : Txt.split (Str.join " " ws) " " = ws := by
  have := split_join (y := (" " : Str)) (s := 32) (S := []) tl_sp sp_all hne (fun p hp => (h p hp).1)
  rwa [join_eq] at this
theorem nonl_join {s : Str} (hs : NoNl s) : ∀ {ws : List Str}, (∀ w ∈ ws, NoNl w) → NoNl (Str.join s ws)
  | [], _ => fun z => by cases z
  | [x], h => h x (List.mem_singleton.mpr rfl)
  | x :: y :: r, h => ((h x (List.mem_cons_self ..)).app hs).app (nonl_join hs fun w hw => h w (List.mem_cons_of_mem _ hw))
theorem within_ne {lo hi c : Nat} {l : List Nat} (h : within lo hi l = true) (hc : c < lo ∨ hi < c) : c ∉ l := fun hm => by
  have := List.all_eq_true.mp h c hm
  simp only [Bool.and_eq_true, decide_eq_true_eq] at this
  omega
theorem plain_small {w : Str} (h : small w = true) : Plain w := by
  unfold small at h
  rw [Bool.and_eq_true] at h
  exact ⟨within_ne h.2 (by omega), within_ne h.2 (by omega)⟩
theorem plain_class {w : Str} (h : className w = true) : Plain w := by
  unfold className at h
  rw [Bool.and_eq_true, Bool.and_eq_true] at h
  have e : tl w = (tl w).take 1 ++ (tl w).drop 1 := (List.take_append_drop 1 _).symm
  constructor
  · rw [e, List.mem_append]
    exact fun z => z.elim (within_ne h.1.2 (by omega)) (within_ne h.2 (by omega))
  · rw [e, List.mem_append]
    exact fun z => z.elim (within_ne h.1.2 (by omega)) (within_ne h.2 (by omega))
theorem plain_field {w : Str} (h : fieldName w = true) : Plain w := by
  unfold fieldName at h
  rw [Bool.and_eq_true] at h
  exact plain_small h.1
theorem plain_of {l : List Str} (h : ∀ w ∈ l, Plain w) {w : Str} (k : l.contains w = true) : Plain w := h w (List.contains_iff_mem.mp k)
/-! ### the rows of a library -/
def opRow (o : Op) : Rw :=
  if arity o.sign = 0 then ([("make" : Str), o.sign, ("by" : Str)] : Rw) ++ Txt.split o.maker " "
  else if o.changed = [] then ([o.sign, ("by" : Str)] : Rw) ++ Txt.split o.maker " "
  else ([o.sign, ("changes" : Str)] : Rw) ++ o.changed ++ ([("by" : Str)] : Rw) ++ Txt.split o.maker " "
def rootRows (n : Str) (ps : List Str) (kept : List (Str × Str)) (hook : Option Str) : List Rw :=
  ([[("library" : Str), n]] : List Rw) ++ ps.map (fun p => [("needs" : Str), p]) ++ kept.map (fun p => [("keeps" : Str), p.1, ("of" : Str), p.2]) ++ (match hook with | some h => [[("hook" : Str), h]] | none => [])
def rowsOf (L : Lib) : List Rw := rootRows L.name L.ps L.kept L.hook ++ L.ops.map opRow
/-- names that make no trouble in a text -/
structure Clean (L : Lib) : Prop where
  name : Plain L.name
  ps : ∀ p ∈ L.ps, Plain p
  kept : ∀ p ∈ L.kept, Plain p.1 ∧ Plain p.2
  hook : ∀ h, L.hook = some h → Plain h
  ops : ∀ o ∈ L.ops, Plain o.sign ∧ (∀ p ∈ o.changed, Plain p) ∧ NoNl o.maker
theorem split_two {x y : Str} (hx : Plain x) (hy : Plain y) : Txt.split (x ++ (" " : Str) ++ y) " " = [x, y] := by
  rw [split_app, split_one hx.1, split_one hy.1]
  rfl
theorem app_assoc (x y z : Str) : x ++ y ++ z = x ++ (y ++ z) := ext_tl (by simp only [tl_append, List.append_assoc])
theorem opLine_row {o : Op} (h : Plain o.sign) (hc : ∀ p ∈ o.changed, Plain p) : Txt.split (opLine o) " " = opRow o := by
  unfold opLine opRow
  have e1 : ("make " : Str) = ("make" : Str) ++ (" " : Str) := by decide +kernel
  have e2 : (" by " : Str) = (" " : Str) ++ ("by" : Str) ++ (" " : Str) := by decide +kernel
  have e3 : (" changes " : Str) = (" " : Str) ++ ("changes" : Str) ++ (" " : Str) := by decide +kernel
  have b : Txt.split ("by" : Str) " " = [("by" : Str)] := split_one (x := ("by" : Str)) (by decide +kernel)
  have m : Txt.split ("make" : Str) " " = [("make" : Str)] := split_one (x := ("make" : Str)) (by decide +kernel)
  have c : Txt.split ("changes" : Str) " " = [("changes" : Str)] := split_one (x := ("changes" : Str)) (by decide +kernel)
  by_cases h0 : arity o.sign = 0
  · rw [if_pos h0, if_pos h0, e1, e2]
    have e : ("make" : Str) ++ (" " : Str) ++ o.sign ++ ((" " : Str) ++ ("by" : Str) ++ (" " : Str)) ++ o.maker = ("make" : Str) ++ (" " : Str) ++ (o.sign ++ (" " : Str) ++ (("by" : Str) ++ (" " : Str) ++ o.maker)) := by
      simp only [app_assoc]
    rw [e, split_app, split_app, split_app, m, b, split_one h.1]
    rfl
  · rw [if_neg h0, if_neg h0]
    by_cases h1 : o.changed = []
    · rw [if_pos h1, if_pos h1, e2]
      have e : o.sign ++ ((" " : Str) ++ ("by" : Str) ++ (" " : Str)) ++ o.maker = o.sign ++ (" " : Str) ++ (("by" : Str) ++ (" " : Str) ++ o.maker) := by simp only [app_assoc]
      rw [e, split_app, split_app, b, split_one h.1]
      rfl
    · rw [if_neg h1, if_neg h1, e2, e3]
      have e : o.sign ++ ((" " : Str) ++ ("changes" : Str) ++ (" " : Str)) ++ Str.join " " o.changed ++ ((" " : Str) ++ ("by" : Str) ++ (" " : Str)) ++ o.maker
          = o.sign ++ (" " : Str) ++ (("changes" : Str) ++ (" " : Str) ++ (Str.join " " o.changed ++ (" " : Str) ++ (("by" : Str) ++ (" " : Str) ++ o.maker))) := by simp only [app_assoc]
      rw [e, split_app, split_app, split_app, split_app, b, c, split_one h.1, split_joinP h1 hc]
      simp only [List.append_assoc, List.cons_append, List.nil_append]
theorem lines_rows {L : Lib} (C : Clean L) : (linesM L).map (fun l => Txt.split l " ") = rowsOf L := by
  unfold linesM rowsOf rootLines rootRows
  have k2 : ∀ {w : Str} (x : Str), Plain w → Plain x → Txt.split (w ++ (" " : Str) ++ x) " " = [w, x] := fun x hw hx => split_two hw hx
  have e1 : ("library " : Str) = ("library" : Str) ++ (" " : Str) := by decide +kernel
  have e2 : ("needs " : Str) = ("needs" : Str) ++ (" " : Str) := by decide +kernel
  have e3 : ("keeps " : Str) = ("keeps" : Str) ++ (" " : Str) := by decide +kernel
  have e4 : (" of " : Str) = (" " : Str) ++ ("of" : Str) ++ (" " : Str) := by decide +kernel
  have e5 : ("hook " : Str) = ("hook" : Str) ++ (" " : Str) := by decide +kernel
  simp only [List.map_append, List.map_map]
  congr 1
  · congr 1
    · congr 1
      · congr 1
        · show [Txt.split (("library " : Str) ++ L.name) " "] = _
          rw [e1, k2 _ (by decide +kernel) C.name]
        · refine List.map_congr_left fun p hp => ?_
          show Txt.split (("needs " : Str) ++ p) " " = _
          rw [e2, k2 _ (by decide +kernel) (C.ps p hp)]
      · refine List.map_congr_left fun p hp => ?_
        show Txt.split (("keeps " : Str) ++ p.1 ++ (" of " : Str) ++ p.2) " " = _
        have e : ("keeps" : Str) ++ (" " : Str) ++ p.1 ++ ((" " : Str) ++ ("of" : Str) ++ (" " : Str)) ++ p.2 = ("keeps" : Str) ++ (" " : Str) ++ (p.1 ++ (" " : Str) ++ (("of" : Str) ++ (" " : Str) ++ p.2)) := by simp only [app_assoc]
        rw [e3, e4, e, split_app, split_app, split_app, split_one (by decide +kernel), split_one (C.kept p hp).1.1, split_one (by decide +kernel), split_one (C.kept p hp).2.1]
        rfl
    · cases e : L.hook with
      | none => rfl
      | some h =>
        show [Txt.split (("hook " : Str) ++ h) " "] = _
        rw [e5, k2 _ (by decide +kernel) (C.hook h e)]
  · refine List.map_congr_left fun o ho => ?_
    exact opLine_row (C.ops o ho).1 (C.ops o ho).2.1
theorem lines_ne (L : Lib) : linesM L ≠ [] := by
  unfold linesM rootLines
  simp
theorem nonl_lit {z : Str} (h : (tl z).contains 10 = false) : NoNl z := fun k => by
  rw [List.contains_iff_mem.mpr k] at h
  cases h
theorem lines_nl {L : Lib} (C : Clean L) : ∀ l ∈ linesM L, NoNl l := by
  intro l hl
  unfold linesM rootLines at hl
  simp only [List.mem_append, List.mem_map] at hl
  have a1 : NoNl ("library " : Str) := nonl_lit (by decide +kernel)
  have a2 : NoNl ("needs " : Str) := nonl_lit (by decide +kernel)
  have a3 : NoNl ("keeps " : Str) := nonl_lit (by decide +kernel)
  have a4 : NoNl (" of " : Str) := nonl_lit (by decide +kernel)
  have a5 : NoNl ("hook " : Str) := nonl_lit (by decide +kernel)
  have a6 : NoNl ("make " : Str) := nonl_lit (by decide +kernel)
  have a7 : NoNl (" by " : Str) := nonl_lit (by decide +kernel)
  have a8 : NoNl (" changes " : Str) := nonl_lit (by decide +kernel)
  have a9 : NoNl (" " : Str) := nonl_lit (by decide +kernel)
  rcases hl with (((hl | ⟨p, hp, rfl⟩) | ⟨p, hp, rfl⟩) | hl) | ⟨o, ho, rfl⟩
  · rw [List.mem_singleton.mp hl]
    exact a1.app C.name.2
  · exact a2.app (C.ps p hp).2
  · exact ((a3.app (C.kept p hp).1.2).app a4).app (C.kept p hp).2.2
  · cases e : L.hook with
    | none => rw [e] at hl; cases hl
    | some h =>
      rw [e] at hl
      rw [List.mem_singleton.mp hl]
      exact a5.app (C.hook h e).2
  · obtain ⟨h1, h2, h3⟩ := C.ops o ho
    unfold opLine
    split
    · exact ((a6.app h1.2).app a7).app h3
    · split
      · exact (NoNl.app (x := o.sign) h1.2 a7).app h3
      · exact (((NoNl.app (x := o.sign) h1.2 a8).app (nonl_join a9 fun w hw => (h2 w hw).2)).app a7).app h3
theorem rows_text {L : Lib} (C : Clean L) : rowsM (textM L) = rowsOf L := by
  unfold rowsM textM
  have := split_join (y := ("\n" : Str)) (s := 10) (S := []) tl_nl nl_all (lines_ne L) (fun p hp => lines_nl C p hp)
  rw [join_eq] at this
  rw [this]
  exact lines_rows C
end LM

/-! the rows of a right library, read -/
namespace LM
open PySem TL L2
def KeptOk : List Str → List (Str × Str) → Prop
  | _, [] => True
  | known, p :: r => fieldName p.1 = true ∧ p.1 ∉ known ∧ p.2 ∈ known ∧ KeptOk (known ++ [p.1]) r
structure RootOk (n : Str) (ps : List Str) (kept : List (Str × Str)) (hook : Option Str) : Prop where
  name : className n = true
  ps0 : ps ≠ []
  ps3 : ps.length ≤ 3
  pf : ∀ p ∈ ps, fieldName p = true
  nd : ps.Nodup
  kept2 : kept.length ≤ 2
  ko : KeptOk ps kept
  hk : ∀ h, hook = some h → h ∈ rootHooks
def needsR (p : Str) : Rw := [("needs" : Str), p]
def keepsR (p : Str × Str) : Rw := [("keeps" : Str), p.1, ("of" : Str), p.2]
theorem needs_none {a : Str} {t : List Str} {found : List Str} (h : a ≠ "needs") : needsRow (a :: t) found = none := by
  unfold needsRow
  split
  · rename_i x f e
    have e1 : a = x := by injection e
    have : (x == ("needs" : Str)) = false := by rw [← e1]; simpa using h
    rw [this]
    rfl
  · rfl
theorem keeps_none {a : Str} {t : List Str} {known : List Str} (h : a ≠ "keeps") : keepsRow (a :: t) known = none := by
  unfold keepsRow
  split
  · rename_i x f o s e
    have e1 : a = x := by injection e
    have : (x == ("keeps" : Str)) = false := by rw [← e1]; simpa using h
    rw [this]
    rfl
  · rfl
theorem hook_none {a : Str} {t : List Str} (h : a ≠ "hook") : hookRow (a :: t) = false := by
  unfold hookRow
  split
  · rename_i x f e
    have e1 : a = x := by injection e
    have : (x == ("hook" : Str)) = false := by rw [← e1]; simpa using h
    rw [this]
    rfl
  · rfl
theorem params_stop {rest : List Rw} {found : List Str} (h : ∀ r ∈ rest.head?, needsRow r found = none) : paramsM rest found = found := by
  cases rest with
  | nil => rfl
  | cons r rs =>
    unfold paramsM
    rw [h r rfl]
theorem params_run : ∀ (ps found : List Str) (rest : List Rw), (∀ p ∈ ps, fieldName p = true) → (found ++ ps).Nodup → (∀ r ∈ rest.head?, needsRow r (found ++ ps) = none) → paramsM (ps.map needsR ++ rest) found = found ++ ps
  | [], found, rest, _, _, h => by
    rw [List.append_nil] at h ⊢
    exact params_stop h
  | p :: ps, found, rest, hf, nd, h => by
    have e : found ++ p :: ps = (found ++ [p]) ++ ps := by rw [List.append_assoc]; rfl
    have np : p ∉ found := by
      intro hm
      rw [List.nodup_append] at nd
      exact nd.2.2 p hm p (List.mem_cons_self ..) rfl
    have q : needsRow (needsR p) found = some p := by
      show (if (("needs" : Str) == "needs") && fieldName p && !found.contains p then some p else none) = some p
      rw [hf p (List.mem_cons_self ..), show found.contains p = false by simpa using np]
      rfl
    show paramsM (needsR p :: (ps.map needsR ++ rest)) found = _
    unfold paramsM
    rw [q]
    rw [e] at nd h ⊢
    exact params_run ps (found ++ [p]) rest (fun z hz => hf z (List.mem_cons_of_mem _ hz)) nd h
theorem kept_stop {rest : List Rw} {known : List Str} {found : List (Str × Str)} (h : ∀ r ∈ rest.head?, ∀ kn, keepsRow r kn = none) : keptM rest known found = found := by
  cases rest with
  | nil => rfl
  | cons r rs =>
    unfold keptM
    rw [h r rfl]
theorem kept_run : ∀ (kept : List (Str × Str)) (known : List Str) (found : List (Str × Str)) (rest : List Rw), KeptOk known kept → (∀ r ∈ rest.head?, ∀ kn, keepsRow r kn = none) → keptM (kept.map keepsR ++ rest) known found = found ++ kept
  | [], known, found, rest, _, h => by
    rw [List.append_nil]
    exact kept_stop h
  | p :: r, known, found, rest, ko, h => by
    obtain ⟨k1, k2, k3, k4⟩ := ko
    have q : keepsRow (keepsR p) known = some p := by
      show (if (("keeps" : Str) == "keeps") && (("of" : Str) == "of") && fieldName p.1 && !known.contains p.1 && known.contains p.2 then some (p.1, p.2) else none) = some p
      rw [k1, show known.contains p.1 = false by simpa using k2, show known.contains p.2 = true by simpa using k3]
      rfl
    show keptM (keepsR p :: (r.map keepsR ++ rest)) known found = _
    unfold keptM
    rw [q]
    have e : found ++ p :: r = (found ++ [p]) ++ r := by rw [List.append_assoc]; rfl
    rw [e]
    exact kept_run r _ _ rest k4 h
/-- rows that begin no root line -/
def Free (R : List Rw) : Prop := ∀ r ∈ R, ∃ a t, r = a :: t ∧ a ≠ ("needs" : Str) ∧ a ≠ ("keeps" : Str) ∧ a ≠ ("hook" : Str)
def hookRows (hook : Option Str) : List Rw := match hook with | some h => [[("hook" : Str), h]] | none => []
theorem read_root {n : Str} {ps : List Str} {kept : List (Str × Str)} {hook : Option Str} {R : List Rw} (C : RootOk n ps kept hook) (F : Free R) :
    readRows (rootRows n ps kept hook ++ R) = match opsOf (rootRows n ps kept hook ++ R) (rootRows n ps kept hook).length ps hook with
      | .error k => .error k
      | .ok ops => .ok ⟨n, ps, kept, hook, ops⟩ := by
  have er : rootRows n ps kept hook ++ R = [("library" : Str), n] :: (ps.map needsR ++ (kept.map keepsR ++ (hookRows hook ++ R))) := by
    unfold rootRows hookRows
    simp only [List.append_assoc, List.cons_append, List.nil_append]
    rfl
  have el : (rootRows n ps kept hook).length = 1 + ps.length + kept.length + (hookRows hook).length := by
    unfold rootRows hookRows
    first
      | (simp only [List.length_append, List.length_map, List.length_cons, List.length_nil, Nat.zero_add]; cases hook <;> rfl)
      | simp only [List.length_append, List.length_map, List.length_cons, List.length_nil, Nat.zero_add]
  rw [er, el]
  generalize hrows : [("library" : Str), n] :: (ps.map needsR ++ (kept.map keepsR ++ (hookRows hook ++ R))) = rows
  have h1 : rows.headD [] = [("library" : Str), n] := by rw [← hrows]; rfl
  have d1 : rows.drop 1 = ps.map needsR ++ (kept.map keepsR ++ (hookRows hook ++ R)) := by rw [← hrows]; rfl
  have hdF : ∀ r ∈ (hookRows hook ++ R).head?, (∀ kn, keepsRow r kn = none) ∧ ∀ f, needsRow r f = none := by
    intro r hr
    cases hook with
    | some h =>
      obtain rfl : [("hook" : Str), h] = r := by simpa [hookRows] using hr
      exact ⟨fun kn => keeps_none (by decide +kernel), fun f => needs_none (by decide +kernel)⟩
    | none =>
      cases R with
      | nil => cases hr
      | cons x xs =>
        obtain rfl : x = r := by simpa [hookRows] using hr
        obtain ⟨a, t, rfl, a1, a2, a3⟩ := F _ (List.mem_cons_self ..)
        exact ⟨fun kn => keeps_none a2, fun f => needs_none a1⟩
  have hP : paramsM ((rows.drop 1).take 3) [] = ps := by
    rw [d1, List.take_append, List.take_of_length_le (by rw [List.length_map]; exact C.ps3)]
    rw [params_run ps [] _ C.pf (by simpa using C.nd) ?_]
    · rfl
    · intro r hr
      have hr2 : r ∈ (kept.map keepsR ++ (hookRows hook ++ R)).head? := by
        rw [List.length_map] at hr
        cases e : 3 - ps.length with
        | zero => rw [e, List.take_zero] at hr; cases hr
        | succ j =>
          rw [e] at hr
          cases z : kept.map keepsR ++ (hookRows hook ++ R) with
          | nil => rw [z] at hr; cases hr
          | cons x xs => rw [z] at hr; exact hr
      cases kept with
      | nil => exact (hdF r hr2).2 _
      | cons p q =>
        obtain rfl : keepsR p = r := by simpa using hr2
        exact needs_none (by decide +kernel)
  have d2 : rows.drop (1 + ps.length) = kept.map keepsR ++ (hookRows hook ++ R) := by
    rw [← List.drop_drop, d1]
    exact List.drop_left' (by rw [List.length_map])
  have hK : keptM ((rows.drop (1 + ps.length)).take 2) ps [] = kept := by
    rw [d2, List.take_append, List.take_of_length_le (by rw [List.length_map]; exact C.kept2)]
    rw [kept_run kept ps [] _ C.ko ?_]
    · rfl
    · intro r hr
      have hr2 : r ∈ (hookRows hook ++ R).head? := by
        rw [List.length_map] at hr
        cases e : 2 - kept.length with
        | zero => rw [e, List.take_zero] at hr; cases hr
        | succ j =>
          rw [e] at hr
          cases z : hookRows hook ++ R with
          | nil => rw [z] at hr; cases hr
          | cons x xs => rw [z] at hr; exact hr
      exact (hdF r hr2).1
  have d3 : rows.drop (1 + ps.length + kept.length) = hookRows hook ++ R := by
    rw [← List.drop_drop, d2]
    exact List.drop_left' (by rw [List.length_map])
  have g3 : rows[1 + ps.length + kept.length]? = (hookRows hook ++ R).head? := by
    rw [← d3, List.head?_drop]
  have hH : hookAt rows (1 + ps.length + kept.length) = hook := by
    unfold hookAt
    rw [g3]
    cases hook with
    | some h =>
      have q : hookRow [("hook" : Str), h] = true := by
        show ((("hook" : Str) == "hook") && rootHooks.contains h) = true
        rw [show rootHooks.contains h = true by simpa using C.hk h rfl]
        rfl
      show (if hookRow [("hook" : Str), h] then some h else none) = some h
      rw [q]
      rfl
    | none =>
      cases R with
      | nil => rfl
      | cons x xs =>
        obtain ⟨a, t, rfl, a1, a2, a3⟩ := F _ (List.mem_cons_self ..)
        show (if hookRow (a :: t) then some ((a :: t).getD 1 "") else none) = none
        rw [hook_none a3]
        rfl
  have hE : ps.isEmpty = false := by
    cases ps with
    | nil => exact absurd rfl C.ps0
    | cons _ _ => rfl
  have hF : firstRow [("library" : Str), n] = true := by
    show ((("library" : Str) == "library") && className n) = true
    rw [C.name]
    rfl
  unfold readRows
  simp only [h1, hF, hP, hE, hK, hH, Bool.not_true, Bool.false_eq_true, if_false]
  have h3 : (if hook.isSome = true then 1 + ps.length + kept.length + 1 else 1 + ps.length + kept.length) = 1 + ps.length + kept.length + (hookRows hook).length := by
    cases hook <;> rfl
  rw [h3]
  rfl
theorem opsOf_root {n : Str} {ps : List Str} {kept : List (Str × Str)} {hook : Option Str} {R : List Rw} (h : R ≠ []) :
    opsOf (rootRows n ps kept hook ++ R) (rootRows n ps kept hook).length ps hook = opsM ps hook (rootRows n ps kept hook).length R [] := by
  unfold opsOf
  rw [if_neg ?_, List.drop_left]
  rw [List.length_append]
  have := List.length_pos_iff.mpr h
  omega
/-! ### operations -/
/-- sign and changed parameters are right; a request changes all -/
structure OpForm (ps : List Str) (o : Op) : Prop where
  sg : binary.contains o.sign = true ∨ unary.contains o.sign = true ∨ (request o.sign = true ∧ o.changed = ps)
  ch : o.changed = ps.filter fun f => o.changed.contains f
  nb : ∀ p ∈ o.changed, p ≠ ("by" : Str)
theorem free_op {ps : List Str} {o : Op} (h : OpForm ps o) (hr : arity o.sign = 0 ∨ binary.contains o.sign = true ∨ unary.contains o.sign = true) : ∃ a t, opRow o = a :: t ∧ a ≠ ("needs" : Str) ∧ a ≠ ("keeps" : Str) ∧ a ≠ ("hook" : Str) := by
  unfold opRow
  by_cases h0 : arity o.sign = 0
  · rw [if_pos h0]
    exact ⟨("make" : Str), _, rfl, by decide +kernel, by decide +kernel, by decide +kernel⟩
  · rw [if_neg h0]
    have hb : o.sign ∈ binary ∨ o.sign ∈ unary := by
      rcases hr with hr | hr | hr
      · exact absurd hr h0
      · exact .inl (List.contains_iff_mem.mp hr)
      · exact .inr (List.contains_iff_mem.mp hr)
    have key : ∀ s ∈ binary ++ unary, s ≠ ("needs" : Str) ∧ s ≠ ("keeps" : Str) ∧ s ≠ ("hook" : Str) := by decide +kernel
    have k := key o.sign (List.mem_append.mpr hb)
    split
    · exact ⟨o.sign, _, rfl, k.1, k.2.1, k.2.2⟩
    · exact ⟨o.sign, _, rfl, k.1, k.2.1, k.2.2⟩
theorem arity_bin {s : Str} (h : binary.contains s = true) : arity s = 2 := by
  unfold arity
  rw [if_pos h]
theorem arity_un {s : Str} (h : binary.contains s = false) (h2 : unary.contains s = true) : arity s = 1 := by
  unfold arity
  rw [h, h2]
  rfl
theorem bin_not_small : ∀ s ∈ binary, small s = false := by decide +kernel
theorem arity_req {s : Str} (h : request s = true) : arity s = 0 ∧ binary.contains s = false ∧ unary.contains s = false := by
  unfold request at h
  rw [Bool.and_eq_true, Bool.not_eq_true'] at h
  have hb : binary.contains s = false := by
    cases e : binary.contains s with
    | false => rfl
    | true =>
      have z := bin_not_small s (List.contains_iff_mem.mp e)
      rw [h.1] at z
      cases z
  refine ⟨?_, hb, h.2⟩
  unfold arity
  rw [hb, h.2]
  rfl
theorem findIdx_by {pre : List Str} {rest : List Str} (h : ∀ p ∈ pre, p ≠ ("by" : Str)) : (pre ++ ("by" : Str) :: rest).findIdx (· == ("by" : Str)) = pre.length := by
  rw [List.findIdx_append]
  have : pre.findIdx (· == ("by" : Str)) = pre.length := List.findIdx_eq_length.mpr fun x hx => by simpa using h x hx
  rw [this]
  simp [List.findIdx_cons]
theorem opM_row {ps : List Str} {o : Op} (h : OpForm ps o) (hps : ps ≠ []) : opM (opRow o) ps = if (makersOf (arity o.sign)).contains o.maker then some o else none := by
  by_cases hr : request o.sign = true ∧ binary.contains o.sign = false ∧ unary.contains o.sign = false
  · obtain ⟨hq, hb, hu⟩ := hr
    have ec : o.changed = ps := by
      rcases h.sg with z | z | z
      · rw [z] at hb; cases hb
      · rw [z] at hu; cases hu
      · exact z.2
    obtain ⟨a0, _, _⟩ := arity_req hq
    have e : opRow o = ("make" : Str) :: o.sign :: ("by" : Str) :: Txt.split o.maker " " := by
      unfold opRow
      rw [if_pos a0]
      rfl
    rw [e, a0]
    show requestM (("make" : Str) :: o.sign :: ("by" : Str) :: Txt.split o.maker " ") ps = _
    unfold requestM
    simp only [join_split]
    show (if (("by" : Str) == "by") && request o.sign && makers0.contains o.maker then some (⟨o.sign, ps, o.maker⟩ : Op) else none) = if makers0.contains o.maker then some o else none
    rw [hq, ← ec]
    rfl
  · have hs : binary.contains o.sign = true ∨ unary.contains o.sign = true := by
      rcases h.sg with z | z | z
      · exact .inl z
      · exact .inr z
      · exact absurd ⟨z.1, (arity_req z.1).2⟩ hr
    have a0 : arity o.sign ≠ 0 := by
      rcases hs with z | z
      · rw [arity_bin z]; decide
      · cases e : binary.contains o.sign with
        | true => rw [arity_bin e]; decide
        | false => rw [arity_un e z]; decide
    have nm : o.sign ≠ ("make" : Str) := by
      have key : ∀ s ∈ binary ++ unary, s ≠ ("make" : Str) := by decide +kernel
      exact key o.sign (List.mem_append.mpr (hs.imp (fun z => List.contains_iff_mem.mp z) fun z => List.contains_iff_mem.mp z))
    have hpre : ∃ pre : List Str, opRow o = o.sign :: (pre ++ ("by" : Str) :: Txt.split o.maker " ") ∧ (∀ p ∈ pre, p ≠ ("by" : Str)) ∧ selection pre ps = true ∧ pre.drop 1 = o.changed := by
      unfold opRow
      rw [if_neg a0]
      by_cases hc : o.changed = []
      · rw [if_pos hc]
        exact ⟨[], rfl, (fun p hp => by cases hp), rfl, by rw [hc]; rfl⟩
      · rw [if_neg hc]
        refine ⟨("changes" : Str) :: o.changed, by simp, ?_, ?_, rfl⟩
        · intro p hp
          rcases List.mem_cons.mp hp with rfl | hp
          · decide +kernel
          · exact h.nb p hp
        · have e1 : o.changed.isEmpty = false := by
            cases e : o.changed with
            | nil => exact absurd e hc
            | cons _ _ => rfl
          show ((("changes" : Str) == "changes") && !o.changed.isEmpty && decide (o.changed = ps.filter fun f => o.changed.contains f)) = true
          rw [e1, decide_eq_true h.ch]
          rfl
    obtain ⟨pre, e, hb, hsel, hd⟩ := hpre
    rw [e]
    unfold opM
    have n1 : (o.sign == ("make" : Str)) = false := by simpa using nm
    have n2 : (!binary.contains o.sign && !unary.contains o.sign) = false := by
      rcases hs with z | z <;> rw [z] <;> simp
    have n3 : (pre ++ ("by" : Str) :: Txt.split o.maker " ").contains "by" = true := by simp
    have ft : (pre ++ ("by" : Str) :: Txt.split o.maker " ").take pre.length = pre := List.take_left
    have fd : (pre ++ ("by" : Str) :: Txt.split o.maker " ").drop (pre.length + 1) = Txt.split o.maker " " := by
      rw [← List.drop_drop, List.drop_left]
      rfl
    simp only [n1, n2, n3, findIdx_by hb, ft, fd, join_split, hsel, hd, Bool.not_true, Bool.or_false, Bool.false_eq_true, if_false]
    cases (makersOf (arity o.sign)).contains o.maker <;> rfl
/-- the maker is allowed -/
def mkOk (hook : Option Str) (o : Op) : Bool := (makersOf (arity o.sign)).contains o.maker && !(o.maker == "hook" && hook.isNone)
theorem ops_run {ps : List Str} {hook : Option Str} (hps : ps ≠ []) : ∀ (ops : List Op) (k : Nat) (found : List Op), (∀ o ∈ ops, OpForm ps o) → found.length + ops.length ≤ 6 → ((found ++ ops).map (·.sign)).Nodup →
    (ops.all (mkOk hook) = true → opsM ps hook k (ops.map opRow) found = .ok (found ++ ops)) ∧ (ops.all (mkOk hook) = false → ∃ i, opsM ps hook k (ops.map opRow) found = .error i)
  | [], k, found, _, _, _ => ⟨fun _ => by rw [List.append_nil]; rfl, fun h => by cases h⟩
  | o :: ops, k, found, hf, hl, nd => by
    have e : found ++ o :: ops = (found ++ [o]) ++ ops := by rw [List.append_assoc]; rfl
    have hl' : found.length + 1 + ops.length ≤ 6 := by
      rw [List.length_cons] at hl
      omega
    have nn : (found.map (·.sign)).contains o.sign = false := by
      rw [List.map_append, List.nodup_append] at nd
      cases z : (found.map (·.sign)).contains o.sign with
      | false => rfl
      | true => exact absurd rfl (nd.2.2 o.sign (List.contains_iff_mem.mp z) o.sign (List.mem_cons_self ..))
    have ih := ops_run (hook := hook) hps ops (k + 1) (found ++ [o]) (fun z hz => hf z (List.mem_cons_of_mem _ hz)) (by rw [List.length_append]; exact hl') (by rw [← e]; exact nd)
    have step : opsM ps hook k (opRow o :: ops.map opRow) found = if mkOk hook o = true then opsM ps hook (k + 1) (ops.map opRow) (found ++ [o]) else .error k := by
      show (match opM (opRow o) ps with
        | none => Except.error k
        | some (o : Op) => if found.length = 6 || (found.map (fun z : Op => z.sign)).contains o.sign || (o.maker == "hook" && hook.isNone) then .error k else opsM ps hook (k + 1) (ops.map opRow) (found ++ [o])) = _
      rw [opM_row (hf o (List.mem_cons_self ..)) hps]
      unfold mkOk
      cases (makersOf (arity o.sign)).contains o.maker with
      | false => rfl
      | true =>
        show (if decide (found.length = 6) || (found.map (fun z : Op => z.sign)).contains o.sign || (o.maker == "hook" && hook.isNone) then Except.error k else opsM ps hook (k + 1) (ops.map opRow) (found ++ [o])) = _
        rw [nn, show decide (found.length = 6) = false from decide_eq_false (by omega)]
        cases (o.maker == ("hook" : Str) && hook.isNone) <;> rfl
    show (_ → opsM ps hook k (opRow o :: ops.map opRow) found = _) ∧ (_ → ∃ i, opsM ps hook k (opRow o :: ops.map opRow) found = _)
    rw [step, e]
    cases hm : mkOk hook o with
    | true =>
      refine ⟨fun h => ?_, fun h => ?_⟩
      · rw [if_pos rfl]
        rw [List.all_cons, hm, Bool.true_and] at h
        exact ih.1 h
      · rw [if_pos rfl]
        rw [List.all_cons, hm, Bool.true_and] at h
        exact ih.2 h
    | false =>
      refine ⟨fun h => ?_, fun _ => ⟨k, rfl⟩⟩
      rw [List.all_cons, hm] at h
      cases h
/-- a library whose makers may be any words -/
structure LibOk (L : Lib) : Prop where
  root : RootOk L.name L.ps L.kept L.hook
  ops0 : L.ops ≠ []
  ops6 : L.ops.length ≤ 6
  nd : (L.ops.map (·.sign)).Nodup
  form : ∀ o ∈ L.ops, OpForm L.ps o
  nl : ∀ o ∈ L.ops, NoNl o.maker
theorem kept_plain : ∀ {kept : List (Str × Str)} {known : List Str}, KeptOk known kept → (∀ p ∈ known, Plain p) → ∀ p ∈ kept, Plain p.1 ∧ Plain p.2
  | [], _, _, _, p, hp => by cases hp
  | q :: r, known, ko, hk, p, hp => by
    obtain ⟨k1, k2, k3, k4⟩ := ko
    rcases List.mem_cons.mp hp with rfl | hp
    · exact ⟨plain_field k1, hk _ k3⟩
    · refine kept_plain k4 (fun z hz => ?_) p hp
      rcases List.mem_append.mp hz with hz | hz
      · exact hk z hz
      · rw [List.mem_singleton.mp hz]
        exact plain_field k1
theorem LibOk.clean {L : Lib} (h : LibOk L) : Clean L := by
  have hp : ∀ p ∈ L.ps, Plain p := fun p hp => plain_field (h.root.pf p hp)
  refine ⟨plain_class h.root.name, hp, kept_plain h.root.ko hp, fun w hw => ?_, fun o ho => ⟨?_, fun p hq => ?_, h.nl o ho⟩⟩
  · have key : ∀ s ∈ rootHooks, Plain s := by decide +kernel
    exact key w (h.root.hk w hw)
  · have key : ∀ s ∈ binary ++ unary, Plain s := by decide +kernel
    rcases (h.form o ho).sg with z | z | z
    · exact key _ (List.mem_append.mpr (.inl (List.contains_iff_mem.mp z)))
    · exact key _ (List.mem_append.mpr (.inr (List.contains_iff_mem.mp z)))
    · unfold request at z
      rw [Bool.and_eq_true] at z
      exact plain_small z.1.1
  · rw [(h.form o ho).ch] at hq
    exact hp p (List.mem_filter.mp hq).1
theorem LibOk.free {L : Lib} (h : LibOk L) : Free (L.ops.map opRow) := by
  intro r hr
  obtain ⟨o, ho, rfl⟩ := List.mem_map.mp hr
  refine free_op (h.form o ho) ?_
  rcases (h.form o ho).sg with z | z | z
  · exact .inr (.inl z)
  · exact .inr (.inr z)
  · exact .inl (arity_req z.1).1
/-- THE TEXT IS READ BACK, if and only if its makers are allowed -/
theorem read_text {L : Lib} (h : LibOk L) : (L.ops.all (mkOk L.hook) = true → readM (textM L) = .ok L) ∧ (L.ops.all (mkOk L.hook) = false → ∃ i, readM (textM L) = .error i) := by
  have hne : L.ops.map opRow ≠ [] := fun e => h.ops0 (List.map_eq_nil_iff.mp e)
  have e : readM (textM L) = match opsM L.ps L.hook (rootRows L.name L.ps L.kept L.hook).length (L.ops.map opRow) [] with
      | .error k => .error k
      | .ok ops => .ok ⟨L.name, L.ps, L.kept, L.hook, ops⟩ := by
    unfold readM
    rw [rows_text h.clean]
    unfold rowsOf
    rw [read_root h.root h.free, opsOf_root hne]
  have r := ops_run (hook := L.hook) h.root.ps0 L.ops (rootRows L.name L.ps L.kept L.hook).length [] h.form (by simpa using h.ops6) (by simpa using h.nd)
  refine ⟨fun k => ?_, fun k => ?_⟩
  · rw [e, r.1 k]
    rfl
  · obtain ⟨i, hi⟩ := r.2 k
    exact ⟨i, by rw [e, hi]⟩
end LM

/-! what a library that was read is like: short names, few of them, signs unlike -/
namespace LM
open PySem TL L2
def Sh (w : Str) : Prop := w.length ≤ 1000
theorem sh_small {w : Str} (h : small w = true) : Sh w := by
  unfold small at h
  rw [Bool.and_eq_true, Bool.and_eq_true] at h
  have := of_decide_eq_true h.1.2
  show w.length ≤ 1000
  omega
theorem sh_field {w : Str} (h : fieldName w = true) : Sh w := by
  unfold fieldName at h
  rw [Bool.and_eq_true] at h
  exact sh_small h.1
theorem sh_class {w : Str} (h : className w = true) : Sh w := by
  unfold className at h
  rw [Bool.and_eq_true, Bool.and_eq_true, Bool.and_eq_true] at h
  have := of_decide_eq_true h.1.1.2
  show w.length ≤ 1000
  omega
instance (w : Str) : Decidable (Sh w) := inferInstanceAs (Decidable (_ ≤ _))
theorem sh_hooks : ∀ w ∈ rootHooks, Sh w := by decide +kernel
theorem sh_signs : ∀ w ∈ binary ++ unary, Sh w := by decide +kernel
theorem sh_makers : ∀ w ∈ makers0 ++ makers1 ++ makers2, Sh w := by decide +kernel
theorem sh_maker {n : Nat} {w : Str} (h : (makersOf n).contains w = true) : Sh w := by
  have hm := List.contains_iff_mem.mp h
  refine sh_makers w ?_
  match n, hm with
  | 0, hm => exact List.mem_append_left _ (List.mem_append_left _ hm)
  | 1, hm => exact List.mem_append_left _ (List.mem_append_right _ hm)
  | _ + 2, hm => exact List.mem_append_right _ hm
theorem strOk_small {w : Str} (h : small w = true) : PySem.PyData.strOk w = true := by
  unfold small at h
  rw [Bool.and_eq_true] at h
  unfold PySem.PyData.strOk
  rw [Array.all_eq_true_iff_forall_mem]
  intro c hc
  have := List.all_eq_true.mp h.2 c (Array.mem_toList_iff.mpr hc)
  simp only [Bool.and_eq_true, decide_eq_true_eq] at this
  exact decide_eq_true (by omega)
theorem strOk_field {w : Str} (h : fieldName w = true) : PySem.PyData.strOk w = true := by
  unfold fieldName at h
  rw [Bool.and_eq_true] at h
  exact strOk_small h.1
theorem needs_some {r : Rw} {found : List Str} {f : Str} (h : needsRow r found = some f) : fieldName f = true := by
  unfold needsRow at h
  split at h
  · split at h
    · rename_i c
      injection h with h
      subst h
      simp only [Bool.and_eq_true] at c
      exact c.1.2
    · cases h
  · cases h
theorem params_good : ∀ (rs : List Rw) (found : List Str), (∀ f ∈ found, fieldName f = true) → (∀ f ∈ paramsM rs found, fieldName f = true) ∧ (paramsM rs found).length ≤ found.length + rs.length
  | [], found, h => ⟨h, Nat.le_refl _⟩
  | r :: rs, found, h => by
    unfold paramsM
    cases e : needsRow r found with
    | none => exact ⟨h, by show found.length ≤ _; omega⟩
    | some f =>
      have ih := params_good rs (found ++ [f]) fun z hz => by
        rcases List.mem_append.mp hz with hz | hz
        · exact h z hz
        · rw [List.mem_singleton.mp hz]
          exact needs_some e
      refine ⟨ih.1, ?_⟩
      have := ih.2
      rw [List.length_append] at this
      show (paramsM rs (found ++ [f])).length ≤ found.length + (rs.length + 1)
      simp at this
      omega
theorem keeps_some {r : Rw} {known : List Str} {p : Str × Str} (h : keepsRow r known = some p) : fieldName p.1 = true ∧ p.2 ∈ known := by
  unfold keepsRow at h
  split at h
  · split at h
    · rename_i c
      injection h with h
      subst h
      simp only [Bool.and_eq_true] at c
      exact ⟨c.1.1.2, List.contains_iff_mem.mp c.2⟩
    · cases h
  · cases h
theorem kept_good : ∀ (rs : List Rw) (known : List Str) (found : List (Str × Str)), (∀ f ∈ known, Sh f) → (∀ p ∈ found, Sh p.1 ∧ Sh p.2) → (∀ p ∈ keptM rs known found, Sh p.1 ∧ Sh p.2) ∧ (keptM rs known found).length ≤ found.length + rs.length
  | [], known, found, _, h => ⟨h, Nat.le_refl _⟩
  | r :: rs, known, found, hk, h => by
    unfold keptM
    cases e : keepsRow r known with
    | none => exact ⟨h, by show found.length ≤ _; omega⟩
    | some p =>
      obtain ⟨e1, e2⟩ := keeps_some e
      have ih := kept_good rs (known ++ [p.1]) (found ++ [p]) (fun z hz => by
        rcases List.mem_append.mp hz with hz | hz
        · exact hk z hz
        · rw [List.mem_singleton.mp hz]
          exact sh_field e1) fun z hz => by
        rcases List.mem_append.mp hz with hz | hz
        · exact h z hz
        · rw [List.mem_singleton.mp hz]
          exact ⟨sh_field e1, hk _ e2⟩
      refine ⟨ih.1, ?_⟩
      have := ih.2
      rw [List.length_append] at this
      show (keptM rs (known ++ [p.1]) (found ++ [p])).length ≤ found.length + (rs.length + 1)
      simp at this
      omega
structure OpGood (ps : List Str) (o : Op) : Prop where
  sign : Sh o.sign
  maker : Sh o.maker
  sub : ∀ p ∈ o.changed, p ∈ ps
  len : o.changed.length ≤ ps.length
theorem op_good {r : Rw} {ps : List Str} {o : Op} (h : opM r ps = some o) : OpGood ps o := by
  unfold opM at h
  split at h
  · cases h
  · rename_i s rest
    split at h
    · unfold requestM at h
      split at h
      · split at h
        · rename_i c
          injection h with h
          subst h
          simp only [Bool.and_eq_true] at c
          refine ⟨?_, sh_maker (n := 0) c.2, fun p hp => hp, Nat.le_refl _⟩
          have q := c.1.2
          unfold request at q
          rw [Bool.and_eq_true] at q
          exact sh_small q.1
        · cases h
      · cases h
    · split at h
      · cases h
      · rename_i c1
        dsimp only at h
        split at h
        · cases h
        · rename_i c2
          injection h with h
          subst h
          rw [Bool.or_eq_true, not_or] at c1 c2
          have hs : s ∈ binary ++ unary := by
            cases hb : binary.contains s with
            | true => exact List.mem_append_left _ (List.contains_iff_mem.mp hb)
            | false =>
              cases hu : unary.contains s with
              | true => exact List.mem_append_right _ (List.contains_iff_mem.mp hu)
              | false => exact absurd (by rw [hb, hu]; rfl) c1.1
          have hm := c2.1
          have hsel := c2.2
          rw [Bool.not_eq_true', Bool.not_eq_false] at hm hsel
          refine ⟨sh_signs s hs, sh_maker hm, ?_, ?_⟩
          · show ∀ p ∈ (rest.take _).drop 1, _
            generalize rest.take _ = ws at hsel
            cases ws with
            | nil => intro p hp; cases hp
            | cons a ch =>
              intro p hp
              unfold selection at hsel
              simp only [Bool.and_eq_true] at hsel
              have e := of_decide_eq_true hsel.2
              have hp' : p ∈ ch := hp
              rw [e] at hp'
              exact (List.mem_filter.mp hp').1
          · show ((rest.take _).drop 1).length ≤ _
            generalize rest.take _ = ws at hsel
            cases ws with
            | nil => exact Nat.zero_le _
            | cons a ch =>
              unfold selection at hsel
              simp only [Bool.and_eq_true] at hsel
              have e := of_decide_eq_true hsel.2
              show ch.length ≤ _
              rw [e]
              exact List.length_filter_le _ _
theorem ops_good {ps : List Str} {hk : Option Str} : ∀ (rs : List Rw) (k : Nat) (found ops : List Op), opsM ps hk k rs found = .ok ops → (∀ o ∈ found, OpGood ps o) → (found.map (·.sign)).Nodup → found.length ≤ 6 →
    (∀ o ∈ ops, OpGood ps o) ∧ (ops.map (·.sign)).Nodup ∧ ops.length ≤ 6
  | [], k, found, ops, h, g, nd, l => by
    injection h with h
    subst h
    exact ⟨g, nd, l⟩
  | r :: rs, k, found, ops, h, g, nd, l => by
    unfold opsM at h
    cases e : opM r ps with
    | none => rw [e] at h; cases h
    | some o =>
      rw [e] at h
      dsimp only at h
      split at h
      · cases h
      · rename_i c
        rw [Bool.or_eq_true, not_or, Bool.or_eq_true, not_or] at c
        have n6 : found.length ≠ 6 := fun z => c.1.1 (decide_eq_true z)
        have ns : o.sign ∉ found.map (·.sign) := fun z => c.1.2 (List.contains_iff_mem.mpr z)
        refine ops_good rs (k + 1) (found ++ [o]) ops h (fun z hz => ?_) ?_ ?_
        · rcases List.mem_append.mp hz with hz | hz
          · exact g z hz
          · rw [List.mem_singleton.mp hz]
            exact op_good e
        · rw [List.map_append, List.nodup_append]
          refine ⟨nd, by simp, fun a ha b hb => ?_⟩
          rw [List.mem_singleton.mp hb]
          exact fun e => ns (by have e' : a = o.sign := e; rw [← e']; exact ha)
        · rw [List.length_append]
          show found.length + 1 ≤ 6
          omega
end LM

/-! sizes of the parts of a text -/
namespace LM
open PySem TL L2
theorem len_joinL (s : Nat) : ∀ ps : List (List Nat), ps ≠ [] → (joinL [s] ps).length + 1 = (ps.map List.length).sum + ps.length
  | [], h => absurd rfl h
  | [p], _ => by simp [joinL]
  | p :: q :: r, _ => by
    have ih := len_joinL s (q :: r) (by simp)
    show (p ++ ([s] ++ joinL [s] (q :: r))).length + 1 = _
    simp only [List.length_append, List.map_cons, List.sum_cons, List.length_cons, List.length_nil] at ih ⊢
    omega
theorem mem_joinL (s : Nat) : ∀ (ps : List (List Nat)) (p : List Nat) (c : Nat), p ∈ ps → c ∈ p → c ∈ joinL [s] ps
  | [], _, _, h, _ => by cases h
  | [q], p, c, h, hc => by
    rw [List.mem_singleton.mp h] at hc
    exact hc
  | q :: q' :: r, p, c, h, hc => by
    show c ∈ q ++ ([s] ++ joinL [s] (q' :: r))
    rcases List.mem_cons.mp h with rfl | h
    · exact List.mem_append_left _ hc
    · exact List.mem_append_right _ (List.mem_append_right _ (mem_joinL s (q' :: r) p c h hc))
theorem split_by {y : Str} {s : Nat} (ey : tl y = [s]) (hy : y.cps.all (· < 256) = true) (x : Str) : (Txt.split x y).map tl = spl [s] 0 [] (tl x) := by
  rw [split_spl x y (by rw [ey]; simp) (kind_ok hy), ey]
theorem split_len {y : Str} {s : Nat} (ey : tl y = [s]) (hy : y.cps.all (· < 256) = true) (x : Str) : ((Txt.split x y).map (·.length)).sum + (Txt.split x y).length = x.length + 1 := by
  have e := split_by ey hy x
  have q := len_joinL s (spl [s] 0 [] (tl x)) (spl1_ne s _ _)
  rw [spl1_join, List.nil_append, ← e, List.map_map, List.length_map, ← len_tl] at q
  have e2 : ((Txt.split x y).map (List.length ∘ tl)) = (Txt.split x y).map (·.length) := List.map_congr_left fun w _ => (len_tl w).symm
  rw [e2] at q
  exact q.symm
theorem split_mem {y : Str} {s : Nat} (ey : tl y = [s]) (hy : y.cps.all (· < 256) = true) {x w : Str} (h : w ∈ Txt.split x y) {c : Nat} (hc : c ∈ tl w) : c ∈ tl x := by
  have e := split_by ey hy x
  have q := mem_joinL s (spl [s] 0 [] (tl x)) (tl w) c (by rw [← e]; exact List.mem_map_of_mem h) hc
  rw [spl1_join, List.nil_append] at q
  exact q
theorem le_sum : ∀ (ws : List Str) (w : Str), w ∈ ws → w.length ≤ (ws.map (·.length)).sum
  | [], _, h => by cases h
  | x :: ws, w, h => by
    rw [List.map_cons, List.sum_cons]
    rcases List.mem_cons.mp h with rfl | h
    · omega
    · have := le_sum ws w h
      omega
theorem strOk_iff (x : Str) : PySem.PyData.strOk x = true ↔ ∀ c ∈ tl x, c < 0x110000 := by
  unfold PySem.PyData.strOk
  rw [Array.all_eq_true_iff_forall_mem]
  constructor
  · intro h c hc
    exact of_decide_eq_true (h c (Array.mem_toList_iff.mp hc))
  · intro h c hc
    exact decide_eq_true (h c (Array.mem_toList_iff.mpr hc))
/-- every row of a text: its words short and fine, few of them -/
theorem rows_ok {z : Str} (hz : z.length ≤ 1000000) (ho : PySem.PyData.strOk z = true) : (∀ r ∈ rowsM z, (∀ w ∈ r, w.length ≤ 1000000 ∧ PySem.PyData.strOk w = true) ∧ (r.map (·.length)).sum + r.length ≤ 2000000 ∧ r ≠ []) ∧ (rowsM z).length ≤ 1000001 ∧ rowsM z ≠ [] := by
  have q1 := split_len tl_nl nl_all z
  refine ⟨fun r hr => ?_, ?_, ?_⟩
  · obtain ⟨l, hl, rfl⟩ := List.mem_map.mp hr
    have q2 := split_len tl_sp sp_all l
    have q3 := le_sum _ l hl
    refine ⟨fun w hw => ⟨?_, ?_⟩, by omega, split_ne l⟩
    · have q4 := le_sum _ w hw
      have c1 := List.length_pos_iff.mpr (split_ne l)
      have c2 := List.length_pos_iff.mpr (split_nl_ne z)
      omega
    · rw [strOk_iff] at ho ⊢
      exact fun c hc => ho c (split_mem tl_nl nl_all hl (split_mem tl_sp sp_all hw hc))
  · unfold rowsM
    rw [List.length_map]
    omega
  · unfold rowsM
    exact fun e => split_nl_ne z (List.map_eq_nil_iff.mp e)
end LM

/-! sizes and signs of a right library's text; its makers exchanged -/
namespace LM
open PySem TL L2
/-- signs below 128 -/
def Asc (w : Str) : Prop := ∀ c ∈ tl w, c < 128
instance (w : Str) : Decidable (Asc w) := inferInstanceAs (Decidable (∀ c ∈ tl w, c < 128))
theorem Asc.ok {w : Str} (h : Asc w) : PySem.PyData.strOk w = true := (strOk_iff w).mpr fun c hc => Nat.lt_trans (h c hc) (by decide)
theorem Asc.app {x y : Str} (h : Asc x) (k : Asc y) : Asc (x ++ y) := fun c hc => by
  rw [tl_append, List.mem_append] at hc
  exact hc.elim (h c) (k c)
theorem asc_join {s : Str} (hs : Asc s) : ∀ {ws : List Str}, (∀ w ∈ ws, Asc w) → Asc (Str.join s ws)
  | [], _ => fun c hc => by cases hc
  | [x], h => h x (List.mem_singleton.mpr rfl)
  | x :: y :: r, h => by
    rw [join_cons2]
    exact ((h x (List.mem_cons_self ..)).app hs).app (asc_join hs fun w hw => h w (List.mem_cons_of_mem _ hw))
theorem asc_within {lo hi : Nat} {l : List Nat} (h : within lo hi l = true) (hh : hi < 128) : ∀ c ∈ l, c < 128 := fun c hc => by
  have := List.all_eq_true.mp h c hc
  simp only [Bool.and_eq_true, decide_eq_true_eq] at this
  omega
theorem asc_small {w : Str} (h : small w = true) : Asc w := by
  unfold small at h
  rw [Bool.and_eq_true] at h
  exact asc_within h.2 (by decide)
theorem asc_field {w : Str} (h : fieldName w = true) : Asc w := by
  unfold fieldName at h
  rw [Bool.and_eq_true] at h
  exact asc_small h.1
theorem asc_class {w : Str} (h : className w = true) : Asc w := by
  unfold className at h
  rw [Bool.and_eq_true, Bool.and_eq_true] at h
  have e : tl w = (tl w).take 1 ++ (tl w).drop 1 := (List.take_append_drop 1 _).symm
  intro c hc
  rw [e, List.mem_append] at hc
  exact hc.elim (asc_within h.1.2 (by decide) c) (asc_within h.2 (by decide) c)
theorem le8_small {w : Str} (h : small w = true) : w.length ≤ 8 := by
  unfold small at h
  rw [Bool.and_eq_true, Bool.and_eq_true] at h
  exact of_decide_eq_true h.1.2
theorem le8_field {w : Str} (h : fieldName w = true) : w.length ≤ 8 := by
  unfold fieldName at h
  rw [Bool.and_eq_true] at h
  exact le8_small h.1
theorem le8_class {w : Str} (h : className w = true) : w.length ≤ 8 := by
  unfold className at h
  rw [Bool.and_eq_true, Bool.and_eq_true, Bool.and_eq_true] at h
  exact of_decide_eq_true h.1.1.2
theorem len_cat (x y : Str) : (x ++ y).length = x.length + y.length := by rw [len_tl, len_tl, len_tl, tl_append, List.length_append]
theorem len_joined (s : Str) : ∀ (ws : List Str) (b : Nat), (∀ w ∈ ws, w.length ≤ b) → (Str.join s ws).length ≤ ws.length * (b + s.length)
  | [], _, _ => by show 0 ≤ _; omega
  | [x], b, h => by
    have := h x (List.mem_singleton.mpr rfl)
    show x.length ≤ 1 * _
    omega
  | x :: y :: r, b, h => by
    have q := len_joined s (y :: r) b fun w hw => h w (List.mem_cons_of_mem _ hw)
    have h1 := h x (List.mem_cons_self ..)
    rw [join_cons2, len_cat, len_cat]
    rw [List.length_cons, Nat.add_mul]
    omega
/-- what a maker in a text may be -/
structure MkFine (m : Str) : Prop where
  len : m.length ≤ 100
  asc : Asc m
  nl : NoNl m
theorem mk_fine : ∀ m ∈ makers0 ++ makers1 ++ makers2, m.length ≤ 100 ∧ Asc m ∧ 10 ∉ tl m := by decide +kernel
theorem maker_fine {n : Nat} {m : Str} (h : m ∈ makersOf n) : MkFine m := by
  have : m ∈ makers0 ++ makers1 ++ makers2 := by
    match n with
    | 0 => exact List.mem_append_left _ (List.mem_append_left _ h)
    | 1 => exact List.mem_append_left _ (List.mem_append_right _ h)
    | _ + 2 => exact List.mem_append_right _ h
  obtain ⟨h1, h2, h3⟩ := mk_fine m this
  exact ⟨h1, h2, h3⟩
theorem hook_fine : ∀ h ∈ rootHooks, h.length ≤ 8 ∧ Asc h := by decide +kernel
theorem sign_fine : ∀ s ∈ binary ++ unary, s.length ≤ 8 ∧ Asc s ∧ PySem.PyData.strOk s = true := by decide +kernel
theorem n_lib : ("library " : Str).length = 8 ∧ ("needs " : Str).length = 6 ∧ ("keeps " : Str).length = 6 ∧ (" of " : Str).length = 4 ∧ ("hook " : Str).length = 5 ∧ ("make " : Str).length = 5 ∧ (" by " : Str).length = 4 ∧ (" changes " : Str).length = 9 ∧ (" " : Str).length = 1 ∧ ("\n" : Str).length = 1 := by decide +kernel
theorem a_lib : Asc "library " ∧ Asc "needs " ∧ Asc "keeps " ∧ Asc " of " ∧ Asc "hook " ∧ Asc "make " ∧ Asc " by " ∧ Asc " changes " ∧ Asc " " ∧ Asc "\n" := by decide +kernel
theorem kept_fields : ∀ {kept : List (Str × Str)} {known : List Str}, KeptOk known kept → (∀ p ∈ known, fieldName p = true) → ∀ p ∈ kept, fieldName p.1 = true ∧ fieldName p.2 = true
  | [], _, _, _, p, hp => by cases hp
  | q :: r, known, ko, hk, p, hp => by
    obtain ⟨k1, k2, k3, k4⟩ := ko
    rcases List.mem_cons.mp hp with e | hp
    · subst e
      exact ⟨k1, hk _ k3⟩
    · refine kept_fields k4 (fun z hz => ?_) p hp
      rcases List.mem_append.mp hz with hz | hz
      · exact hk z hz
      · rw [List.mem_singleton.mp hz]
        exact k1
theorem LibOk.sign {L : Lib} (h : LibOk L) {o : Op} (ho : o ∈ L.ops) : o.sign.length ≤ 8 ∧ Asc o.sign := by
  rcases (h.form o ho).sg with z | z | z
  · have := sign_fine o.sign (List.mem_append_left _ (List.contains_iff_mem.mp z))
    exact ⟨this.1, this.2.1⟩
  · have := sign_fine o.sign (List.mem_append_right _ (List.contains_iff_mem.mp z))
    exact ⟨this.1, this.2.1⟩
  · have q := z.1
    unfold request at q
    rw [Bool.and_eq_true] at q
    exact ⟨le8_small q.1, asc_small q.1⟩
theorem LibOk.sub {L : Lib} (h : LibOk L) {o : Op} (ho : o ∈ L.ops) : (∀ p ∈ o.changed, p ∈ L.ps) ∧ o.changed.length ≤ 3 := by
  have e := (h.form o ho).ch
  constructor
  · intro p hp
    rw [e] at hp
    exact (List.mem_filter.mp hp).1
  · rw [e]
    exact Nat.le_trans (List.length_filter_le ..) h.root.ps3
theorem LibOk.line {L : Lib} (h : LibOk L) {o : Op} (ho : o ∈ L.ops) (hm : MkFine o.maker) : (opLine o).length ≤ 200 ∧ Asc (opLine o) := by
  obtain ⟨s1, s2⟩ := h.sign ho
  obtain ⟨c1, c2⟩ := h.sub ho
  obtain ⟨n1, n2, n3, n4, n5, n6, n7, n8, n9, n10⟩ := n_lib
  obtain ⟨a1, a2, a3, a4, a5, a6, a7, a8, a9, a10⟩ := a_lib
  have m1 := hm.len
  have q := len_joined " " o.changed 8 fun w hw => le8_field (h.root.pf w (c1 w hw))
  rw [n9] at q
  have q2 : o.changed.length * (8 + 1) ≤ 3 * (8 + 1) := Nat.mul_le_mul_right _ c2
  have aj : Asc (Str.join " " o.changed) := asc_join a9 fun w hw => asc_field (h.root.pf w (c1 w hw))
  unfold opLine
  split
  · exact ⟨by simp only [len_cat, n6, n7]; omega, ((a6.app s2).app a7).app hm.asc⟩
  · split
    · exact ⟨by simp only [len_cat, n7]; omega, (s2.app a7).app hm.asc⟩
    · exact ⟨by simp only [len_cat, n7, n8]; omega, (((s2.app a8).app aj).app a7).app hm.asc⟩
theorem LibOk.rootLine {L : Lib} (h : LibOk L) : (∀ l ∈ rootLines L.name L.ps L.kept L.hook, l.length ≤ 200 ∧ Asc l) ∧ (rootLines L.name L.ps L.kept L.hook).length ≤ 7 := by
  obtain ⟨n1, n2, n3, n4, n5, n6, n7, n8, n9, n10⟩ := n_lib
  obtain ⟨a1, a2, a3, a4, a5, a6, a7, a8, a9, a10⟩ := a_lib
  have kf := kept_fields h.root.ko h.root.pf
  constructor
  · intro l hl
    unfold rootLines at hl
    simp only [List.mem_append, List.mem_map] at hl
    rcases hl with ((hl | ⟨p, hp, rfl⟩) | ⟨p, hp, rfl⟩) | hl
    · rw [List.mem_singleton.mp hl, len_cat, n1]
      have := le8_class h.root.name
      exact ⟨by omega, a1.app (asc_class h.root.name)⟩
    · have := le8_field (h.root.pf p hp)
      rw [len_cat, n2]
      exact ⟨by omega, a2.app (asc_field (h.root.pf p hp))⟩
    · obtain ⟨f1, f2⟩ := kf p hp
      have := le8_field f1
      have := le8_field f2
      rw [len_cat, len_cat, len_cat, n3, n4]
      exact ⟨by omega, ((a3.app (asc_field f1)).app a4).app (asc_field f2)⟩
    · cases e : L.hook with
      | none => rw [e] at hl; cases hl
      | some z =>
        have := hook_fine z (h.root.hk z e)
        rw [e] at hl
        rw [List.mem_singleton.mp hl, len_cat, n5]
        exact ⟨by omega, a5.app this.2⟩
  · have := h.root.ps3
    have := h.root.kept2
    unfold rootLines
    simp only [List.length_append, List.length_map, List.length_cons, List.length_nil]
    cases L.hook <;> simp <;> omega
theorem LibOk.lines {L : Lib} (h : LibOk L) (hm : ∀ o ∈ L.ops, MkFine o.maker) : (∀ l ∈ linesM L, l.length ≤ 200 ∧ Asc l) ∧ (linesM L).length ≤ 13 := by
  obtain ⟨r1, r2⟩ := h.rootLine
  constructor
  · intro l hl
    unfold linesM at hl
    rcases List.mem_append.mp hl with hl | hl
    · exact r1 l hl
    · obtain ⟨o, ho, rfl⟩ := List.mem_map.mp hl
      exact h.line ho (hm o ho)
  · have := h.ops6
    unfold linesM
    rw [List.length_append, List.length_map]
    omega
theorem LibOk.text {L : Lib} (h : LibOk L) (hm : ∀ o ∈ L.ops, MkFine o.maker) : (textM L).length ≤ 1000000 ∧ PySem.PyData.strOk (textM L) = true := by
  obtain ⟨r1, r2⟩ := h.lines hm
  have q := len_joined "\n" (linesM L) 200 fun w hw => (r1 w hw).1
  rw [n_lib.2.2.2.2.2.2.2.2.2] at q
  have : (linesM L).length * (200 + 1) ≤ 13 * (200 + 1) := Nat.mul_le_mul_right _ r2
  refine ⟨?_, (asc_join a_lib.2.2.2.2.2.2.2.2.2 fun w hw => (r1 w hw).2).ok⟩
  show (Str.join "\n" (linesM L)).length ≤ _
  omega
/-- the makers of an operation, with or without the hook -/
def allow (n : Nat) (hk : Bool) : List Str := (makersOf n).filter fun m => hk || !(m == ("hook" : Str))
theorem allow_mk (hk : Option Str) (o : Op) : (allow (arity o.sign) hk.isSome).contains o.maker = mkOk hk o := by
  unfold allow mkOk
  have key : ∀ (l : List Str) (p : Str → Bool) (m : Str), (l.filter p).contains m = (l.contains m && p m) := fun l p m => by
    rw [Bool.eq_iff_iff, List.contains_iff_mem, List.mem_filter, Bool.and_eq_true, List.contains_iff_mem]
  rw [key]
  cases hk <;> simp
/-- operation j has another maker -/
def setMk (L : Lib) (j : Nat) (m : Str) : Lib := ⟨L.name, L.ps, L.kept, L.hook, L.ops.set j ⟨(L.ops.getD j ⟨"", [], ""⟩).sign, (L.ops.getD j ⟨"", [], ""⟩).changed, m⟩⟩
theorem set_ops {L : Lib} {j : Nat} {m : Str} {o : Op} (e : L.ops[j]? = some o) : (setMk L j m).ops = L.ops.set j ⟨o.sign, o.changed, m⟩ := by
  unfold setMk
  rw [List.getD_eq_getElem?_getD, e]
  rfl
theorem set_ok {L : Lib} (h : LibOk L) {j : Nat} {m : Str} {o : Op} (e : L.ops[j]? = some o) (hm : NoNl m) : LibOk (setMk L j m) := by
  have eo := set_ops (m := m) e
  have hj : j < L.ops.length := (List.getElem?_eq_some_iff.mp e).1
  have ho := List.mem_of_getElem? e
  have hs : (setMk L j m).ops.map (·.sign) = L.ops.map (·.sign) := by
    rw [eo, List.map_set]
    refine List.ext_getElem? fun i => ?_
    rw [List.getElem?_set]
    split
    · rename_i hi
      subst hi
      rw [List.length_map, if_pos hj, List.getElem?_map, e]
      rfl
    · rfl
  refine ⟨h.root, fun q => ?_, ?_, by rw [hs]; exact h.nd, fun z hz => ?_, fun z hz => ?_⟩
  · rw [eo] at q
    have := congrArg List.length q
    rw [List.length_set] at this
    exact h.ops0 (List.length_eq_zero_iff.mp this)
  · rw [eo, List.length_set]
    exact h.ops6
  · rw [eo] at hz
    rcases List.mem_or_eq_of_mem_set hz with hz | hz
    · exact h.form z hz
    · subst hz
      exact ⟨(h.form o ho).sg, (h.form o ho).ch, (h.form o ho).nb⟩
  · rw [eo] at hz
    rcases List.mem_or_eq_of_mem_set hz with hz | hz
    · exact h.nl z hz
    · subst hz
      exact hm
theorem set_all {L : Lib} {j : Nat} {m : Str} {o : Op} (e : L.ops[j]? = some o) (hall : L.ops.all (mkOk L.hook) = true) : (setMk L j m).ops.all (mkOk (setMk L j m).hook) = mkOk L.hook ⟨o.sign, o.changed, m⟩ := by
  have hj : j < L.ops.length := (List.getElem?_eq_some_iff.mp e).1
  show (setMk L j m).ops.all (mkOk L.hook) = _
  rw [set_ops e, Bool.eq_iff_iff, List.all_eq_true]
  constructor
  · intro k
    exact k _ (List.mem_set hj _)
  · intro k z hz
    rcases List.mem_or_eq_of_mem_set hz with hz | hz
    · exact List.all_eq_true.mp hall z hz
    · rw [hz]
      exact k
end LM

namespace K87
open PySem PySem.Spec PyProof.Rows L2 EV
def top (i : Nat) : Stmt := PySem.Challenge.pw_heirsback_k87_families_joined.main.body.getD i (.Pass ⟨0, 0, 0, 0⟩)

abbrev s_own_copy : Stmt := top 2
theorem sc_own_copy : FnScope ["thing", "part"] ["thing"] (defScope s_own_copy) :=
  ⟨rfl, rfl, rfl, by decide +kernel, rfl, by decide +kernel, by decide +kernel⟩
abbrev s_BadWorld___init__ : Stmt := inClass (top 4) 0
theorem sc_BadWorld___init__ : FnScope ["self", "at"] ["self", "at"] (defScope s_BadWorld___init__) :=
  ⟨rfl, rfl, rfl, by decide +kernel, rfl, by decide +kernel, by decide +kernel⟩
abbrev s_BadFamily___init__ : Stmt := inClass (top 5) 0
theorem sc_BadFamily___init__ : FnScope ["self", "word"] ["self", "word"] (defScope s_BadFamily___init__) :=
  ⟨rfl, rfl, rfl, by decide +kernel, rfl, by decide +kernel, by decide +kernel⟩
abbrev s_NoClass___init__ : Stmt := inClass (top 6) 0
theorem sc_NoClass___init__ : FnScope ["self", "name"] ["self", "name"] (defScope s_NoClass___init__) :=
  ⟨rfl, rfl, rfl, by decide +kernel, rfl, by decide +kernel, by decide +kernel⟩
abbrev s_is_within : Stmt := top 13
theorem sc_is_within : FnScope ["word", "low", "high", "letter"] ["word", "low", "high"] (defScope s_is_within) :=
  ⟨rfl, rfl, rfl, by decide +kernel, rfl, by decide +kernel, by decide +kernel⟩
abbrev s_is_small_word : Stmt := top 14
theorem sc_is_small_word : FnScope ["word"] ["word"] (defScope s_is_small_word) :=
  ⟨rfl, rfl, rfl, by decide +kernel, rfl, by decide +kernel, by decide +kernel⟩
abbrev s_is_class_name : Stmt := top 15
theorem sc_is_class_name : FnScope ["word"] ["word"] (defScope s_is_class_name) :=
  ⟨rfl, rfl, rfl, by decide +kernel, rfl, by decide +kernel, by decide +kernel⟩
abbrev s_is_field_name : Stmt := top 16
theorem sc_is_field_name : FnScope ["word"] ["word"] (defScope s_is_field_name) :=
  ⟨rfl, rfl, rfl, by decide +kernel, rfl, by decide +kernel, by decide +kernel⟩
abbrev s_is_number : Stmt := top 17
theorem sc_is_number : FnScope ["word"] ["word"] (defScope s_is_number) :=
  ⟨rfl, rfl, rfl, by decide +kernel, rfl, by decide +kernel, by decide +kernel⟩
abbrev s_Shape___init__ : Stmt := inClass (top 19) 0
theorem sc_Shape___init__ : FnScope ["self", "lineage", "free", "more", "held", "ruled", "hook"] ["self", "lineage", "free", "more", "held", "ruled", "hook"] (defScope s_Shape___init__) :=
  ⟨rfl, rfl, rfl, by decide +kernel, rfl, by decide +kernel, by decide +kernel⟩
abbrev s_Shape_take : Stmt := inClass (top 19) 1
theorem sc_Shape_take : FnScope ["self", "words"] ["self", "words"] (defScope s_Shape_take) :=
  ⟨rfl, rfl, rfl, by decide +kernel, rfl, by decide +kernel, by decide +kernel⟩
abbrev s_Shape__take_fixed : Stmt := inClass (top 19) 2
theorem sc_Shape__take_fixed : FnScope ["self", "words"] ["self", "words"] (defScope s_Shape__take_fixed) :=
  ⟨rfl, rfl, rfl, by decide +kernel, rfl, by decide +kernel, by decide +kernel⟩
abbrev s_Shape__take_tied : Stmt := inClass (top 19) 3
theorem sc_Shape__take_tied : FnScope ["self", "words"] ["self", "words"] (defScope s_Shape__take_tied) :=
  ⟨rfl, rfl, rfl, by decide +kernel, rfl, by decide +kernel, by decide +kernel⟩
abbrev s_Shape__take_hook : Stmt := inClass (top 19) 4
theorem sc_Shape__take_hook : FnScope ["self", "words", "name"] ["self", "words"] (defScope s_Shape__take_hook) :=
  ⟨rfl, rfl, rfl, by decide +kernel, rfl, by decide +kernel, by decide +kernel⟩
abbrev s_Shape__take_field : Stmt := inClass (top 19) 5
theorem sc_Shape__take_field : FnScope ["self", "words"] ["self", "words"] (defScope s_Shape__take_field) :=
  ⟨rfl, rfl, rfl, by decide +kernel, rfl, by decide +kernel, by decide +kernel⟩
abbrev s_Shape__has_default : Stmt := inClass (top 19) 6
theorem sc_Shape__has_default : FnScope ["self", "_", "default"] ["self"] (defScope s_Shape__has_default) :=
  ⟨rfl, rfl, rfl, by decide +kernel, rfl, by decide +kernel, by decide +kernel⟩
abbrev s_root_shape : Stmt := top 20
theorem sc_root_shape : FnScope ["library", "parameters", "held", "ruled", "hook", "field", "_", "source"] ["library"] (defScope s_root_shape) :=
  ⟨rfl, rfl, rfl, by decide +kernel, rfl, by decide +kernel, by decide +kernel⟩
abbrev s_heir_shape : Stmt := top 21
theorem sc_heir_shape : FnScope ["name", "above"] ["name", "above"] (defScope s_heir_shape) :=
  ⟨rfl, rfl, rfl, by decide +kernel, rfl, by decide +kernel, by decide +kernel⟩
abbrev s_Draft___init__ : Stmt := inClass (top 26) 0
theorem sc_Draft___init__ : FnScope ["self", "library", "root", "field"] ["self", "library"] (defScope s_Draft___init__) :=
  ⟨rfl, rfl, rfl, by decide +kernel, rfl, by decide +kernel, by decide +kernel⟩
abbrev s_Draft_take : Stmt := inClass (top 26) 1
theorem sc_Draft_take : FnScope ["self", "words"] ["self", "words"] (defScope s_Draft_take) :=
  ⟨rfl, rfl, rfl, by decide +kernel, rfl, by decide +kernel, by decide +kernel⟩
abbrev s_Draft__take_heir : Stmt := inClass (top 26) 2
theorem sc_Draft__take_heir : FnScope ["self", "words", "name", "base"] ["self", "words"] (defScope s_Draft__take_heir) :=
  ⟨rfl, rfl, rfl, by decide +kernel, rfl, by decide +kernel, by decide +kernel⟩
abbrev s_Draft__take_member : Stmt := inClass (top 26) 3
theorem sc_Draft__take_member : FnScope ["self", "words", "licence"] ["self", "words"] (defScope s_Draft__take_member) :=
  ⟨rfl, rfl, rfl, by decide +kernel, rfl, by decide +kernel, by decide +kernel⟩
abbrev s_Draft__is_new : Stmt := inClass (top 26) 4
theorem sc_Draft__is_new : FnScope ["self", "words"] ["self", "words"] (defScope s_Draft__is_new) :=
  ⟨rfl, rfl, rfl, by decide +kernel, rfl, by decide +kernel, by decide +kernel⟩
abbrev s_World___init__ : Stmt := inClass (top 28) 0
theorem sc_World___init__ : FnScope ["self", "library", "lines", "shapes", "used"] ["self", "library", "lines", "shapes", "used"] (defScope s_World___init__) :=
  ⟨rfl, rfl, rfl, by decide +kernel, rfl, by decide +kernel, by decide +kernel⟩
abbrev s_World_read : Stmt := inClass (top 28) 1
theorem sc_World_read : FnScope ["cls", "library", "text", "lines", "draft", "at", "line"] ["cls", "library", "text"] (defScope s_World_read) :=
  ⟨rfl, rfl, rfl, by decide +kernel, rfl, by decide +kernel, by decide +kernel⟩
abbrev s_World_of : Stmt := inClass (top 28) 2
theorem sc_World_of : FnScope ["cls", "library", "lines"] ["cls", "library", "lines"] (defScope s_World_of) :=
  ⟨rfl, rfl, rfl, by decide +kernel, rfl, by decide +kernel, by decide +kernel⟩
abbrev s_World_lines : Stmt := inClass (top 28) 3
theorem sc_World_lines : FnScope ["self"] ["self"] (defScope s_World_lines) :=
  ⟨rfl, rfl, rfl, by decide +kernel, rfl, by decide +kernel, by decide +kernel⟩
abbrev s_World_names : Stmt := inClass (top 28) 4
theorem sc_World_names : FnScope ["self"] ["self"] (defScope s_World_names) :=
  ⟨rfl, rfl, rfl, by decide +kernel, rfl, by decide +kernel, by decide +kernel⟩
abbrev s_World_licences : Stmt := inClass (top 28) 5
theorem sc_World_licences : FnScope ["self", "licence"] ["self"] (defScope s_World_licences) :=
  ⟨rfl, rfl, rfl, by decide +kernel, rfl, by decide +kernel, by decide +kernel⟩
abbrev s_World_base : Stmt := inClass (top 28) 6
theorem sc_World_base : FnScope ["self", "name", "lineage"] ["self", "name"] (defScope s_World_base) :=
  ⟨rfl, rfl, rfl, by decide +kernel, rfl, by decide +kernel, by decide +kernel⟩
abbrev s_World_parameters : Stmt := inClass (top 28) 9
theorem sc_World_parameters : FnScope ["self", "name", "shape", "field"] ["self", "name"] (defScope s_World_parameters) :=
  ⟨rfl, rfl, rfl, by decide +kernel, rfl, by decide +kernel, by decide +kernel⟩
abbrev s_World__shape : Stmt := inClass (top 28) 14
theorem sc_World__shape : FnScope ["self", "name"] ["self", "name"] (defScope s_World__shape) :=
  ⟨rfl, rfl, rfl, by decide +kernel, rfl, by decide +kernel, by decide +kernel⟩
abbrev s_World___contains__ : Stmt := inClass (top 28) 15
theorem sc_World___contains__ : FnScope ["self", "x"] ["self", "x"] (defScope s_World___contains__) :=
  ⟨rfl, rfl, rfl, by decide +kernel, rfl, by decide +kernel, by decide +kernel⟩
abbrev s_World___len__ : Stmt := inClass (top 28) 16
theorem sc_World___len__ : FnScope ["self"] ["self"] (defScope s_World___len__) :=
  ⟨rfl, rfl, rfl, by decide +kernel, rfl, by decide +kernel, by decide +kernel⟩
abbrev s_World___str__ : Stmt := inClass (top 28) 17
theorem sc_World___str__ : FnScope ["self"] ["self"] (defScope s_World___str__) :=
  ⟨rfl, rfl, rfl, by decide +kernel, rfl, by decide +kernel, by decide +kernel⟩
abbrev s_World___eq__ : Stmt := inClass (top 28) 18
theorem sc_World___eq__ : FnScope ["self", "other"] ["self", "other"] (defScope s_World___eq__) :=
  ⟨rfl, rfl, rfl, by decide +kernel, rfl, by decide +kernel, by decide +kernel⟩
abbrev s_Family___init__ : Stmt := inClass (top 30) 1
theorem sc_Family___init__ : FnScope ["self", "words", "word", "licence"] ["self", "words"] (defScope s_Family___init__) :=
  ⟨rfl, rfl, rfl, by decide +kernel, rfl, by decide +kernel, by decide +kernel⟩
abbrev s_Family_of : Stmt := inClass (top 30) 2
theorem sc_Family_of : FnScope ["cls", "words"] ["cls", "words"] (defScope s_Family_of) :=
  ⟨rfl, rfl, rfl, by decide +kernel, rfl, by decide +kernel, by decide +kernel⟩
abbrev s_Family_is_within : Stmt := inClass (top 30) 4
theorem sc_Family_is_within : FnScope ["self", "other", "licence"] ["self", "other"] (defScope s_Family_is_within) :=
  ⟨rfl, rfl, rfl, by decide +kernel, rfl, by decide +kernel, by decide +kernel⟩
abbrev s_Family___and__ : Stmt := inClass (top 30) 5
theorem sc_Family___and__ : FnScope ["self", "other", "licence"] ["self", "other"] (defScope s_Family___and__) :=
  ⟨rfl, rfl, rfl, by decide +kernel, rfl, by decide +kernel, by decide +kernel⟩
abbrev s_Family___or__ : Stmt := inClass (top 30) 6
theorem sc_Family___or__ : FnScope ["self", "other"] ["self", "other"] (defScope s_Family___or__) :=
  ⟨rfl, rfl, rfl, by decide +kernel, rfl, by decide +kernel, by decide +kernel⟩
abbrev s_Family___sub__ : Stmt := inClass (top 30) 7
theorem sc_Family___sub__ : FnScope ["self", "other", "licence"] ["self", "other"] (defScope s_Family___sub__) :=
  ⟨rfl, rfl, rfl, by decide +kernel, rfl, by decide +kernel, by decide +kernel⟩
abbrev s_Family___contains__ : Stmt := inClass (top 30) 8
theorem sc_Family___contains__ : FnScope ["self", "x", "licence"] ["self", "x"] (defScope s_Family___contains__) :=
  ⟨rfl, rfl, rfl, by decide +kernel, rfl, by decide +kernel, by decide +kernel⟩
abbrev s_Family___iter__ : Stmt := inClass (top 30) 9
theorem sc_Family___iter__ : FnScope ["self"] ["self"] (defScope s_Family___iter__) :=
  ⟨rfl, rfl, rfl, by decide +kernel, rfl, by decide +kernel, by decide +kernel⟩
abbrev s_Family___len__ : Stmt := inClass (top 30) 10
theorem sc_Family___len__ : FnScope ["self"] ["self"] (defScope s_Family___len__) :=
  ⟨rfl, rfl, rfl, by decide +kernel, rfl, by decide +kernel, by decide +kernel⟩
abbrev s_Family___bool__ : Stmt := inClass (top 30) 11
theorem sc_Family___bool__ : FnScope ["self"] ["self"] (defScope s_Family___bool__) :=
  ⟨rfl, rfl, rfl, by decide +kernel, rfl, by decide +kernel, by decide +kernel⟩
abbrev s_Family___eq__ : Stmt := inClass (top 30) 12
theorem sc_Family___eq__ : FnScope ["self", "other"] ["self", "other"] (defScope s_Family___eq__) :=
  ⟨rfl, rfl, rfl, by decide +kernel, rfl, by decide +kernel, by decide +kernel⟩
abbrev s_Family___repr__ : Stmt := inClass (top 30) 13
theorem sc_Family___repr__ : FnScope ["self"] ["self"] (defScope s_Family___repr__) :=
  ⟨rfl, rfl, rfl, by decide +kernel, rfl, by decide +kernel, by decide +kernel⟩
abbrev s_law_bag : Stmt := top 32
theorem sc_law_bag : FnScope ["script", "at", "cell", "mixed", "k", "each"] ["script", "at"] (defScope s_law_bag) :=
  ⟨rfl, rfl, rfl, by decide +kernel, rfl, by decide +kernel, by decide +kernel⟩
abbrev s_law_take : Stmt := top 33
theorem sc_law_take : FnScope ["bag", "many", "digit"] ["bag", "many"] (defScope s_law_take) :=
  ⟨rfl, rfl, rfl, by decide +kernel, rfl, by decide +kernel, by decide +kernel⟩
abbrev s_law_of : Stmt := top 34
theorem sc_law_of : FnScope ["bag", "some"] ["bag", "some"] (defScope s_law_of) :=
  ⟨rfl, rfl, rfl, by decide +kernel, rfl, by decide +kernel, by decide +kernel⟩
abbrev s_law_licences : Stmt := top 35
theorem sc_law_licences : FnScope [] [] (defScope s_law_licences) :=
  ⟨rfl, rfl, rfl, by decide +kernel, rfl, by decide +kernel, by decide +kernel⟩
abbrev s_law_some : Stmt := top 36
theorem sc_law_some : FnScope ["bag", "found", "left", "turn"] ["bag"] (defScope s_law_some) :=
  ⟨rfl, rfl, rfl, by decide +kernel, rfl, by decide +kernel, by decide +kernel⟩
abbrev s_law_sorted : Stmt := top 37
theorem sc_law_sorted : FnScope ["words", "one"] ["words"] (defScope s_law_sorted) :=
  ⟨rfl, rfl, rfl, by decide +kernel, rfl, by decide +kernel, by decide +kernel⟩
abbrev s_law_has : Stmt := top 38
theorem sc_law_has : FnScope ["family", "words"] ["family", "words"] (defScope s_law_has) :=
  ⟨rfl, rfl, rfl, by decide +kernel, rfl, by decide +kernel, by decide +kernel⟩
abbrev s_law_signs_right : Stmt := top 39
theorem sc_law_signs_right : FnScope ["one", "other", "first", "second", "within", "same", "word"] ["one", "other", "first", "second"] (defScope s_law_signs_right) :=
  ⟨rfl, rfl, rfl, by decide +kernel, rfl, by decide +kernel, by decide +kernel⟩
abbrev s_law_three_right : Stmt := top 40
theorem sc_law_three_right : FnScope ["one", "other", "third"] ["one", "other", "third"] (defScope s_law_three_right) :=
  ⟨rfl, rfl, rfl, by decide +kernel, rfl, by decide +kernel, by decide +kernel⟩
abbrev s_law : Stmt := top 41
theorem sc_law : FnScope ["script", "at", "bag", "turn", "first", "second", "one", "other", "third", "thing"] ["script"] (defScope s_law) :=
  ⟨rfl, rfl, rfl, by decide +kernel, rfl, by decide +kernel, by decide +kernel⟩
structure Txt (K : Fg) (mg : Str → Option Value) : Prop where
  n_isinstance : mg "isinstance" = none
  n_list : mg "list" = none
  n_tuple : mg "tuple" = none
  n_int : mg "int" = none
  n_str : mg "str" = none
  n_bool : mg "bool" = none
  n_len : mg "len" = none
  n_abs : mg "abs" = none
  n_max : mg "max" = none
  n_min : mg "min" = none
  n_range : mg "range" = none
  n_enumerate : mg "enumerate" = none
  n_all : mg "all" = none
  n_ValueError : mg "ValueError" = none
  n_LookupError : mg "LookupError" = none
  n_KeyError : mg "KeyError" = none
  n_IndexError : mg "IndexError" = none
  n_repr : mg "repr" = none
end K87

namespace K87
open PySem PySem.Spec PyProof.Rows L2 EV TL LM
/-- a tuple of the written part -/
def TupK (K : Fg) (a : Addr) (xs : List V) : Prop := ∃ (o : Obj) (its : Array Value) (n : Nat), K.lookup a = some o ∧ o.cls = .type "tuple" ∧ o.data = .seq its n ∧ its.size ≤ sizeLine ∧ Vals xs its.toList
theorem TupK.sq {K : Fg} {a : Addr} {xs : List V} {H : Hp} (h : TupK K a xs) : SqT K H a xs := .inr h
theorem SqT.same {K : Fg} {H H' : Hp} {a : Addr} {xs : List V} (e : Same H H') (h : SqT K H a xs) : SqT K H' a xs := by
  rcases h with (h | ⟨o, h⟩) | h
  · exact .inl (.inl (e _ _ h))
  · exact .inl (.inr ⟨o, e _ _ h⟩)
  · exact .inr h
/-- the constants of the modules: none is read -/
structure Cst (K : Fg) (mg : Str → Option Value) : Prop extends Txt K mg where
/-! ### families -/
def lic : List Str := ["needs", "takes", "fixes", "ties", "keeps", "named", "call", "names", "renew", "copy"]
def famW (p : Str → Bool) : List Str := lic.filter p
def famF (q : Addr) : List (Str × V) := [("words", .ref q)]
theorem fam_words {q : Addr} : (famF q).lookup ("words" : Str) = some (V.ref q) := rfl
theorem fam_no {q : Addr} {m : Str} (h : m ≠ "words") : (famF q).lookup m = none := by
  unfold famF
  simp only [List.lookup, beq_eq_false_iff_ne.mpr h]
structure FamC (K : Fg) (C : Addr) : Prop where
  cls : Cls K C
  no : NoAttr K C "words"
  lic : ∃ mc a u, ClX.CRead K C mc ∧ ClX.CVal K C mc "LICENCES" (.ref a) u ∧ TupK K a (lic.map V.str)
def FamAt (K : Fg) (H : Hp) (C a : Addr) (p : Str → Bool) : Prop := ∃ dx q, H a = some (.ins C dx (famF q)) ∧ SqT K H q ((famW p).map V.str)
theorem FamAt.same {K : Fg} {H H' : Hp} {C a : Addr} {p : Str → Bool} (s : Same H H') : FamAt K H C a p → FamAt K H' C a p := fun ⟨dx, q, h1, h2⟩ => ⟨dx, q, s _ _ h1, SqT.same s h2⟩
theorem inV_strs (w : Str) (l : List Str) : inV (.str w) (l.map V.str) = l.contains w := by
  unfold inV
  induction l with
  | nil => rfl
  | cons x l ih =>
    rw [List.map_cons, List.any_cons, ih, List.contains_cons]
    congr 1
    show (x == w) = (w == x)
    exact Bool.beq_comm
theorem flat_strs (l : List Str) : (l.map V.str).all flatV = true := by
  induction l with
  | nil => rfl
  | cons x l ih => rw [List.map_cons, List.all_cons, ih]; rfl
theorem famW_le (p : Str → Bool) : (famW p).length ≤ 10 := List.length_filter_le p lic
theorem famW_in {p : Str → Bool} {w : Str} : (famW p).contains w = (lic.contains w && p w) := by
  rw [Bool.eq_iff_iff, Bool.and_eq_true, List.contains_iff_mem, List.contains_iff_mem]
  exact List.mem_filter
/-- what is kept while the fields of the object at a are written -/
def KeepA (a : Addr) (H H' : Hp) : Prop := ∀ b u, b ≠ a → H b = some u → H' b = some u
theorem keepA_sqX {b : Bool} {K : Fg} {a p C dx : Addr} {fs : List (Str × V)} {H H' : Hp} {xs : List V} (k : KeepA a H H') (ha : H a = some (.ins C dx fs)) (h : SqX b K H p xs) : SqX b K H' p xs := by
  have go : ∀ u, H p = some u → (∀ E dy gs, u ≠ .ins E dy gs) → H' p = some u := fun u e n => k p u (fun q => by rw [q, ha] at e; injection e with e; exact n _ _ _ e.symm) e
  cases b with
  | true =>
    rcases h with (h | ⟨o, h⟩) | h
    · exact .inl (.inl (go _ h fun _ _ _ => by intro z; cases z))
    · exact .inl (.inr ⟨o, go _ h fun _ _ _ => by intro z; cases z⟩)
    · exact .inr h
  | false =>
    rcases h with (h | ⟨o, h⟩) | h
    · exact .inl (.inl (go _ h fun _ _ _ => by intro z; cases z))
    · exact .inl (.inr ⟨o, go _ h fun _ _ _ => by intro z; cases z⟩)
    · exact .inr h
theorem sqX_same {b : Bool} {K : Fg} {H H' : Hp} {p : Addr} {xs : List V} (s : Same H H') (h : SqX b K H p xs) : SqX b K H' p xs := by
  cases b with
  | true => exact SqT.same s h
  | false => exact s.seq h
theorem sqX_or {b : Bool} {K : Fg} {H : Hp} {p : Addr} {xs : List V} (h : SqX b K H p xs) : SqL K H p xs ∨ SqT K H p xs := by
  cases b with
  | true => exact .inr h
  | false => exact .inl h
section
variable {P : Program} {w : World} {K : Fg} {mg : Str → Option Value} {base : Heap}
/-- Family(words), words a list or a tuple of licences -/
def spFam (K : Fg) (C : Addr) : Sp := fun vs H Q _ => ∃ (a dx l : Addr) (bt : Bool) (ws : List Str), vs = [.ref a, .ref l] ∧ H a = some (.ins C dx []) ∧ SqX bt K H l (ws.map V.str) ∧ ws.length ≤ 1000 ∧ (∀ w ∈ ws, lic.contains w = true) ∧
  ∀ H', KeepA a H H' → FamAt K H' C a (fun l => ws.contains l) → Q .non H'
theorem ok_Family {f C : Addr} {fd : FuncData} (F : Fun K "__init__" "Family.__init__" s_Family___init__ f fd) (T : Cst K mg) (hC : FamC K C) (gL : mg "Family" = some (.ref C)) : FnOk P w K mg base CX0 1 f fd ["self", "words"] (spFam K C) := by
  obtain ⟨mc, aL, uL, rC, vC, tL⟩ := hC.lic
  refine F.ok sc_Family___init__ (fun vs H Q E h => ?_) (fun cdv A outer s H vs Q E hr h => ?_)
  · obtain ⟨a, dx, l, bt, ws, rfl, _⟩ := h
    rfl
  · obtain ⟨a, dx, l, bt, ws, rfl, ha, hl, hw, hin, k⟩ := h
    refine ⟨_, (pss_cons (ps_for PassesOwn.never rfl (pi_or (pi_list (pv 1)) (pi_tup (pv 1))) (pg_name (i := 2) sc_Family___init__.nd rfl (Or.inl rfl)) (pss_one (ps_if (pt_cmpR op_notIn_seq (pv 2) (ClX.pe_cval (pe_glob (v := .ref C) rfl gL rfl)) (by rfl)) (pss_one ps_never) pss_nil)))
    (pss_one (ps_fld (pv 0) (pe_callTy call_tuple_of (by rfl) T.n_tuple (by decide +kernel) (pa_cons (pe_lc (own := [("licence", 3)]) rfl sc_Family___init__.nd (pi_tup (ClX.pe_cval (pe_glob (v := .ref C) rfl gL rfl))) (blkOk_by (own := [("licence", 3)]) (N := ["self", "words", "word", "licence"]) (sc := defScope s_Family___init__) (by decide +kernel)) (fun _ _ _ _ _ => (pg_name (i := 3) sc_Family___init__.nd rfl (Or.inl rfl))) (fun _ _ _ _ _ => (pts_one (pt_cmpR (show OpR _ _ (rIn K false) from op_in_seq) (pv 3) (pv 1) (by rfl)))) (fun _ _ _ _ _ => (pv 3))) pa_nil)) rfl))), ?_⟩
    have fits : ∀ (i : Nat) (x : V), (ws.map V.str)[i]? = some x → ∃ wd, x = V.str wd ∧ lic.contains wd = true := fun i x e => by
      rw [List.getElem?_map] at e
      cases q : ws[i]? with
      | none => rw [q] at e; cases e
      | some wd =>
        rw [q] at e
        exact ⟨wd, by injection e with e; exact e.symm, hin wd (List.mem_of_getElem? q)⟩
    refine any_walk bt ⟨_, rfl, rfl, rfl⟩ hl fun J wk => for_it wk (fun i σ G => G = H ∧ ∃ u : Option V, σ = [some (.ref a), some (.ref l), u, none]) ⟨rfl, none, rfl⟩ (fun i σ G _ q => q.1 ▸ hl) ?_ ?_
    · rintro i x σ G G' hi ⟨rfl, u, rfl⟩ ⟨rfl, hx⟩
      obtain ⟨wd, rfl, hwd⟩ := fits i x hx
      refine ⟨_, rfl, C, mc, _, _, rfl, rC, vC, aL, _, rfl, .inr tL.sq, rfl, flat_strs _, _, rfl, ?_⟩
      rw [inV_strs, hwd]
      exact iteF ⟨rfl, _, rfl⟩
    · rintro σ G ⟨rfl, u, rfl⟩
      refine ⟨C, mc, _, _, rfl, rC, vC, aL, rfl, ⟨_, tL.sq⟩, fun D nD => ?_⟩
      refine lc_fm (walk_tup (xs := lic.map V.str)) (fun j => lic[j]?.bind fun x => if ws.contains x = true then some (V.str x) else none) nD (by show 10 ≤ 1000000; decide) (fun _ _ => tL.sq) ?_ ?_
      · rintro i x G0 G1 NT NE hi sg ⟨rfl, hx⟩ w0 w1
        rw [List.getElem?_map] at hx
        obtain ⟨lw, hlw, rfl⟩ : ∃ lw, lic[i]? = some lw ∧ V.str lw = x := by
          cases q : lic[i]? with
          | none => rw [q] at hx; cases hx
          | some lw => rw [q] at hx; exact ⟨lw, rfl, by injection hx⟩
        refine ⟨rfl, _, rfl, _, rfl, l, _, rfl, sqX_or (sqX_same sg hl), rfl, flat_strs _, _, rfl, ?_⟩
        rw [inV_strs]
        cases e : ws.contains lw with
        | false => exact iteF (w0 (by rw [hlw]; show (if ws.contains lw = true then some (V.str lw) else none) = none; rw [e]; rfl) _ (Same.refl _))
        | true => exact iteT ⟨_, rfl, w1 _ _ (by rw [hlw]; show (if ws.contains lw = true then some (V.str lw) else none) = _; rw [e]; rfl) (Same.refl _)⟩
      · intro G2 s2 hD
        rw [gath_filter lic (fun x => ws.contains x) V.str (by rfl)] at hD
        refine ⟨D, _, rfl, .inl ⟨SqL.of hD, fun q nq => ?_⟩⟩
        have qa : q ≠ a := fun e => by rw [e, s2 _ _ ha] at nq; cases nq
        refine ⟨_, rfl, a, C, dx, _, rfl, ((s2.trans (same_upd nq)) _ _ ha), hC.cls, hC.no, by decide, ?_⟩
        refine k _ (fun b u n z => ?_) ⟨dx, q, ?_, SqT.of ?_⟩
        · rw [upd_ne n]
          exact (s2.trans (same_upd nq)) _ _ z
        · rw [upd_same]
          rfl
        · rw [upd_ne qa, upd_same]
          rfl
end
end K87

namespace K87
open PySem PySem.Spec PyProof.Rows L2 EV TL LM
theorem con_filter (xs : List Str) (f : Str → Bool) (l : Str) : (xs.filter f).contains l = (xs.contains l && f l) := by
  rw [Bool.eq_iff_iff, Bool.and_eq_true, List.contains_iff_mem, List.contains_iff_mem]
  exact List.mem_filter
theorem famW_congr {p q : Str → Bool} (h : ∀ l, lic.contains l = true → p l = q l) : famW p = famW q := List.filter_congr fun l hl => h l (List.contains_iff_mem.mpr hl)
theorem FamAt.congr {K : Fg} {H : Hp} {C a : Addr} {p q : Str → Bool} (h : ∀ l, lic.contains l = true → p l = q l) (f : FamAt K H C a p) : FamAt K H C a q := by
  obtain ⟨dx, r, h1, h2⟩ := f
  rw [famW_congr h] at h2
  exact ⟨dx, r, h1, h2⟩
/-- an object that was just made -/
theorem made {G : Hp} {a dx C : Addr} (na : G a = none) (ndx : G dx = none) (nad : dx ≠ a) : Same G (upd (upd G dx (.own a)) a (.ins C dx [])) ∧
    ∀ H' : Hp, KeepA a (upd (upd G dx (.own a)) a (.ins C dx [])) H' → ∀ b u, G b = some u → H' b = some u := by
  have na2 : upd G dx (.own a) a = none := by rw [upd_ne (Ne.symm nad)]; exact na
  have s : Same G (upd (upd G dx (.own a)) a (.ins C dx [])) := (same_upd ndx).trans (same_upd na2)
  exact ⟨s, fun H' kp b u z => kp b u (ne_of_none z na) (s b u z)⟩
theorem FamAt.at {K : Fg} {H : Hp} {C a : Addr} {p : Str → Bool} (h : FamAt K H C a p) : ∃ dx q, H a = some (.ins C dx (famF q)) := let ⟨dx, q, e, _⟩ := h; ⟨dx, q, e⟩
section
variable {P : Program} {w : World} {K : Fg} {mg : Str → Option Value} {base : Heap}
/-- a family made of two -/
def spTwo (K : Fg) (C : Addr) (g : Bool → Bool → Bool) : Sp := fun vs H Q _ => ∃ (a b : Addr) (p q : Str → Bool), vs = [.ref a, .ref b] ∧ FamAt K H C a p ∧ FamAt K H C b q ∧ ∀ r G, Same H G → H r = none → FamAt K G C r (fun l => g (p l) (q l)) → Q (.ref r) G
theorem two_tail {H G : Hp} {C : Addr} {Q : VK} {ws : List Str} {p : Str → Bool} {l : Addr} (s : Same H G) (hl : G l = some (.lst (ws.map V.str))) (hn : ws.length ≤ 1000) (hin : ∀ w ∈ ws, lic.contains w = true) (hp : ∀ l, lic.contains l = true → ws.contains l = p l)
    (k : ∀ r G, Same H G → H r = none → FamAt K G C r p → Q (.ref r) G) (E : XK) :
    ∀ a dx : Addr, G a = none → G dx = none → dx ≠ a → spFam K C ([.ref a] ++ [.ref l]) (upd (upd G dx (.own a)) a (.ins C dx [])) (fun v H' => v = .non ∧ Q (.ref a) H') E := by
  intro a dx na ndx nad
  obtain ⟨m1, m2⟩ := made (C := C) na ndx nad
  exact ⟨a, dx, l, false, ws, rfl, upd_same, SqL.of (m1 _ _ hl), hn, hin, fun H' kp fa => ⟨rfl, k a H' (fun b u z => m2 H' kp b u (s b u z)) (s.free na) (fa.congr hp)⟩⟩
theorem words_at {i : Nat} {p : Str → Bool} {x : V} (hx : ((famW p).map V.str)[i]? = some x) : ∃ lw, (famW p)[i]? = some lw ∧ V.str lw = x := by
  rw [List.getElem?_map] at hx
  cases q : (famW p)[i]? with
  | none => rw [q] at hx; cases hx
  | some lw => rw [q] at hx; exact ⟨lw, rfl, by injection hx⟩
theorem lic_of {p : Str → Bool} {w : Str} (h : w ∈ famW p) : lic.contains w = true ∧ p w = true := by
  have := List.mem_filter.mp h
  exact ⟨List.contains_iff_mem.mpr this.1, this.2⟩
theorem ok_and {f C : Addr} {fd : FuncData} (F : Fun K "__and__" "Family.__and__" s_Family___and__ f fd) (T : Cst K mg) (hC : FamC K C) (O_Family : OkI P w K mg base 1 "Family" C ["self", "words"] (spFam K C)) :
    FnOk P w K mg base CX0 3 f fd ["self", "other"] (spTwo K C and) := by
  refine F.ok sc_Family___and__ (fun vs H Q E h => ?_) (fun cdv A outer s H vs Q E hr h => ?_)
  · obtain ⟨a, b, p, q, rfl, _⟩ := h
    rfl
  · obtain ⟨a, b, p, q, rfl, ⟨dx, wa, ha, hwa⟩, ⟨dy, wb, hb, hwb⟩, k⟩ := h
    refine ⟨_, (pss_one (ps_ret (pe_makeO O_Family (hr.mono (by decide)) (pa_cons (pe_lc (own := [("licence", 2)]) rfl sc_Family___and__.nd (pi_tup (pe_fld (pv 0) rfl)) (blkOk_by (own := [("licence", 2)]) (N := ["self", "other", "licence"]) (sc := defScope s_Family___and__) (by decide +kernel)) (fun _ _ _ _ _ => (pg_name (i := 2) sc_Family___and__.nd rfl (Or.inl rfl))) (fun _ _ _ _ _ => (pts_one (pt_cmpR (show OpR _ _ (rIn K false) from op_in_seq) (pv 2) (pe_fldK (K := K) (pv 1)) (by rfl)))) (fun _ _ _ _ _ => (pv 2))) pa_nil)))), ?_⟩
    refine ⟨_, rfl, a, C, dx, _, _, rfl, ha, hC.cls, hC.no, fam_words, wa, rfl, ⟨_, hwa⟩, fun D nD => ?_⟩
    refine lc_fm (walk_tup (xs := (famW p).map V.str)) (fun j => (famW p)[j]?.bind fun x => if (famW q).contains x = true then some (V.str x) else none) nD (by rw [List.length_map]; have := famW_le p; omega) (fun _ s => SqT.same s hwa) ?_ ?_
    · rintro i x G0 G1 NT NE hi sg ⟨rfl, hx⟩ w0 w1
      obtain ⟨lw, hlw, rfl⟩ := words_at hx
      refine ⟨rfl, _, rfl, _, rfl, b, C, dy, _, _, rfl, sg _ _ hb, hC.cls, hC.no, fam_words, wb, _, rfl, .inr (SqT.same sg hwb), rfl, flat_strs _, _, rfl, ?_⟩
      rw [inV_strs]
      cases e : (famW q).contains lw with
      | false => exact iteF (w0 (by rw [hlw]; show (if (famW q).contains lw = true then some (V.str lw) else none) = none; rw [e]; rfl) _ (Same.refl _))
      | true => exact iteT ⟨_, rfl, w1 _ _ (by rw [hlw]; show (if (famW q).contains lw = true then some (V.str lw) else none) = _; rw [e]; rfl) (Same.refl _)⟩
    · intro G2 s2 hD
      rw [gath_filter (famW p) (fun x => (famW q).contains x) V.str (by rw [List.length_map])] at hD
      refine two_tail s2 hD ?_ ?_ ?_ k _
      · exact Nat.le_trans (List.length_filter_le _ _) (Nat.le_trans (famW_le p) (by decide))
      · exact fun w hw => (lic_of (List.mem_filter.mp hw).1).1
      · intro l hl
        rw [con_filter, famW_in, famW_in, hl]
        rfl
theorem ok_sub {f C : Addr} {fd : FuncData} (F : Fun K "__sub__" "Family.__sub__" s_Family___sub__ f fd) (T : Cst K mg) (hC : FamC K C) (O_Family : OkI P w K mg base 1 "Family" C ["self", "words"] (spFam K C)) :
    FnOk P w K mg base CX0 3 f fd ["self", "other"] (spTwo K C fun x y => x && !y) := by
  refine F.ok sc_Family___sub__ (fun vs H Q E h => ?_) (fun cdv A outer s H vs Q E hr h => ?_)
  · obtain ⟨a, b, p, q, rfl, _⟩ := h
    rfl
  · obtain ⟨a, b, p, q, rfl, ⟨dx, wa, ha, hwa⟩, ⟨dy, wb, hb, hwb⟩, k⟩ := h
    refine ⟨_, (pss_one (ps_ret (pe_makeO O_Family (hr.mono (by decide)) (pa_cons (pe_lc (own := [("licence", 2)]) rfl sc_Family___sub__.nd (pi_tup (pe_fld (pv 0) rfl)) (blkOk_by (own := [("licence", 2)]) (N := ["self", "other", "licence"]) (sc := defScope s_Family___sub__) (by decide +kernel)) (fun _ _ _ _ _ => (pg_name (i := 2) sc_Family___sub__.nd rfl (Or.inl rfl))) (fun _ _ _ _ _ => (pts_one (pt_cmpR (show OpR _ _ (rIn K true) from op_notIn_seq) (pv 2) (pe_fldK (K := K) (pv 1)) (by rfl)))) (fun _ _ _ _ _ => (pv 2))) pa_nil)))), ?_⟩
    refine ⟨_, rfl, a, C, dx, _, _, rfl, ha, hC.cls, hC.no, fam_words, wa, rfl, ⟨_, hwa⟩, fun D nD => ?_⟩
    refine lc_fm (walk_tup (xs := (famW p).map V.str)) (fun j => (famW p)[j]?.bind fun x => if (!(famW q).contains x) = true then some (V.str x) else none) nD (by rw [List.length_map]; have := famW_le p; omega) (fun _ s => SqT.same s hwa) ?_ ?_
    · rintro i x G0 G1 NT NE hi sg ⟨rfl, hx⟩ w0 w1
      obtain ⟨lw, hlw, rfl⟩ := words_at hx
      refine ⟨rfl, _, rfl, _, rfl, b, C, dy, _, _, rfl, sg _ _ hb, hC.cls, hC.no, fam_words, wb, _, rfl, .inr (SqT.same sg hwb), rfl, flat_strs _, _, rfl, ?_⟩
      rw [inV_strs]
      cases e : (famW q).contains lw with
      | true => exact iteF (w0 (by rw [hlw]; show (if (!(famW q).contains lw) = true then some (V.str lw) else none) = none; rw [e]; rfl) _ (Same.refl _))
      | false => exact iteT ⟨_, rfl, w1 _ _ (by rw [hlw]; show (if (!(famW q).contains lw) = true then some (V.str lw) else none) = _; rw [e]; rfl) (Same.refl _)⟩
    · intro G2 s2 hD
      rw [gath_filter (famW p) (fun x => !(famW q).contains x) V.str (by rw [List.length_map])] at hD
      refine two_tail s2 hD ?_ ?_ ?_ k _
      · exact Nat.le_trans (List.length_filter_le _ _) (Nat.le_trans (famW_le p) (by decide))
      · exact fun w hw => (lic_of (List.mem_filter.mp hw).1).1
      · intro l hl
        rw [con_filter, famW_in, famW_in, hl]
        rfl
end
end K87

namespace K87
open PySem PySem.Spec PyProof.Rows L2 EV TL LM
theorem famW_inj {p q : Str → Bool} (h : famW p = famW q) : ∀ l, lic.contains l = true → p l = q l := by
  intro l hl
  have e : (famW p).contains l = (famW q).contains l := by rw [h]
  rw [famW_in, famW_in, hl] at e
  exact e
def strsD (ws : List Str) : PyData := .tuple (ws.map PyData.str)
theorem dp_strsT {K : Fg} {H : Hp} {l : Addr} {ws : List Str} (h : SqT K H l (ws.map V.str)) : Dp K H (.ref l) (strsD ws) := by
  refine .tup h ?_
  clear h
  induction ws with
  | nil => exact .nil
  | cons w ws ih => exact .cons (.str _) ih
theorem can_strs : ∀ (ws : List Str), (∀ w ∈ ws, PyData.strOk w = true) → PyData.canLayAll0 (ws.map PyData.str) = true ∧ PyData.depthAll (ws.map PyData.str) ≤ 1
  | [], _ => ⟨rfl, by decide⟩
  | w :: ws, h => by
    obtain ⟨i1, i2⟩ := can_strs ws fun y hy => h y (List.mem_cons_of_mem _ hy)
    constructor
    · show (PyData.strOk w && PyData.canLayAll0 (ws.map PyData.str)) = true
      rw [h w List.mem_cons_self, i1]
      rfl
    · show max (PyData.depth (.str w)) (PyData.depthAll (ws.map PyData.str)) ≤ 1
      refine Nat.max_le.mpr ⟨?_, i2⟩
      simp only [PyData.depth]
      omega
theorem strs_shaped {ws : List Str} (h : ∀ w ∈ ws, PyData.strOk w = true) : SeqAt.shaped (strsD ws) = true := by
  obtain ⟨h1, h2⟩ := can_strs ws h
  unfold SeqAt.shaped
  rw [show PyData.canLay0 (strsD ws) = true from h1, Bool.true_and]
  refine decide_eq_true ?_
  simp only [strsD, PyData.depth]
  omega
theorem eqv_strs : ∀ (ws zs : List Str), PyData.eqvAll (ws.map PyData.str) (zs.map PyData.str) = decide (ws = zs)
  | [], [] => rfl
  | [], _ :: _ => rfl
  | _ :: _, [] => rfl
  | w :: ws, z :: zs => by
    show ((w == z) && PyData.eqvAll (ws.map PyData.str) (zs.map PyData.str)) = _
    rw [eqv_strs ws zs, Bool.eq_iff_iff, Bool.and_eq_true, beq_iff_eq, decide_eq_true_eq, decide_eq_true_eq]
    exact ⟨fun ⟨a, b⟩ => by rw [a, b], fun e => by injection e with a b; exact ⟨a, b⟩⟩
theorem lic_ok : ∀ w ∈ lic, PyData.strOk w = true ∧ w.length ≤ 5 := by decide +kernel
theorem famW_ok {p : Str → Bool} : ∀ w ∈ famW p, PyData.strOk w = true := fun w hw => (lic_ok w (List.mem_filter.mp hw).1).1
/-- what isinstance asks of the class, about its own objects -/
structure IsiL (K : Fg) (C : Addr) : Prop where
  ca : PySem.W.findIn K (.ref C) "__class__" = some (some (.builtin "object.__class__"))
  cn : PySem.W.specialIn K (.builtin "object.__class__") "__get__" = some (some (.builtin "getset_descriptor.__get__"))
  ct : PySem.W.takesIn K (.builtin "object.__class__") = some true
  cm : PySem.W.mroIn K C (.type "object") = some true
theorem IsiL.tyx {K : Fg} {C a dx : Addr} {H : Hp} {fs : List (Str × V)} (i : IsiL K C) (c : Cls K C) (e : H a = some (.ins C dx fs)) : TyX K H (.ref a) (.ref C) := .base (.ins e c i.ca i.cn i.ct i.cm)
theorem kit_self {K : Fg} {C : Addr} : PySem.W.kitOne K (.ref C) (.ref C) = some true := by
  unfold PySem.W.kitOne
  rw [if_pos (beq_self_eq_true _)]
theorem kit_not {K : Fg} {C : Addr} (hd : PySem.W.hasDictIn K C = true) (ty : PySem.W.typeIn K (.ref C) = some (.type "type")) {T : String} (h : T ∈ plainTys) : PySem.W.kitOne K (.type T) (.ref C) = some false := by
  unfold PySem.W.kitOne PySem.W.kitCls
  rw [if_neg (by simp)]
  dsimp only
  obtain ⟨cd, hc, _⟩ := PySem.W.any_some hd
  rw [hc, ty]
  show (if (true && (some (Value.type "type") == some (Value.type "type"))) = true then PySem.W.subIn K (.type T) (.ref C) else none) = some false
  rw [if_pos (by decide +kernel)]
  exact plain_sub T h
section
variable {P : Program} {w : World} {K : Fg} {mg : Str → Option Value} {base : Heap}
theorem ok_or {f C : Addr} {fd : FuncData} (F : Fun K "__or__" "Family.__or__" s_Family___or__ f fd) (T : Cst K mg) (hC : FamC K C) (O_Family : OkI P w K mg base 1 "Family" C ["self", "words"] (spFam K C)) :
    FnOk P w K mg base CX0 3 f fd ["self", "other"] (spTwo K C or) := by
  refine F.ok sc_Family___or__ (fun vs H Q E h => ?_) (fun cdv A outer s H vs Q E hr h => ?_)
  · obtain ⟨a, b, p, q, rfl, _⟩ := h
    rfl
  · obtain ⟨a, b, p, q, rfl, ⟨dx, wa, ha, hwa⟩, ⟨dy, wb, hb, hwb⟩, k⟩ := h
    refine ⟨_, (pss_one (ps_ret (pe_makeO O_Family (hr.mono (by decide)) (pa_cons (pe_lst (StX.pa_star (pe_fld (pv 0) rfl) (StX.pa_star (pe_fld (pv 1) rfl) pa_nil))) pa_nil)))), ?_⟩
    have lp := famW_le p
    have lq := famW_le q
    refine ⟨_, rfl, a, C, dx, _, _, rfl, ha, hC.cls, hC.no, fam_words, wa, _, rfl, .inl hwa, _, rfl, b, C, dy, _, _, rfl, hb, hC.cls, hC.no, fam_words, wb, _, rfl, .inl hwb, ?_⟩
    refine ⟨by rw [List.length_append, List.length_append, List.length_map, List.length_map, sizeLine_eq]; show _ + (_ + 0) ≤ _; omega, fun l nl => ?_⟩
    have hl : upd H l (.lst ((famW p).map V.str ++ ((famW q).map V.str ++ []))) l = some (.lst ((famW p ++ famW q).map V.str)) := by
      rw [upd_same, List.append_nil, List.map_append]
    refine two_tail (same_upd nl) hl ?_ ?_ ?_ k _
    · rw [List.length_append]
      omega
    · intro w hw
      rcases List.mem_append.mp hw with hw | hw
      · exact (lic_of hw).1
      · exact (lic_of hw).1
    · intro l hl
      rw [List.contains_append, famW_in, famW_in, hl]
      rfl
def spWithin (K : Fg) (C : Addr) : Sp := fun vs H Q _ => ∃ (a b : Addr) (p q : Str → Bool), vs = [.ref a, .ref b] ∧ FamAt K H C a p ∧ FamAt K H C b q ∧ ∀ G, Same H G → Q (.bl ((famW p).all fun l => q l)) G
theorem ok_within {f C : Addr} {fd : FuncData} (F : Fun K "is_within" "Family.is_within" s_Family_is_within f fd) (T : Cst K mg) (hC : FamC K C) : FnOk P w K mg base CX0 1 f fd ["self", "other"] (spWithin K C) := by
  refine F.ok sc_Family_is_within (fun vs H Q E h => ?_) (fun cdv A outer s H vs Q E hr h => ?_)
  · obtain ⟨a, b, p, q, rfl, _⟩ := h
    rfl
  · obtain ⟨a, b, p, q, rfl, ⟨dx, wa, ha, hwa⟩, ⟨dy, wb, hb, hwb⟩, k⟩ := h
    refine ⟨_, (pss_one (ps_ret (pe_callB (cr_all rfl) (by rfl) T.n_all (by decide +kernel) (pa_cons (pe_lc (own := [("licence", 2)]) rfl sc_Family_is_within.nd (pi_tup (pe_fld (pv 0) rfl)) (blkOk_by (own := [("licence", 2)]) (N := ["self", "other", "licence"]) (sc := defScope s_Family_is_within) (by decide +kernel)) (fun _ _ _ _ _ => (pg_name (i := 2) sc_Family_is_within.nd rfl (Or.inl rfl))) (fun _ _ _ _ _ => pts_nil) (fun _ _ _ _ _ => (pe_cmpR (show OpR _ _ (rIn K false) from op_in_seq) (pv 2) (pe_fldK (K := K) (pv 1)) (by rfl)))) pa_nil)))), ?_⟩
    refine ⟨_, rfl, a, C, dx, _, _, rfl, ha, hC.cls, hC.no, fam_words, wa, rfl, ⟨_, hwa⟩, fun D nD => ?_⟩
    refine lc_fm (walk_tup (xs := (famW p).map V.str)) (fun j => (famW p)[j]?.map fun x => V.bl ((famW q).contains x)) nD (by rw [List.length_map]; have := famW_le p; omega) (fun _ s => SqT.same s hwa) ?_ ?_
    · rintro i x G0 G1 NT NE hi sg ⟨rfl, hx⟩ w0 w1
      obtain ⟨lw, hlw, rfl⟩ := words_at hx
      refine ⟨rfl, _, rfl, _, rfl, b, C, dy, _, _, rfl, sg _ _ hb, hC.cls, hC.no, fam_words, wb, _, rfl, .inr (SqT.same sg hwb), rfl, flat_strs _, ?_⟩
      rw [inV_strs]
      exact w1 _ _ (by rw [hlw]; rfl) (Same.refl _)
    · intro G2 s2 hD
      rw [gath_map (famW p) (fun x => V.bl ((famW q).contains x)) (by rw [List.length_map])] at hD
      refine ⟨D, (famW p).map fun x => (famW q).contains x, rfl, SqL.of (hD.trans (by rw [List.map_map]; rfl)), ?_⟩
      rw [List.all_map, show ((famW p).all (id ∘ fun x => (famW q).contains x)) = (famW p).all fun l => q l from ?_]
      · exact k G2 s2
      · rw [Bool.eq_iff_iff, List.all_eq_true, List.all_eq_true]
        refine forall_congr' fun l => forall_congr' fun hl => ?_
        show (famW q).contains l = true ↔ _
        rw [famW_in, (lic_of hl).1]
        rfl
def spLenF (K : Fg) (C : Addr) : Sp := fun vs H Q _ => ∃ (a : Addr) (p : Str → Bool), vs = [.ref a] ∧ FamAt K H C a p ∧ Q (.int ((famW p).length : Nat)) H
theorem ok_len {f C : Addr} {fd : FuncData} (F : Fun K "__len__" "Family.__len__" s_Family___len__ f fd) (T : Cst K mg) (hC : FamC K C) : FnOk P w K mg base CX0 1 f fd ["self"] (spLenF K C) := by
  refine F.ok sc_Family___len__ (fun vs H Q E h => ?_) (fun cdv A outer s H vs Q E hr h => ?_)
  · obtain ⟨a, p, rfl, _⟩ := h
    rfl
  · obtain ⟨a, p, rfl, ⟨dx, wa, ha, hwa⟩, k⟩ := h
    refine ⟨_, (pss_one (ps_ret (pe_callB call_len_seq (by rfl) T.n_len (by decide +kernel) (pa_cons (pe_fld (pv 0) rfl) pa_nil)))), ?_⟩
    refine ⟨_, rfl, a, C, dx, _, _, rfl, ha, hC.cls, hC.no, fam_words, wa, _, rfl, .inr hwa, ?_⟩
    rw [List.length_map]
    exact k
/-- == with a family, or with a value of a plain kind -/
def spEqF (K : Fg) (C : Addr) : Sp := fun vs H Q _ => ∃ (a : Addr) (y : V) (p : Str → Bool), vs = [.ref a, y] ∧ FamAt K H C a p ∧ ((∃ b q, y = .ref b ∧ FamAt K H C b q ∧ Q (.bl (decide (famW p = famW q))) H) ∨ (∃ T, T ∈ plainTys ∧ TyX K H y (.type T) ∧ Q (.bl false) H))
theorem ok_eq {f C : Addr} {fd : FuncData} (F : Fun K "__eq__" "Family.__eq__" s_Family___eq__ f fd) (T : Cst K mg) (hC : FamC K C) (iL : IsiL K C) (hd : PySem.W.hasDictIn K C = true) (ty : PySem.W.typeIn K (.ref C) = some (.type "type")) (gL : mg "Family" = some (.ref C)) :
    FnOk P w K mg base CX0 1 f fd ["self", "other"] (spEqF K C) := by
  refine F.ok sc_Family___eq__ (fun vs H Q E h => ?_) (fun cdv A outer s H vs Q E hr h => ?_)
  · obtain ⟨a, y, p, rfl, _⟩ := h
    rfl
  · obtain ⟨a, y, p, rfl, ⟨dx, wa, ha, hwa⟩, h⟩ := h
    refine ⟨_, (pss_one (ps_ret (pe_and (pe_callB call_isi (by rfl) T.n_isinstance (by decide +kernel) (pa_cons (pv 1) (pa_cons (pe_glob (v := .ref C) rfl gL rfl) pa_nil))) (pe_one (pe_cmpR (op_eqD hr.units) (pe_fld (pv 0) rfl) (pe_fld (pv 1) rfl) (nomark _)))))), ?_⟩
    rcases h with ⟨b, q, rfl, ⟨dy, wb, hb, hwb⟩, k⟩ | ⟨T', hT, hy, k⟩
    · refine ⟨_, rfl, _, _, _, _, true, rfl, .own C, iL.tyx hC.cls hb, kit_self, _, rfl, iteT ⟨_, rfl, a, C, dx, _, _, rfl, ha, hC.cls, hC.no, fam_words, _, rfl, b, C, dy, _, _, rfl, hb, hC.cls, hC.no, fam_words, _, _, dp_strsT hwa, dp_strsT hwb, strs_shaped famW_ok, strs_shaped famW_ok, ?_⟩⟩
      show Q (.bl (PyData.eqvAll ((famW p).map PyData.str) ((famW q).map PyData.str))) H
      rw [eqv_strs]
      exact k
    · exact ⟨_, rfl, _, _, _, _, false, rfl, .own C, hy, kit_not hd ty hT, _, rfl, iteF k⟩
def famR (p : Str → Bool) : Str := ("Family(" : Str) ++ Str.join ", " (famW p) ++ (")" : Str)
def spRepr (K : Fg) (C : Addr) : Sp := fun vs H Q _ => ∃ (a : Addr) (p : Str → Bool), vs = [.ref a] ∧ FamAt K H C a p ∧ Q (.str (famR p)) H
theorem sum_filter (f : Str → Nat) (p : Str → Bool) : ∀ xs : List Str, ((xs.filter p).map f).sum ≤ (xs.map f).sum
  | [] => Nat.le_refl _
  | x :: xs => by
    have ih := sum_filter f p xs
    rw [List.filter_cons]
    split
    · rw [List.map_cons, List.map_cons, List.sum_cons, List.sum_cons]
      omega
    · rw [List.map_cons, List.sum_cons]
      omega
theorem len_app (x y : Str) : (x ++ y).length = x.length + y.length := by rw [len_tl, len_tl, len_tl, tl_append, List.length_append]
theorem l_e : Str.empty.length = 0 := rfl
theorem len_join (s : Str) : ∀ ws : List Str, (Str.join s ws).length ≤ (ws.map (·.length)).sum + ws.length * s.length
  | [] => by simp [Str.join, l_e]
  | [x] => by
    show x.length ≤ _
    simp
  | x :: y :: r => by
    have := len_join s (y :: r)
    show (x ++ s ++ Str.join s (y :: r)).length ≤ _
    rw [len_app, len_app]
    simp only [List.map_cons, List.sum_cons, List.length_cons] at this ⊢
    rw [show (r.length + 1 + 1) * s.length = (r.length + 1) * s.length + s.length from Nat.succ_mul _ _]
    omega
theorem join_le (p : Str → Bool) : (Str.join ", " (famW p)).length ≤ 100 := by
  have a := len_join ", " (famW p)
  have b := sum_filter (fun w => w.length) p lic
  have c : (lic.map fun w => w.length).sum = 47 := by decide +kernel
  have d : (", " : Str).length = 2 := by decide +kernel
  have e := famW_le p
  rw [d] at a
  have f : ((famW p).map fun w => w.length).sum ≤ 47 := c ▸ b
  have g : (Str.join ", " (famW p)).length ≤ ((famW p).map fun w => w.length).sum + (famW p).length * 2 := a
  omega
theorem app_empty (x : Str) : Str.empty ++ x = x := ext_tl (by rw [tl_append]; rfl)
theorem ok_repr {f C : Addr} {fd : FuncData} (F : Fun K "__repr__" "Family.__repr__" s_Family___repr__ f fd) (T : Cst K mg) (hC : FamC K C) : FnOk P w K mg base CX0 1 f fd ["self"] (spRepr K C) := by
  refine F.ok sc_Family___repr__ (fun vs H Q E h => ?_) (fun cdv A outer s H vs Q E hr h => ?_)
  · obtain ⟨a, p, rfl, _⟩ := h
    rfl
  · obtain ⟨a, p, rfl, ⟨dx, wa, ha, hwa⟩, k⟩ := h
    refine ⟨_, (pss_one (ps_ret (pe_joinedT (.cons pe_str (.cons (pe_fmt (pe_join pe_str (pe_fld (pv 0) rfl))) (.cons pe_str .nil)))))), ?_⟩
    have jl := join_le p
    have l1 : ("Family(" : Str).length = 7 := by decide +kernel
    have l2 : (")" : Str).length = 1 := by decide +kernel
    have sz : sizeLine = 1048576 ∨ 1000 ≤ sizeLine := .inr (by rw [sizeLine_eq]; decide)
    have s1 : 1000 ≤ sizeLine := by rw [sizeLine_eq]; decide
    refine ⟨_, rfl, by rw [len_app, l1, l_e]; omega, ⟨_, rfl⟩, _, rfl, a, C, dx, _, _, rfl, ha, hC.cls, hC.no, fam_words, _, wa, famW p, rfl, rfl, .inr hwa, ?_, .inl ⟨_, rfl, by rw [join_eq]; omega, _, rfl, ?_, _, rfl, ?_, ?_⟩⟩
    · have := sum_filter (fun w => w.length) p lic
      have b : (lic.map fun w => w.length).sum = 47 := by decide +kernel
      have c : (", " : Str).length = 2 := by decide +kernel
      have e := famW_le p
      rw [c]
      show ((famW p).map fun w => w.length).sum + _ ≤ _
      have f : ((famW p).map fun w => w.length).sum ≤ 47 := b ▸ this
      omega
    · rw [join_eq, len_app, len_app, l1, l_e]
      omega
    · rw [join_eq, len_app, len_app, len_app, l1, l2, l_e]
      omega
    · rw [join_eq, app_empty]
      exact k
end
end K87

namespace K87
open PySem PySem.Spec PyProof.Rows L2 EV
/-! ### the bag of draws -/
/-- what stays of a heap in which the list at b is written -/
def Keep (b : Addr) (H H' : Hp) : Prop := ∀ a u, a ≠ b → H a = some u → H' a = some u
theorem Keep.refl {b : Addr} (H : Hp) : Keep b H H := fun _ _ _ h => h
theorem Keep.trans {b : Addr} {H H1 H2 : Hp} (h : Keep b H H1) (h' : Keep b H1 H2) : Keep b H H2 := fun a u n z => h' a u n (h a u n z)
theorem Keep.of {b : Addr} {H H' : Hp} (s : Same H H') : Keep b H H' := fun a u _ z => s a u z
theorem Keep.upd {b : Addr} {H : Hp} {o : HO} : Keep b H (upd H b o) := fun a u n z => by rw [upd_ne n]; exact z
theorem keep_new {b p : Addr} {H G : Hp} {o : HO} (k : Keep b H G) (np : H p = none) : Keep b H (L2.upd G p o) := fun a u n z => by
  rw [upd_ne (ne_of_none z np)]
  exact k a u n z
/-- the bag at b: digits and a mixed number -/
def BagAt (H : Hp) (b : Addr) : Prop := ∃ d m : Int, H b = some (.lst [.int d, .int m]) ∧ 0 ≤ d ∧ 0 ≤ m ∧ m < 4294967296
theorem BagAt.same {H H' : Hp} {b : Addr} (h : BagAt H b) (s : Same H H') : BagAt H' b := by
  obtain ⟨d, q, h1, h2⟩ := h
  exact ⟨d, q, s _ _ h1, h2⟩
theorem BagAt.ne {H : Hp} {b a : Addr} (h : BagAt H b) (n : H a = none) : a ≠ b := fun e => by
  obtain ⟨_, _, y, _⟩ := h
  rw [e, y] at n
  cases n
theorem BagAt.upd {H : Hp} {b p : Addr} {o : HO} (h : BagAt H b) (n : p ≠ b) : BagAt (L2.upd H p o) b := by
  obtain ⟨d, q, h1, h2⟩ := h
  exact ⟨d, q, (upd_ne (Ne.symm n)).trans h1, h2⟩
def spTake : Sp := fun vs H Q _ => ∃ (b : Addr) (many : Int), vs = [.ref b, .int many] ∧ BagAt H b ∧ 0 < many ∧ many.natAbs < 2 ^ 200 ∧
  ∀ (r : Int) (H' : Hp), 0 ≤ r → r < many → Keep b H H' → BagAt H' b → Q (.int r) H'
section
variable {P : Program} {w : World} {K : Fg} {mg : Str → Option Value} {base : Heap}
theorem ok_law_take {f : Addr} {fd : FuncData} (F : Fun K "_law_take" "_law_take" s_law_take f fd) (T : Txt K mg) : FnOk P w K mg base CX0 1 f fd ["bag", "many"] spTake := by
  refine F.ok sc_law_take (fun vs H Q E h => ?_) (fun cdv A outer s H vs Q E hr h => ?_)
  · obtain ⟨b, many, rfl, _⟩ := h
    rfl
  · obtain ⟨b, many, rfl, ⟨d, m, hb, d0, m0, m1⟩, h0, h200, k⟩ := h
    refine ⟨_, (pss_cons (ps_if (pt_cmpR op_gt (pe_ix ix_list (pv 0) pe_int (fun _ _ => rfl)) pe_int (nomark _)) (pss_cons (ps_set (i := 2) sc_law_take.nd rfl (Or.inl rfl) (pe_op op_mod (pe_callTy call_int1 (by rfl) T.n_int (by decide +kernel) (pa_cons (pe_ix ix_list (pv 0) pe_int (fun _ _ => rfl)) pa_nil)) (pv 1)))
    (pss_cons (ps_asg (pe_op op_fdivW (pe_ix ix_list (pv 0) pe_int (fun _ _ => rfl)) (pv 1)) (pg_sub (pv 0) pe_int set_list))
    (pss_one (ps_ret (pv 2))))) pss_nil)
    (pss_cons (ps_asg (pe_op op_mod (pe_callTy call_int1 (by rfl) T.n_int (by decide +kernel) (pa_cons (pe_op op_add (pe_op op_mul (pe_ix ix_list (pv 0) pe_int (fun _ _ => rfl)) pe_int) pe_int) pa_nil)) pe_int) (pg_sub (pv 0) pe_int set_list))
    (pss_one (ps_ret (pe_op op_mod (pe_op op_fdiv (pe_op op_mod (pe_callTy call_int1 (by rfl) T.n_int (by decide +kernel) (pa_cons (pe_op op_mul (pe_op op_fdiv (pe_ix ix_list (pv 0) pe_int (fun _ _ => rfl)) pe_int) pe_int) pa_nil)) pe_int) pe_int) (pv 1)))))), ?_⟩
    refine ⟨_, rfl, b, _, 0, _, rfl, rfl, SqL.of hb, rfl, _, _, rfl, rfl, _, rfl, ?_⟩
    refine ite2 (fun hd => ?_) (fun hd => ?_)
    · have hd' : 0 < d := of_decide_eq_true hd
      refine ⟨_, rfl, b, _, 0, _, rfl, rfl, SqL.of hb, rfl, .inl ⟨_, rfl, _, rfl, _, _, rfl, rfl, h0, ?_⟩⟩
      refine ⟨_, rfl, b, _, 0, _, rfl, rfl, SqL.of hb, rfl, _, rfl, _, _, rfl, rfl, wide_div h0 h200 (by decide) (by decide), ?_⟩
      refine ⟨_, rfl, b, _, 0, 0, rfl, rfl, hb, rfl, ?_⟩
      refine ⟨_, rfl, k _ _ (Int.emod_nonneg _ (by omega)) (Int.emod_lt_of_pos _ h0) Keep.upd ⟨d / many, m, upd_same, Int.ediv_nonneg d0 (by omega), m0, m1⟩⟩
    · refine ⟨_, rfl, b, _, 1, _, rfl, rfl, SqL.of hb, rfl, _, _, rfl, rfl, .inl ⟨by omega, by omega⟩, _, _, rfl, rfl, .inl ⟨_, rfl, _, _, rfl, rfl, by show (0 : Int) < 2147483647; decide, ?_⟩⟩
      refine ⟨_, rfl, b, _, 1, 1, rfl, rfl, hb, rfl, ?_⟩
      have z0 := Int.emod_nonneg (m * 45991 + 70001) (show (2147483647 : Int) ≠ 0 by decide)
      have z1 := Int.emod_lt_of_pos (m * 45991 + 70001) (show (0 : Int) < 2147483647 by decide)
      have hb1 : upd H b (.lst ([V.int d, .int m].set 1 (.int ((m * 45991 + 70001) % 2147483647)))) b = some (.lst [.int d, .int ((m * 45991 + 70001) % 2147483647)]) := upd_same
      refine ⟨_, rfl, b, _, 1, _, rfl, rfl, SqL.of hb1, rfl, _, _, rfl, rfl, ⟨by decide, by decide⟩, _, _, rfl, rfl, .inl ⟨by omega, by omega⟩,
        .inl ⟨_, rfl, _, _, rfl, rfl, by show (0 : Int) < 2147483579; decide, _, _, rfl, rfl, ⟨by decide, by decide⟩, _, rfl, _, _, rfl, rfl, h0, ?_⟩⟩
      exact k _ _ (Int.emod_nonneg _ (by omega)) (Int.emod_lt_of_pos _ h0) Keep.upd ⟨d, _, upd_same, d0, z0, by omega⟩
def spBag (K : Fg) : Sp := fun vs H Q _ => ∃ (a : Addr) (ns : List Int) (i : Nat), vs = [.ref a, .int (i : Nat)] ∧ SqL K H a (ns.map V.int) ∧ i ≤ 63 ∧ ∀ (b : Addr) (H' : Hp), H b = none → Same H H' → BagAt H' b → Q (.ref b) H'
theorem cut_take (xs : List V) (k : Nat) : cutV xs none (some (k : Int)) = xs.take k := by
  unfold cutV
  rw [HT.sIx_nat, HT.sIx_none, List.drop_zero, Nat.sub_zero]
  rcases Nat.lt_or_ge xs.length k with h | h
  · rw [Nat.min_eq_right (Nat.le_of_lt h), List.take_of_length_le (Nat.le_refl _), List.take_of_length_le (Nat.le_of_lt h)]
  · rw [Nat.min_eq_left h]
theorem at_ints {ns : List Int} {i : Nat} (h : i < ns.length) : ∃ z, atI (ns.map V.int) (i : Int) = some (V.int z) := ⟨ns[i], atI_nat (by rw [List.getElem?_map, List.getElem?_eq_getElem h]; rfl)⟩
theorem ok_law_bag {f : Addr} {fd : FuncData} (F : Fun K "_law_bag" "_law_bag" s_law_bag f fd) (T : Txt K mg) : FnOk P w K mg base CX0 1 f fd ["script", "at"] (spBag K) := by
  refine F.ok sc_law_bag (fun vs H Q E h => ?_) (fun cdv A outer s H vs Q E hr h => ?_)
  · obtain ⟨a, ns, i, rfl, _⟩ := h
    rfl
  · obtain ⟨a, ns, i, rfl, hS, i3, k⟩ := h
    refine ⟨_, (pss_cons (ps_set (i := 2) sc_law_bag.nd rfl (Or.inl rfl) (pe_mid (pe_ifExp (pt_cmpR op_lt (pv 1) (pe_callB call_len_seq (by rfl) T.n_len (by decide +kernel) (pa_cons (pv 0) pa_nil)) (nomark _)) (pe_ix ix_list (pv 0) (pv 1) (fun _ _ => rfl)) pe_int)))
    (pss_cons (ps_set (i := 3) sc_law_bag.nd rfl (Or.inl rfl) (pe_op op_add (pe_op op_mul pe_int (pv 1)) pe_int))
    (pss_cons (ps_for PassesOwn.never rfl (pi_enum (by rfl) T.n_enumerate (pa_cons (pe_slice sl_list (pv 0) po_none (po_some pe_int)) pa_nil)) (pg_tup rfl (pgs_cons (pg_name (i := 4) sc_law_bag.nd rfl (Or.inl rfl)) (pgs_cons (pg_name (i := 5) sc_law_bag.nd rfl (Or.inl rfl)) pgs_nil))) (pss_one (ps_set (i := 3) sc_law_bag.nd rfl (Or.inl rfl) (pe_op op_mod (pe_callTy call_int1 (by rfl) T.n_int (by decide +kernel) (pa_cons (pe_op op_add (pe_op op_add (pe_op op_mul (pv 3) pe_int) (pe_op op_mod (pe_callTy call_int1 (by rfl) T.n_int (by decide +kernel) (pa_cons (pv 5) pa_nil)) pe_int)) (pe_op op_mul pe_int (pv 4))) pa_nil)) pe_int))))
    (pss_one (ps_ret (pe_lst (pa_cons (pe_mid (pe_ifExp (pt_cmpR op_ge (pe_callB call_abs (by rfl) T.n_abs (by decide +kernel) (pa_cons (pv 2) pa_nil)) (pe_op op_pow pe_int pe_int) (nomark _)) (pe_callB call_abs (by rfl) T.n_abs (by decide +kernel) (pa_cons (pv 2) pa_nil)) pe_int)) (pa_cons (pv 3) pa_nil)))))))), ?_⟩
    refine ⟨fun v H1 => (∃ z : Int, v = .int z) ∧ H = H1, ⟨_, rfl, _, rfl, a, _, rfl, .inl hS, _, _, rfl, rfl, _, rfl, ite2 (fun hd => ?_) (fun hd => ⟨⟨_, rfl⟩, rfl⟩)⟩, ?_⟩
    · have hd' := of_decide_eq_true hd
      rw [List.length_map] at hd'
      obtain ⟨z, hz⟩ := at_ints (ns := ns) (i := i) (by omega)
      exact ⟨_, rfl, _, rfl, a, _, _, _, rfl, rfl, hS, hz, ⟨z, rfl⟩, rfl⟩
    · rintro _ _ ⟨⟨z, rfl⟩, rfl⟩
      refine ⟨_, rfl, _, _, rfl, rfl, .inl ⟨by decide, by decide⟩, _, _, rfl, rfl, ?_⟩
      refine ⟨_, rfl, 63, rfl, a, _, rfl, hS, fun c nc => ?_⟩
      have ec : upd H c (.lst (cutV (ns.map V.int) none (some 63))) c = some (.lst ((ns.take 63).map V.int)) := by
        rw [upd_same, show cutV (ns.map V.int) none (some 63) = (ns.map V.int).take 63 from cut_take _ 63, ← List.map_take]
      have s1 : Same H (upd H c (.lst (cutV (ns.map V.int) none (some 63)))) := same_upd nc
      generalize upd H c (.lst (cutV (ns.map V.int) none (some 63))) = G at ec s1
      refine ⟨c, _, rfl, SqL.of ec, for_it walk_enum (fun j σ G' => ∃ (mm : Int) (u1 u2 : Option V), σ = [some (.ref a), some (.int (i : Nat)), some (.int z), some (.int mm), u1, u2] ∧ 0 ≤ mm ∧ mm < 4294967296 ∧ Same G G')
        ⟨_, none, none, rfl, by omega, by omega, Same.refl _⟩ (fun j σ G' _ q => by
          obtain ⟨_, _, _, _, _, _, s⟩ := q
          exact SqL.of (s _ _ ec)) ?_ ?_⟩
      · rintro j x σ G1 G2 hj ⟨mm, u1, u2, rfl, m0, m1, s2⟩ ⟨T', kx, y, rfl, nT, rfl, ek, ey⟩
        have ek' : V.int ((j : Nat) : Int) = kx := by injection ek
        subst ek'
        obtain ⟨e, rfl⟩ : ∃ e, V.int e = y := by
          have ey' : ((ns.take 63).map V.int)[j]? = some y := ey
          rw [List.getElem?_map] at ey'
          cases q : (ns.take 63)[j]? with
          | none => rw [q] at ey'; cases ey'
          | some e => rw [q] at ey'; exact ⟨e, by injection ey'⟩
        refine ⟨T', _, rfl, SqT.of upd_same, rfl, _, _, rfl, _, _, rfl, rfl, _, rfl, _, _, rfl, rfl, .inl ⟨by omega, by omega⟩, _, rfl, .inl ⟨_, rfl, _, _, rfl, rfl, by show (0 : Int) < 2147483399; decide, _, _, rfl, rfl, _, rfl, _, _, rfl, rfl, .inl ⟨by decide, by decide⟩, _, _, rfl, rfl,
          .inl ⟨_, rfl, _, _, rfl, rfl, by show (0 : Int) < 2147483563; decide, _, _, _, rfl, Int.emod_nonneg _ (by decide), ?_, s2.trans (same_upd nT)⟩⟩⟩
        have := Int.emod_lt_of_pos (mm * 40692 + e % 2147483399 + 577 * ((j : Nat) : Int)) (show (0 : Int) < 2147483563 by decide)
        omega
      · rintro σ G1 ⟨mm, u1, u2, rfl, m0, m1, s2⟩
        have z0 : 0 ≤ (if z < 0 then -z else z) := by split <;> omega
        refine ⟨fun v G' => (∃ d : Int, v = .int d ∧ 0 ≤ d) ∧ G1 = G', ⟨_, rfl, _, rfl, _, _, rfl, rfl, ⟨by decide, by decide, by decide⟩, _, _, rfl, rfl, _, rfl, ite2 (fun hd => ⟨_, rfl, _, rfl, ⟨_, rfl, z0⟩, rfl⟩) (fun hd => ⟨⟨_, rfl, by decide⟩, rfl⟩)⟩, ?_⟩
        rintro _ _ ⟨⟨d, rfl, d0⟩, rfl⟩
        refine ⟨_, rfl, by show 2 ≤ sizeLine; decide, fun b nb => ?_⟩
        exact k b _ (s1.free (s2.free nb)) ((s1.trans s2).trans (same_upd nb)) ⟨_, _, upd_same, d0, m0, m1⟩
def spOf : Sp := fun vs H Q _ => ∃ (b l : Addr) (xs : List V), vs = [.ref b, .ref l] ∧ BagAt H b ∧ H l = some (.lst xs) ∧ l ≠ b ∧ 0 < xs.length ∧ xs.length ≤ 1000 ∧ ∀ (x : V) (H' : Hp), x ∈ xs → Keep b H H' → BagAt H' b → Q x H'
theorem small200 {z : Int} (h0 : 0 ≤ z) (h : z ≤ 1000000) : z.natAbs < 2 ^ 200 := Nat.lt_of_le_of_lt (show z.natAbs ≤ 1000000 by omega) (by decide)
end
end K87

namespace K87
open PySem PySem.Spec PyProof.Rows L2 EV TL LM
def StrsAt (H : Hp) (a : Addr) (ws : List Str) : Prop := H a = some (.lst (ws.map V.str))
theorem Keep.same {b : Addr} {H H1 H2 : Hp} (k : Keep b H H1) (s : Same H1 H2) : Keep b H H2 := k.trans (Keep.of s)
theorem Keep.free {b l : Addr} {H H' : Hp} (k : Keep b H H') (n : H' l = none) (ne : l ≠ b) : H l = none := by
  cases e : H l with
  | none => rfl
  | some u => rw [k l u ne e] at n; cases n
def Lics (ws : List Str) : Prop := ∀ w ∈ ws, lic.contains w = true
section
variable {P : Program} {w : World} {K : Fg} {mg : Str → Option Value} {base : Heap}
theorem ok_law_of {f : Addr} {fd : FuncData} (F : Fun K "_law_of" "_law_of" s_law_of f fd) (T : Cst K mg) (O_law_take : Ok P w K mg base 1 "_law_take" ["bag", "many"] spTake) :
    FnOk P w K mg base CX0 2 f fd ["bag", "some"] spOf := by
  refine F.ok sc_law_of (fun vs H Q E h => ?_) (fun cdv A outer s H vs Q E hr h => ?_)
  · obtain ⟨b, l, xs, rfl, _⟩ := h
    rfl
  · obtain ⟨b, l, xs, rfl, B, hl, lb, p0, p1, k⟩ := h
    refine ⟨_, (pss_one (ps_ret (pe_ix ix_list (pv 1) (pe_callO O_law_take (hr.mono (by decide)) (pa_cons (pv 0) (pa_cons (pe_callB call_len_seq (by rfl) T.n_len (by decide +kernel) (pa_cons (pv 1) pa_nil)) pa_nil))) (fun _ _ => rfl)))), ?_⟩
    refine ⟨_, rfl, _, rfl, _, rfl, l, xs, rfl, .inl (SqL.of hl), ?_⟩
    refine ⟨b, _, rfl, B, by omega, small200 (by omega) (by omega), fun r H' r0 r1 kp B' => ?_⟩
    obtain ⟨j, rfl⟩ := Int.eq_ofNat_of_zero_le r0
    have hj : j < xs.length := by omega
    exact ⟨l, xs, _, xs[j], rfl, rfl, SqL.of (kp _ _ lb hl), atI_nat (List.getElem?_eq_getElem hj), k _ _ (List.getElem_mem hj) kp B'⟩
def spLics : Sp := fun vs H Q _ => vs = [] ∧ ∀ l, H l = none → Q (.ref l) (upd H l (.lst (lic.map V.str)))
theorem ok_law_licences {f : Addr} {fd : FuncData} (F : Fun K "_law_licences" "_law_licences" s_law_licences f fd) (T : Cst K mg) : FnOk P w K mg base CX0 1 f fd [] spLics := by
  refine F.ok sc_law_licences (fun vs H Q E h => ?_) (fun cdv A outer s H vs Q E hr h => ?_)
  · obtain ⟨rfl, _⟩ := h
    rfl
  · obtain ⟨rfl, k⟩ := h
    refine ⟨_, (pss_one (ps_ret (pe_lst (pa_cons pe_str (pa_cons pe_str (pa_cons pe_str (pa_cons pe_str (pa_cons pe_str (pa_cons pe_str (pa_cons pe_str (pa_cons pe_str (pa_cons pe_str (pa_cons pe_str pa_nil))))))))))))), ?_⟩
    exact ⟨by show 10 ≤ sizeLine; decide, fun l nl => k l nl⟩
/-- some licences, drawn -/
def spSome : Sp := fun vs H Q _ => ∃ b : Addr, vs = [.ref b] ∧ BagAt H b ∧ ∀ (l : Addr) (ws : List Str) (H' : Hp), Keep b H H' → BagAt H' b → H l = none → l ≠ b → StrsAt H' l ws → ws.length ≤ 20 → Lics ws → Q (.ref l) H'
theorem erase_map {α : Type} (f : α → V) : ∀ (L : List α) (j : Nat), (L.map f).eraseIdx j = (L.eraseIdx j).map f
  | [], _ => rfl
  | _ :: _, 0 => rfl
  | x :: L, j + 1 => by
    show f x :: (L.map f).eraseIdx j = f x :: (L.eraseIdx j).map f
    rw [erase_map f L j]
theorem ok_law_some {f : Addr} {fd : FuncData} (F : Fun K "_law_some" "_law_some" s_law_some f fd) (T : Cst K mg) (O_law_take : Ok P w K mg base 1 "_law_take" ["bag", "many"] spTake) (O_law_of : Ok P w K mg base 2 "_law_of" ["bag", "some"] spOf) (O_law_licences : Ok P w K mg base 1 "_law_licences" [] spLics) :
    FnOk P w K mg base CX0 3 f fd ["bag"] spSome := by
  refine F.ok sc_law_some (fun vs H Q E h => ?_) (fun cdv A outer s H vs Q E hr h => ?_)
  · obtain ⟨b, rfl, _⟩ := h
    rfl
  · obtain ⟨b, rfl, B, k⟩ := h
    refine ⟨_, (pss_cons (ps_par (i := 1) (j := 2) (by rfl) sc_law_some.nd rfl rfl (by decide) rfl rfl (pa_cons (pe_lst pa_nil) (pa_cons (pe_callO0 O_law_licences (hr.mono (by decide))) pa_nil)) (by rfl))
    (pss_cons (ps_for PassesOwn.never rfl (pi_range1 rfl T.n_range (pa_cons (pe_callO O_law_take (hr.mono (by decide)) (pa_cons (pv 0) (pa_cons pe_int pa_nil))) pa_nil)) (pg_name (i := 3) sc_law_some.nd rfl (Or.inl rfl)) (pss_cons (ps_expr (pe_bm PySem.F.plainAttrs_list PySem.F.slot_list_append PySem.F.type_list_append mt_append (pv 1) (pa_cons (pe_bm PySem.F.plainAttrs_list PySem.F.slot_list_pop PySem.F.type_list_pop mt_popAt (pv 2) (pa_cons (pe_callO O_law_take (hr.mono (by decide)) (pa_cons (pv 0) (pa_cons (pe_callB call_len_seq (by rfl) T.n_len (by decide +kernel) (pa_cons (pv 2) pa_nil)) pa_nil))) pa_nil)) pa_nil)))
    (pss_one (ps_if (pt_cmpR op_eq (pe_callO O_law_take (hr.mono (by decide)) (pa_cons (pv 0) (pa_cons pe_int pa_nil))) pe_int (nomark _)) (pss_one (ps_expr (pe_bm PySem.F.plainAttrs_list PySem.F.slot_list_append PySem.F.type_list_append mt_append (pv 1) (pa_cons (pe_callO O_law_of (hr.mono (by decide)) (pa_cons (pv 0) (pa_cons (pv 1) pa_nil))) pa_nil)))) pss_nil))))
    (pss_one (ps_ret (pv 1))))), ?_⟩
    refine ⟨by show 0 ≤ sizeLine; decide, fun p np => ⟨rfl, fun l nl => ?_⟩⟩
    have pl : p ≠ l := fun e => by rw [← e, upd_same] at nl; cases nl
    have nlH : H l = none := (same_upd np).free nl
    have lb := B.ne nlH
    have pb := B.ne np
    have kG : Keep b H (upd (upd H p (.lst [])) l (.lst (lic.map V.str))) := keep_new (keep_new (Keep.refl H) np) nlH
    have B0 : BagAt (upd (upd H p (.lst [])) l (.lst (lic.map V.str))) b := (B.upd pb).upd lb
    have hl0 : upd (upd H p (.lst [])) l (.lst (lic.map V.str)) l = some (.lst (lic.map V.str)) := upd_same
    have hp0 : StrsAt (upd (upd H p (.lst [])) l (.lst (lic.map V.str))) p [] := by
      show upd _ l _ p = _
      rw [upd_ne pl, upd_same]
      rfl
    generalize upd (upd H p (.lst [])) l (.lst (lic.map V.str)) = G0 at kG B0 hl0 hp0
    refine ⟨_, _, rfl, _, rfl, b, 11, rfl, B0, by decide, by decide, fun r H1 r0 r1 k1 B1 => ⟨r, rfl, by omega, by omega, ?_⟩⟩
    refine for_range (lo := 0) (n := r.toNat) (fun i σ G => ∃ (L ws : List Str) (u : Option V), σ = [some (.ref b), some (.ref p), some (.ref l), u] ∧ G l = some (.lst (L.map V.str)) ∧ L.length = 10 - i ∧ Lics L ∧ StrsAt G p ws ∧ ws.length ≤ 2 * i ∧ Lics ws ∧ Keep b H G ∧ BagAt G b)
      ⟨lic, [], none, rfl, k1 _ _ lb hl0, by decide, fun w hw => List.contains_iff_mem.mpr hw, k1 _ _ pb hp0, Nat.le_refl _, (fun w hw => by cases hw), kG.trans k1, B1⟩ ?_ ?_
    · rintro i σ G hi ⟨L, ws, u, rfl, hl, lL, iL, hp, lw, iw, kH, Bg⟩
      have i10 : i < 10 := by omega
      have hLp : 0 < L.length := by omega
      refine ⟨_, rfl, .inl ⟨rfl, _, SqL.of hp⟩, _, rfl, .inl ⟨rfl, _, SqL.of hl⟩, _, rfl, _, rfl, l, _, rfl, .inl (SqL.of hl), b, _, rfl, Bg, by rw [List.length_map]; omega, small200 (by omega) (by rw [List.length_map]; omega), fun r' G1 q0 q1 k1' B1' => ?_⟩
      obtain ⟨j, rfl⟩ := Int.eq_ofNat_of_zero_le q0
      rw [List.length_map] at q1
      have hj : j < L.length := by omega
      have hseq : seqIndex? ((j : Nat) : Int) (L.map V.str).length = some j := by
        refine (ixN_seq (n := (L.map V.str).length) (i := ((j : Nat) : Int)) (j := j) ?_).1
        unfold ixN
        rw [if_pos (by omega), if_pos (by rw [List.length_map]; omega), Int.toNat_natCast]
      have hget : (L.map V.str)[j]? = some (V.str L[j]) := by
        rw [List.getElem?_map, List.getElem?_eq_getElem hj]
        rfl
      refine ⟨l, _, ((j : Nat) : Int), j, _, rfl, rfl, k1' _ _ lb hl, by omega, by omega, hseq, hget, ?_⟩
      have hl2 : upd G1 l (.lst ((L.map V.str).eraseIdx j)) l = some (.lst ((L.eraseIdx j).map V.str)) := by
        rw [upd_same, erase_map]
      have hp2 : StrsAt (upd G1 l (.lst ((L.map V.str).eraseIdx j))) p ws := by
        show upd G1 l _ p = _
        rw [upd_ne pl]
        exact k1' _ _ pb hp
      have kH2 : Keep b H (upd G1 l (.lst ((L.map V.str).eraseIdx j))) := keep_new (kH.trans k1') nlH
      have B2 : BagAt (upd G1 l (.lst ((L.map V.str).eraseIdx j))) b := B1'.upd lb
      generalize upd G1 l (.lst ((L.map V.str).eraseIdx j)) = G2 at hl2 hp2 kH2 B2
      have hc : lic.contains L[j] = true := iL _ (List.getElem_mem hj)
      have iL2 : Lics (L.eraseIdx j) := fun w hw => iL w (List.mem_of_mem_eraseIdx hw)
      have lL2 : (L.eraseIdx j).length = 10 - (i + 1) := by
        rw [List.length_eraseIdx_of_lt hj, lL]
        omega
      generalize L[j] = c at hc
      generalize L.eraseIdx j = L2 at hl2 iL2 lL2
      refine ⟨p, _, _, rfl, rfl, hp2, by rw [List.length_map, sizeLine_eq]; omega, ?_⟩
      have hp3 : StrsAt (upd G2 p (.lst (ws.map V.str ++ [V.str c]))) p (ws ++ [c]) := by
        show upd G2 p _ p = _
        rw [upd_same, List.map_append]
        rfl
      have hl3 : upd G2 p (.lst (ws.map V.str ++ [V.str c])) l = some (.lst (L2.map V.str)) := by
        rw [upd_ne (Ne.symm pl)]
        exact hl2
      have kH3 : Keep b H (upd G2 p (.lst (ws.map V.str ++ [V.str c]))) := keep_new kH2 np
      have B3 : BagAt (upd G2 p (.lst (ws.map V.str ++ [V.str c]))) b := B2.upd pb
      generalize upd G2 p (.lst (ws.map V.str ++ [V.str c])) = G3 at hp3 hl3 kH3 B3
      have iw3 : Lics (ws ++ [c]) := fun w hw => by
        rcases List.mem_append.mp hw with hw | hw
        · exact iw w hw
        · rw [List.mem_singleton.mp hw]; exact hc
      have lw3 : (ws ++ [c]).length ≤ 2 * i + 1 := by
        rw [List.length_append]
        show ws.length + 1 ≤ _
        omega
      have pos3 : 0 < ((ws ++ [c]).map V.str).length := by
        rw [List.length_map, List.length_append]
        exact Nat.succ_pos _
      generalize ws ++ [c] = ws3 at hp3 iw3 lw3 pos3
      refine ⟨_, rfl, b, 4, rfl, B3, by decide, by decide, fun r4 G4 _ _ k4 B4 => ⟨rfl, _, rfl, ?_⟩⟩
      have hp4 : StrsAt G4 p ws3 := k4 _ _ pb hp3
      have hl4 := k4 _ _ lb hl3
      have kH4 := kH3.trans k4
      refine ite2 (fun _ => ?_) (fun _ => ⟨L2, ws3, _, rfl, hl4, lL2, iL2, hp4, by omega, iw3, kH4, B4⟩)
      refine ⟨_, rfl, .inl ⟨rfl, _, SqL.of hp4⟩, _, rfl, _, rfl, b, p, _, rfl, B4, hp4, pb, pos3, by rw [List.length_map]; omega, fun x G5 hx k5 B5 => ?_⟩
      obtain ⟨c2, hc2, rfl⟩ := List.mem_map.mp hx
      have hp5 : StrsAt G5 p ws3 := k5 _ _ pb hp4
      refine ⟨p, _, _, rfl, rfl, hp5, by rw [List.length_map, sizeLine_eq]; omega, L2, ws3 ++ [c2], _, rfl, ?_, lL2, iL2, ?_, ?_, ?_, keep_new (kH4.trans k5) np, B5.upd pb⟩
      · rw [upd_ne (Ne.symm pl)]
        exact k5 _ _ lb hl4
      · show upd G5 p _ p = _
        rw [upd_same, List.map_append]
        rfl
      · rw [List.length_append]
        show ws3.length + 1 ≤ _
        omega
      · intro w hw
        rcases List.mem_append.mp hw with hw | hw
        · exact iw3 w hw
        · rw [List.mem_singleton.mp hw]; exact iw3 _ hc2
    · rintro σ G ⟨L, ws, u, rfl, hl, lL, iL, hp, lw, iw, kH, Bg⟩
      exact ⟨_, rfl, k p ws G kH Bg np pb hp (by omega) iw⟩
end
end K87

namespace K87
open PySem PySem.Spec PyProof.Rows L2 EV TL LM
theorem two_go {K : Fg} {H : Hp} {C a b : Addr} {p q : Str → Bool} {g : Bool → Bool → Bool} {Q : VK} (fa : FamAt K H C a p) (fb : FamAt K H C b q) (k : ∀ r G, Same H G → H r = none → FamAt K G C r (fun l => g (p l) (q l)) → Q (.ref r) G) :
    rBinO C (spTwo K C g) (.ref a) (.ref b) H Q := by
  obtain ⟨dx, qa, ha⟩ := fa.at
  obtain ⟨dy, qb, hb⟩ := fb.at
  exact ⟨a, b, dx, dy, _, _, rfl, rfl, ha, hb, a, b, p, q, rfl, fa, fb, k⟩
theorem FamAt.only {K : Fg} {H : Hp} {C a : Addr} {p : Str → Bool} (h : FamAt K H C a p) : ∀ (b D dy : Addr) (gs : List (Str × V)), V.ref a = .ref b → H b = some (.ins D dy gs) → D = C := by
  intro b D dy gs e hb
  injection e with e
  subst e
  obtain ⟨dx, fs, e⟩ := h.at
  rw [e] at hb
  injection hb with hb
  injection hb with h1
  exact h1.symm
theorem eq_go {K : Fg} {H : Hp} {C a b : Addr} {p q : Str → Bool} {Q : VK} (fa : FamAt K H C a p) (fb : FamAt K H C b q) (k : Q (.bl (decide (famW p = famW q))) H) : rEqA C (spEqF K C) (.ref a) (.ref b) H Q := by
  obtain ⟨dx, qa, ha⟩ := fa.at
  obtain ⟨dy, qb, hb⟩ := fb.at
  exact ⟨a, dx, _, _, rfl, ha, .ins hb, fb.only, a, .ref b, p, rfl, fa, .inl ⟨b, q, rfl, fb, _, rfl, k⟩⟩
theorem ne_go {K : Fg} {H : Hp} {C a b : Addr} {p q : Str → Bool} {Q : VK} (fa : FamAt K H C a p) (fb : FamAt K H C b q) (k : Q (.bl (!decide (famW p = famW q))) H) : rNeA C (spEqF K C) (.ref a) (.ref b) H Q := by
  obtain ⟨dx, qa, ha⟩ := fa.at
  obtain ⟨dy, qb, hb⟩ := fb.at
  exact ⟨a, dx, _, _, rfl, ha, .ins hb, fb.only, a, .ref b, p, rfl, fa, .inl ⟨b, q, rfl, fb, _, rfl, k⟩⟩
def strsL (ws : List Str) : PyData := .list (ws.map PyData.str)
theorem dp_strsL {K : Fg} {H : Hp} {l : Addr} {ws : List Str} (h : SqL K H l (ws.map V.str)) : Dp K H (.ref l) (strsL ws) := by
  refine .lst h ?_
  clear h
  induction ws with
  | nil => exact .nil
  | cons w ws ih => exact .cons (.str _) ih
theorem strsL_shaped {ws : List Str} (h : ∀ w ∈ ws, PyData.strOk w = true) : SeqAt.shaped (strsL ws) = true := by
  obtain ⟨h1, h2⟩ := can_strs ws h
  unfold SeqAt.shaped
  rw [show PyData.canLay0 (strsL ws) = true from h1, Bool.true_and]
  refine decide_eq_true ?_
  simp only [strsL, PyData.depth]
  omega
theorem Lics.ok {ws : List Str} (h : Lics ws) : ∀ w ∈ ws, PyData.strOk w = true := fun w hw => (lic_ok w (List.contains_iff_mem.mp (h w hw))).1
theorem eq_lists {K : Fg} {H : Hp} {p q : Addr} {ws zs : List Str} {Q : VK} (h1 : SqL K H p (ws.map V.str)) (h2 : SqL K H q (zs.map V.str)) (o1 : ∀ w ∈ ws, PyData.strOk w = true) (o2 : ∀ w ∈ zs, PyData.strOk w = true) (k : Q (.bl (decide (ws = zs))) H) : rEqD K (.ref p) (.ref q) H Q := by
  refine ⟨_, _, dp_strsL h1, dp_strsL h2, strsL_shaped o1, strsL_shaped o2, ?_⟩
  show Q (.bl (PyData.eqvAll (ws.map PyData.str) (zs.map PyData.str))) H
  rw [eqv_strs]
  exact k
section
variable {P : Program} {w : World} {K : Fg} {mg : Str → Option Value} {base : Heap}
def spSorted (K : Fg) : Sp := fun vs H Q _ => ∃ (l : Addr) (ws : List Str), vs = [.ref l] ∧ SqL K H l (ws.map V.str) ∧ ∀ p G, Same H G → H p = none → StrsAt G p (famW fun x => ws.contains x) → Q (.ref p) G
theorem ok_law_sorted {f : Addr} {fd : FuncData} (F : Fun K "_law_sorted" "_law_sorted" s_law_sorted f fd) (T : Cst K mg) (O_law_licences : Ok P w K mg base 1 "_law_licences" [] spLics) : FnOk P w K mg base CX0 2 f fd ["words"] (spSorted K) := by
  refine F.ok sc_law_sorted (fun vs H Q E h => ?_) (fun cdv A outer s H vs Q E hr h => ?_)
  · obtain ⟨l, ws, rfl, _⟩ := h
    rfl
  · obtain ⟨l, ws, rfl, hl, k⟩ := h
    refine ⟨_, (pss_one (ps_ret (pe_lc (own := [("one", 1)]) rfl sc_law_sorted.nd (pi_list (pe_callO0 O_law_licences (hr.mono (by decide)))) (blkOk_by (own := [("one", 1)]) (N := ["words", "one"]) (sc := defScope s_law_sorted) (by decide +kernel)) (fun _ _ _ _ _ => (pg_name (i := 1) sc_law_sorted.nd rfl (Or.inl rfl))) (fun _ _ _ _ _ => (pts_one (pt_cmpR (show OpR _ _ (rIn K false) from op_in_seq) (pv 1) (pv 0) (by rfl)))) (fun _ _ _ _ _ => (pv 1))))), ?_⟩
    refine ⟨rfl, fun p np => ⟨p, rfl, ⟨_, SqL.of upd_same⟩, fun D nD => ?_⟩⟩
    have s0 : Same H (upd H p (.lst (lic.map V.str))) := same_upd np
    have hp : upd H p (.lst (lic.map V.str)) p = some (.lst (lic.map V.str)) := upd_same
    generalize upd H p (.lst (lic.map V.str)) = G0 at s0 hp nD
    refine lc_fm (walk_list (xs := lic.map V.str)) (fun j => lic[j]?.bind fun x => if ws.contains x = true then some (V.str x) else none) nD (by show 10 ≤ 1000000; decide) (fun _ s => SqL.of (s _ _ hp)) ?_ ?_
    · rintro i x G1 G2 NT NE hi sg ⟨rfl, hx⟩ w0 w1
      rw [List.getElem?_map] at hx
      obtain ⟨lw, hlw, rfl⟩ : ∃ lw, lic[i]? = some lw ∧ V.str lw = x := by
        cases q : lic[i]? with
        | none => rw [q] at hx; cases hx
        | some lw => rw [q] at hx; exact ⟨lw, rfl, by injection hx⟩
      refine ⟨rfl, _, rfl, _, rfl, l, _, rfl, .inl ((s0.trans sg).seq hl), rfl, flat_strs _, _, rfl, ?_⟩
      rw [inV_strs]
      cases e : ws.contains lw with
      | false => exact iteF (w0 (by rw [hlw]; show (if ws.contains lw = true then some (V.str lw) else none) = none; rw [e]; rfl) _ (Same.refl _))
      | true => exact iteT ⟨_, rfl, w1 _ _ (by rw [hlw]; show (if ws.contains lw = true then some (V.str lw) else none) = _; rw [e]; rfl) (Same.refl _)⟩
    · intro G2 s2 hD
      rw [gath_filter lic (fun x => ws.contains x) V.str (by rfl)] at hD
      exact k D G2 (s0.trans s2) (s0.free nD) hD
/-- whether a family has exactly some licences: it does -/
def spHas (K : Fg) (C : Addr) : Sp := fun vs H Q _ => ∃ (a l : Addr) (p : Str → Bool) (ws : List Str), vs = [.ref a, .ref l] ∧ FamAt K H C a p ∧ SqL K H l (ws.map V.str) ∧ ws.length ≤ 1000 ∧ Lics ws ∧ (∀ x, lic.contains x = true → p x = ws.contains x) ∧ ∀ G, Same H G → Q (.bl true) G
theorem ok_law_has {f C : Addr} {fd : FuncData} (F : Fun K "_law_has" "_law_has" s_law_has f fd) (T : Cst K mg) (hC : FamC K C) (O_Family : OkI P w K mg base 1 "Family" C ["self", "words"] (spFam K C)) (Oe : OkM CX0 P w K mg base 1 C "__eq__" ["self", "other"] (spEqF K C)) (O_law_sorted : Ok P w K mg base 2 "_law_sorted" ["words"] (spSorted K)) :
    FnOk P w K mg base CX0 3 f fd ["family", "words"] (spHas K C) := by
  refine F.ok sc_law_has (fun vs H Q E h => ?_) (fun cdv A outer s H vs Q E hr h => ?_)
  · obtain ⟨a, l, p, ws, rfl, _⟩ := h
    rfl
  · obtain ⟨a, l, p, ws, rfl, fa, hl, lw, iw, he, k⟩ := h
    refine ⟨_, (pss_one (ps_ret (pe_and (pe_cmpR (op_eqD hr.units) (pe_callTy call_list_of (by rfl) T.n_list (by decide +kernel) (pa_cons (pe_fld (pv 0) rfl) pa_nil)) (pe_callO O_law_sorted (hr.mono (by decide)) (pa_cons (pv 1) pa_nil)) (nomark _)) (pe_one (pe_cmpR (op_eqA Oe (hr.mono (by decide))) (pv 0) (pe_makeO O_Family (hr.mono (by decide)) (pa_cons (pv 1) pa_nil)) (nomark _)))))), ?_⟩
    have fa0 := fa
    obtain ⟨dx, qa, ha, hqa⟩ := fa
    have ee : famW p = famW fun x => ws.contains x := famW_congr he
    refine ⟨_, rfl, a, C, dx, _, _, rfl, ha, hC.cls, hC.no, fam_words, qa, _, rfl, .inr hqa, fun m nm => ⟨_, rfl, l, ws, rfl, (same_upd nm).seq hl, fun r G s n hr => ?_⟩⟩
    have s1 := (same_upd nm).trans s
    refine eq_lists (SqL.of (s _ _ upd_same)) (SqL.of hr) famW_ok famW_ok ⟨_, rfl, ?_⟩
    rw [decide_eq_true ee]
    refine iteT ⟨_, rfl, _, rfl, fun b db nb ndb nbd => ?_⟩
    obtain ⟨m1, m2⟩ := made (C := C) nb ndb nbd
    refine ⟨b, db, l, false, ws, rfl, upd_same, m1.seq (s1.seq hl), lw, iw, fun H' kp fb => ⟨rfl, ?_⟩⟩
    have s2 : Same H H' := fun c u z => m2 H' kp c u (s1 c u z)
    refine eq_go (fa0.same s2) fb ?_
    rw [decide_eq_true ee]
    exact k H' s2
end
end K87

namespace K87
open PySem PySem.Spec PyProof.Rows L2 EV TL LM
section
variable {P : Program} {w : World} {K : Fg} {mg : Str → Option Value} {base : Heap}
theorem bool_ne {p q : Str → Bool} {A B : Prop} (h : ∀ l, p l = q l) (b : B) : if (!decide (famW p = famW q)) = true then A else B := by
  rw [decide_eq_true (famW_congr fun l _ => h l)]
  exact iteF b
theorem bool_eq {p q : Str → Bool} {A B : Prop} (h : ∀ l, p l = q l) (a : A) : if decide (famW p = famW q) = true then A else B := by
  rw [decide_eq_true (famW_congr fun l _ => h l)]
  exact iteT a
/-- the rules of sets between three families -/
def spThree (K : Fg) (C : Addr) : Sp := fun vs H Q _ => ∃ (a b c : Addr) (p q r : Str → Bool), vs = [.ref a, .ref b, .ref c] ∧ FamAt K H C a p ∧ FamAt K H C b q ∧ FamAt K H C c r ∧ ∀ G, Same H G → Q (.bl true) G
theorem ok_law_three_right {f C : Addr} {fd : FuncData} (F : Fun K "_law_three_right" "_law_three_right" s_law_three_right f fd) (T : Cst K mg) (hC : FamC K C) (gL : mg "Family" = some (.ref C)) (nC : NeC K C) (sf : PySem.W.selfFirst K C = true) (O_Family : OkI P w K mg base 1 "Family" C ["self", "words"] (spFam K C)) (Oa : OkM CX0 P w K mg base 3 C "__and__" ["self", "other"] (spTwo K C and)) (Oo : OkM CX0 P w K mg base 3 C "__or__" ["self", "other"] (spTwo K C or))
    (Os : OkM CX0 P w K mg base 3 C "__sub__" ["self", "other"] (spTwo K C fun x y => x && !y)) (Oe : OkM CX0 P w K mg base 1 C "__eq__" ["self", "other"] (spEqF K C)) (Ol : OkM CX0 P w K mg base 1 C "__len__" ["self"] (spLenF K C)) (Ow : OkM CX0 P w K mg base 1 C "is_within" ["self", "other"] (spWithin K C)) : FnOk P w K mg base CX0 6 f fd ["one", "other", "third"] (spThree K C) := by
  refine F.ok sc_law_three_right (fun vs H Q E h => ?_) (fun cdv A outer s H vs Q E hr h => ?_)
  · obtain ⟨a, b, c, p, q, r, rfl, _⟩ := h
    rfl
  · obtain ⟨a, b, c, p, q, r, rfl, fa, fb, fc, k⟩ := h
    refine ⟨_, (pss_cons (ps_if (PW.pt (pw_or (pt_cmpR (op_neA Oe nC (hr.mono (by decide))) (pe_op (op_binO Oo sf (hr.mono (by decide))) (pe_op (op_binO Oa sf (hr.mono (by decide))) (pv 0) (pv 1)) (pv 2)) (pe_op (op_binO Oa sf (hr.mono (by decide))) (pe_op (op_binO Oo sf (hr.mono (by decide))) (pv 0) (pv 2)) (pe_op (op_binO Oo sf (hr.mono (by decide))) (pv 1) (pv 2))) (nomark _)) (pw_or1 (pt_cmpR (op_neA Oe nC (hr.mono (by decide))) (pe_op (op_binO Oa sf (hr.mono (by decide))) (pe_op (op_binO Oo sf (hr.mono (by decide))) (pv 0) (pv 1)) (pv 2)) (pe_op (op_binO Oo sf (hr.mono (by decide))) (pe_op (op_binO Oa sf (hr.mono (by decide))) (pv 0) (pv 2)) (pe_op (op_binO Oa sf (hr.mono (by decide))) (pv 1) (pv 2))) (nomark _))))) (pss_one (ps_ret pe_bl)) pss_nil)
    (pss_cons (ps_if (PW.pt (pw_or (pt_cmpR (op_neA Oe nC (hr.mono (by decide))) (pe_op (op_binO Os sf (hr.mono (by decide))) (pv 0) (pe_op (op_binO Oo sf (hr.mono (by decide))) (pv 1) (pv 2))) (pe_op (op_binO Os sf (hr.mono (by decide))) (pe_op (op_binO Os sf (hr.mono (by decide))) (pv 0) (pv 1)) (pv 2)) (nomark _)) (pw_or1 (pt_cmpR (op_neA Oe nC (hr.mono (by decide))) (pe_op (op_binO Oa sf (hr.mono (by decide))) (pe_op (op_binO Os sf (hr.mono (by decide))) (pv 0) (pv 1)) (pv 1)) (pe_makeO O_Family (hr.mono (by decide)) (pa_cons (pe_lst pa_nil) pa_nil)) (nomark _))))) (pss_one (ps_ret pe_bl)) pss_nil)
    (pss_one (ps_ret (pe_and (pe_cmpR (op_eqA Oe (hr.mono (by decide))) (pe_op (op_binO Oo sf (hr.mono (by decide))) (pe_op (op_binO Oa sf (hr.mono (by decide))) (pv 0) (pv 1)) (pe_op (op_binO Os sf (hr.mono (by decide))) (pv 0) (pv 1))) (pv 0) (nomark _)) (pe_and (pe_methO (pv 0) hC.cls Ow (hr.mono (by decide)) (pa_cons (pe_op (op_binO Oo sf (hr.mono (by decide))) (pv 0) (pv 2)) pa_nil)) (pe_one (pe_methO (pe_op (op_binO Oa sf (hr.mono (by decide))) (pv 0) (pv 2)) hC.cls Ow (hr.mono (by decide)) (pa_cons (pv 2) pa_nil))))))))), ?_⟩
    refine ⟨_, rfl, _, rfl, two_go fa fb fun r1 G1 s1 n1 f1 => ⟨_, rfl, two_go f1 (fc.same s1) fun r2 G2 s2 n2 f2 => ?_⟩⟩
    have fa := fa.same (s1.trans s2)
    have fb := fb.same (s1.trans s2)
    have fc := fc.same (s1.trans s2)
    refine ⟨_, rfl, _, rfl, two_go fa fc fun r3 G3 s3 n3 f3 => ⟨_, rfl, _, rfl, two_go (fb.same s3) (fc.same s3) fun r4 G4 s4 n4 f4 => two_go (f3.same s4) f4 fun r5 G5 s5 n5 f5 => ne_go (f2.same (s3.trans (s4.trans s5))) f5 ⟨_, rfl, ?_⟩⟩⟩
    refine bool_ne (fun l => by cases p l <;> cases q l <;> cases r l <;> rfl) ?_
    have s15 := (s1.trans s2).trans (s3.trans (s4.trans s5))
    have s35 := s3.trans (s4.trans s5)
    have fa := fa.same s35
    have fb := fb.same s35
    have fc := fc.same s35
    clear f1 f2 f3 f4 f5 n1 n2 n3 n4 n5 s1 s2 s3 s4 s5 s35
    refine ⟨_, rfl, _, rfl, two_go fa fb fun r1 G1 s1 n1 f1 => ⟨_, rfl, two_go f1 (fc.same s1) fun r2 G2 s2 n2 f2 => ?_⟩⟩
    have fa := fa.same (s1.trans s2)
    have fb := fb.same (s1.trans s2)
    have fc := fc.same (s1.trans s2)
    refine ⟨_, rfl, _, rfl, two_go fa fc fun r3 G3 s3 n3 f3 => ⟨_, rfl, _, rfl, two_go (fb.same s3) (fc.same s3) fun r4 G4 s4 n4 f4 => two_go (f3.same s4) f4 fun r5 G5 s5' n5 f5 => ne_go (f2.same (s3.trans (s4.trans s5'))) f5 ⟨_, rfl, ?_⟩⟩⟩
    refine bool_ne (fun l => by cases p l <;> cases q l <;> cases r l <;> rfl) ?_
    have s25 := (s1.trans s2).trans (s3.trans (s4.trans s5'))
    have s35 := s3.trans (s4.trans s5')
    have fa := fa.same s35
    have fb := fb.same s35
    have fc := fc.same s35
    clear f1 f2 f3 f4 f5 n1 n2 n3 n4 n5 s1 s2 s3 s4 s5' s35
    refine ⟨_, rfl, _, rfl, _, rfl, two_go fb fc fun r1 G1 s1 n1 f1 => two_go (fa.same s1) f1 fun r2 G2 s2 n2 f2 => ?_⟩
    have fa := fa.same (s1.trans s2)
    have fb := fb.same (s1.trans s2)
    have fc := fc.same (s1.trans s2)
    refine ⟨_, rfl, _, rfl, two_go fa fb fun r3 G3 s3 n3 f3 => ⟨_, rfl, two_go f3 (fc.same s3) fun r4 G4 s4 n4 f4 => ne_go (f2.same (s3.trans s4)) f4 ⟨_, rfl, ?_⟩⟩⟩
    refine bool_ne (fun l => by cases p l <;> cases q l <;> cases r l <;> rfl) ?_
    have s34 := s3.trans s4
    have s36 := (s1.trans s2).trans s34
    have fa := fa.same s34
    have fb := fb.same s34
    have fc := fc.same s34
    clear f1 f2 f3 f4 n1 n2 n3 n4 s1 s2 s3 s4 s34
    refine ⟨_, rfl, _, rfl, two_go fa fb fun r1 G1 s1 n1 f1 => ⟨_, rfl, two_go f1 (fb.same s1) fun r2 G2 s2 n2 f2 => ⟨by show 0 ≤ sizeLine; decide, fun m nm => ?_⟩⟩⟩
    intro e de ne nde nede
    obtain ⟨m1, m2⟩ := made (C := C) ne nde nede
    have hm : upd G2 m (.lst []) m = some (.lst (([] : List Str).map V.str)) := upd_same
    refine ⟨e, de, m, false, [], rfl, upd_same, SqL.of (m1 _ _ hm), by decide, (fun w hw => by cases hw), fun H' kp fe => ⟨rfl, ?_⟩⟩
    have s2' : Same G2 H' := fun c u z => m2 H' kp c u ((same_upd nm) c u z)
    refine ne_go (f2.same s2') fe ⟨_, rfl, ?_⟩
    refine bool_ne (fun l => by show ((p l && !q l) && q l) = false; cases p l <;> cases q l <;> rfl) ?_
    have s47 := (s1.trans s2).trans s2'
    have fa := fa.same s47
    have fb := fb.same s47
    have fc := fc.same s47
    clear f1 f2 n1 n2 s1 s2 s2' m1 m2 hm
    refine ⟨_, rfl, _, rfl, two_go fa fb fun r1 G1 s1 n1 f1 => ⟨_, rfl, _, rfl, two_go (fa.same s1) (fb.same s1) fun r2 G2 s2 n2 f2 => two_go (f1.same s2) f2 fun r3 G3 s3 n3 f3 => ⟨_, rfl, ?_⟩⟩⟩
    have s13 := s1.trans (s2.trans s3)
    have fa := fa.same s13
    have fb := fb.same s13
    have fc := fc.same s13
    refine eq_go f3 fa ⟨_, rfl, ?_⟩
    refine bool_eq (fun l => by show (and (p l) (q l) || (p l && !q l)) = p l; cases p l <;> cases q l <;> rfl) ?_
    obtain ⟨da, qa, ha⟩ := fa.at
    refine ⟨_, rfl, a, da, _, rfl, ha, fam_no (by decide +kernel), _, rfl, _, rfl, two_go fa fc fun r4 G4 s4 n4 f4 => ⟨a, r4, p, _, rfl, fa.same s4, f4, fun G5 s5 => ⟨_, rfl, ?_⟩⟩⟩
    have w1 : ((famW p).all fun l => or (p l) (r l)) = true := List.all_eq_true.mpr fun l hl => by rw [(lic_of hl).2]; rfl
    rw [w1]
    have s45 := s4.trans s5
    refine iteT ⟨_, rfl, _, rfl, two_go (fa.same s45) (fc.same s45) fun r6 G6 s6 n6 f6 => ?_⟩
    obtain ⟨d6, q6, h6⟩ := f6.at
    have w2 : ((famW fun l => and (p l) (r l)).all fun l => r l) = true := List.all_eq_true.mpr fun l hl => by
      have := (lic_of hl).2
      cases e : r l with
      | true => rfl
      | false => rw [e, Bool.and_false] at this; cases this
    refine ⟨r6, d6, _, rfl, h6, fam_no (by decide +kernel), _, rfl, r6, c, _, r, rfl, f6, (fc.same s45).same s6, fun G7 s7 => ?_⟩
    rw [w2]
    exact k G7 ((s15.trans s25).trans (s36.trans (s47.trans (s13.trans (s45.trans (s6.trans s7))))))
end
end K87

namespace K87
open PySem PySem.Spec PyProof.Rows L2 EV TL LM
def subB (p q : Str → Bool) : Bool := (famW p).all fun l => q l
theorem subB_iff {p q : Str → Bool} : subB p q = true ↔ ∀ l, lic.contains l = true → p l = true → q l = true := by
  unfold subB
  rw [List.all_eq_true]
  exact ⟨fun h l hl hp => h l (List.mem_filter.mpr ⟨List.contains_iff_mem.mp hl, hp⟩), fun h l hl => h l (lic_of hl).1 (lic_of hl).2⟩
theorem sub_or {p q : Str → Bool} : decide (famW (fun l => or (p l) (q l)) = famW q) = subB p q := by
  rw [Bool.eq_iff_iff, decide_eq_true_eq, subB_iff]
  refine ⟨fun h l hl hp => ?_, fun h => famW_congr fun l hl => ?_⟩
  · have := famW_inj h l hl
    rw [hp] at this
    exact this.symm
  · cases e : p l with
    | false => rfl
    | true => rw [h l hl e]; rfl
theorem sub_and {p q : Str → Bool} : decide (famW (fun l => and (p l) (q l)) = famW p) = subB p q := by
  rw [Bool.eq_iff_iff, decide_eq_true_eq, subB_iff]
  refine ⟨fun h l hl hp => ?_, fun h => famW_congr fun l hl => ?_⟩
  · have := famW_inj h l hl
    rw [hp] at this
    exact this
  · cases e : p l with
    | false => rfl
    | true => rw [h l hl e]; rfl
theorem sub_filter {fw sw : List Str} (h : Lics fw) : decide (fw.filter (fun x => !sw.contains x) = []) = subB (fun l => fw.contains l) (fun l => sw.contains l) := by
  rw [Bool.eq_iff_iff, decide_eq_true_eq, subB_iff]
  refine ⟨fun e l _ hl => ?_, fun e => ?_⟩
  · cases q : sw.contains l with
    | true => rfl
    | false =>
      have : l ∈ fw.filter (fun x => !sw.contains x) := List.mem_filter.mpr ⟨List.contains_iff_mem.mp hl, by rw [q]; rfl⟩
      rw [e] at this
      cases this
  · rw [List.filter_eq_nil_iff]
    intro l hl
    rw [e l (h l hl) (List.contains_iff_mem.mpr hl)]
    exact Bool.false_ne_true
theorem len_two (p q : Str → Bool) : (famW fun l => or (p l) (q l)).length + (famW fun l => and (p l) (q l)).length = (famW p).length + (famW q).length := by
  unfold famW
  induction lic with
  | nil => rfl
  | cons x xs ih =>
    rw [List.filter_cons, List.filter_cons, List.filter_cons, List.filter_cons]
    cases p x <;> cases q x <;> simp <;> omega
theorem ne_bl {x y : Bool} {A B : Prop} (h : x = y) (b : B) : if (!decide (V.bl x = V.bl y)) = true then A else B := by
  rw [decide_eq_true (congrArg V.bl h)]
  exact iteF b
theorem eq_not {x : Bool} {A B : Prop} (b : B) : if decide (V.bl (!x) = V.bl x) = true then A else B := by
  rw [decide_eq_false (fun e => by injection e with e; cases x <;> cases e)]
  exact iteF b
theorem str_at {i : Nat} {ws : List Str} {x : V} (hx : (ws.map V.str)[i]? = some x) : ∃ lw, ws[i]? = some lw ∧ V.str lw = x := by
  rw [List.getElem?_map] at hx
  cases q : ws[i]? with
  | none => rw [q] at hx; cases hx
  | some lw => rw [q] at hx; exact ⟨lw, rfl, by injection hx⟩
section
variable {P : Program} {w : World} {K : Fg} {mg : Str → Option Value} {base : Heap}
def spSigns (K : Fg) (C : Addr) : Sp := fun vs H Q _ => ∃ (a b l1 l2 : Addr) (fw sw : List Str), vs = [.ref a, .ref b, .ref l1, .ref l2] ∧ FamAt K H C a (fun l => fw.contains l) ∧ FamAt K H C b (fun l => sw.contains l) ∧ StrsAt H l1 fw ∧ StrsAt H l2 sw ∧ fw.length ≤ 100 ∧ sw.length ≤ 100 ∧ Lics fw ∧ Lics sw ∧ ∀ G, Same H G → Q (.bl true) G
theorem ok_law_signs_right {f C : Addr} {fd : FuncData} (F : Fun K "_law_signs_right" "_law_signs_right" s_law_signs_right f fd) (T : Cst K mg) (iL : IsiL K C) (hC : FamC K C) (gL : mg "Family" = some (.ref C)) (nC : NeC K C) (sf : PySem.W.selfFirst K C = true) (O_Family : OkI P w K mg base 1 "Family" C ["self", "words"] (spFam K C)) (Oa : OkM CX0 P w K mg base 3 C "__and__" ["self", "other"] (spTwo K C and)) (Oo : OkM CX0 P w K mg base 3 C "__or__" ["self", "other"] (spTwo K C or))
    (Os : OkM CX0 P w K mg base 3 C "__sub__" ["self", "other"] (spTwo K C fun x y => x && !y)) (Oe : OkM CX0 P w K mg base 1 C "__eq__" ["self", "other"] (spEqF K C)) (Ol : OkM CX0 P w K mg base 1 C "__len__" ["self"] (spLenF K C)) (Ow : OkM CX0 P w K mg base 1 C "is_within" ["self", "other"] (spWithin K C))
    (O_law_has : Ok P w K mg base 3 "_law_has" ["family", "words"] (spHas K C)) (O_law_sorted : Ok P w K mg base 2 "_law_sorted" ["words"] (spSorted K)) : FnOk P w K mg base CX0 6 f fd ["one", "other", "first", "second"] (spSigns K C) := by
  refine F.ok sc_law_signs_right (fun vs H Q E h => ?_) (fun cdv A outer s H vs Q E hr h => ?_)
  · obtain ⟨a, b, l1, l2, fw, sw, rfl, _⟩ := h
    rfl
  · obtain ⟨a, b, l1, l2, fw, sw, rfl, fa, fb, h1, h2, n1, n2, i1, i2, k⟩ := h
    refine ⟨_, (pss_cons (ps_if (pt_not (pt_val (pe_callO O_law_has (hr.mono (by decide)) (pa_cons (pe_op (op_binO Oa sf (hr.mono (by decide))) (pv 0) (pv 1)) (pa_cons (pe_lc (own := [("word", 6)]) rfl sc_law_signs_right.nd (pi_list (pv 2)) (blkOk_by (own := [("word", 6)]) (N := ["one", "other", "first", "second", "within", "same", "word"]) (sc := defScope s_law_signs_right) (by decide +kernel)) (fun _ _ _ _ _ => (pg_name (i := 6) sc_law_signs_right.nd rfl (Or.inl rfl))) (fun _ _ _ _ _ => (pts_one (pt_cmpR (show OpR _ _ (rIn K false) from op_in_seq) (pv 6) (pv 3) (by rfl)))) (fun _ _ _ _ _ => (pv 6))) pa_nil))))) (pss_one (ps_ret pe_bl)) pss_nil)
    (pss_cons (ps_if (pt_not (pt_val (pe_callO O_law_has (hr.mono (by decide)) (pa_cons (pe_op (op_binO Oo sf (hr.mono (by decide))) (pv 0) (pv 1)) (pa_cons (pe_op op_cat (pv 2) (pv 3)) pa_nil))))) (pss_one (ps_ret pe_bl)) pss_nil)
    (pss_cons (ps_if (pt_not (pt_val (pe_callO O_law_has (hr.mono (by decide)) (pa_cons (pe_op (op_binO Os sf (hr.mono (by decide))) (pv 0) (pv 1)) (pa_cons (pe_lc (own := [("word", 6)]) rfl sc_law_signs_right.nd (pi_list (pv 2)) (blkOk_by (own := [("word", 6)]) (N := ["one", "other", "first", "second", "within", "same", "word"]) (sc := defScope s_law_signs_right) (by decide +kernel)) (fun _ _ _ _ _ => (pg_name (i := 6) sc_law_signs_right.nd rfl (Or.inl rfl))) (fun _ _ _ _ _ => (pts_one (pt_cmpR (show OpR _ _ (rIn K true) from op_notIn_seq) (pv 6) (pv 3) (by rfl)))) (fun _ _ _ _ _ => (pv 6))) pa_nil))))) (pss_one (ps_ret pe_bl)) pss_nil)
    (pss_cons (ps_set (i := 4) sc_law_signs_right.nd rfl (Or.inl rfl) (pe_cmpR (op_eqD hr.units) (pe_lc (own := [("word", 6)]) rfl sc_law_signs_right.nd (pi_list (pv 2)) (blkOk_by (own := [("word", 6)]) (N := ["one", "other", "first", "second", "within", "same", "word"]) (sc := defScope s_law_signs_right) (by decide +kernel)) (fun _ _ _ _ _ => (pg_name (i := 6) sc_law_signs_right.nd rfl (Or.inl rfl))) (fun _ _ _ _ _ => (pts_one (pt_cmpR (show OpR _ _ (rIn K true) from op_notIn_seq) (pv 6) (pv 3) (by rfl)))) (fun _ _ _ _ _ => (pv 6))) (pe_lst pa_nil) (nomark _)))
    (pss_cons (ps_if (PW.pt (pw_or (pt_cmpR op_ne (pe_methO (pv 0) hC.cls Ow (hr.mono (by decide)) (pa_cons (pv 1) pa_nil)) (pv 4) (nomark _)) (pw_or (pt_cmpR op_ne (pe_cmpR (op_eqA Oe (hr.mono (by decide))) (pe_op (op_binO Oo sf (hr.mono (by decide))) (pv 0) (pv 1)) (pv 1) (nomark _)) (pv 4) (nomark _)) (pw_or1 (pt_cmpR op_ne (pe_cmpR (op_eqA Oe (hr.mono (by decide))) (pe_op (op_binO Oa sf (hr.mono (by decide))) (pv 0) (pv 1)) (pv 0) (nomark _)) (pv 4) (nomark _)))))) (pss_one (ps_ret pe_bl)) pss_nil)
    (pss_cons (ps_set (i := 5) sc_law_signs_right.nd rfl (Or.inl rfl) (pe_cmpR (op_eqD hr.units) (pe_callO O_law_sorted (hr.mono (by decide)) (pa_cons (pv 2) pa_nil)) (pe_callO O_law_sorted (hr.mono (by decide)) (pa_cons (pv 3) pa_nil)) (nomark _)))
    (pss_cons (ps_if (PW.pt (pw_or (pt_cmpR op_ne (pe_cmpR (op_eqA Oe (hr.mono (by decide))) (pv 0) (pv 1) (nomark _)) (pv 5) (nomark _)) (pw_or1 (pt_cmpR op_eq (pe_cmpR (op_neA Oe nC (hr.mono (by decide))) (pv 0) (pv 1) (nomark _)) (pv 5) (nomark _))))) (pss_one (ps_ret pe_bl)) pss_nil)
    (pss_one (ps_ret (pe_and (pe_callB call_isi (by rfl) T.n_isinstance (by decide +kernel) (pa_cons (pe_op (op_binO Oa sf (hr.mono (by decide))) (pv 0) (pv 1)) (pa_cons (pe_glob (v := .ref C) rfl gL rfl) pa_nil))) (pe_one (pe_cmpR op_eq (pe_op op_add (pe_callB (call_lenO Ol (hr.mono (by decide))) (by rfl) T.n_len (by decide +kernel) (pa_cons (pe_op (op_binO Oo sf (hr.mono (by decide))) (pv 0) (pv 1)) pa_nil)) (pe_callB (call_lenO Ol (hr.mono (by decide))) (by rfl) T.n_len (by decide +kernel) (pa_cons (pe_op (op_binO Oa sf (hr.mono (by decide))) (pv 0) (pv 1)) pa_nil))) (pe_op op_add (pe_callB (call_lenO Ol (hr.mono (by decide))) (by rfl) T.n_len (by decide +kernel) (pa_cons (pv 0) pa_nil)) (pe_callB (call_lenO Ol (hr.mono (by decide))) (by rfl) T.n_len (by decide +kernel) (pa_cons (pv 1) pa_nil))) (nomark _))))))))))))), ?_⟩
    have i1' : ∀ w ∈ fw, PySem.PyData.strOk w = true := i1.ok
    refine ⟨_, rfl, _, rfl, two_go fa fb fun r1 G1 s1 n1 f1 => ⟨_, rfl, l1, rfl, ⟨_, SqL.of (s1 _ _ h1)⟩, fun D nD => ?_⟩⟩
    refine lc_fm (walk_list (xs := fw.map V.str)) (fun j => fw[j]?.bind fun x => if sw.contains x = true then some (V.str x) else none) nD (by rw [List.length_map]; omega) (fun _ s => SqL.of (s _ _ (s1 _ _ h1))) ?_ ?_
    · rintro i x G2 G3 NT NE hi sg ⟨rfl, hx⟩ w0 w1
      obtain ⟨lw, hlw, rfl⟩ := str_at hx
      refine ⟨rfl, _, rfl, _, rfl, l2, _, rfl, .inl (SqL.of (sg _ _ (s1 _ _ h2))), rfl, flat_strs _, _, rfl, ?_⟩
      rw [inV_strs]
      cases e : sw.contains lw with
      | false => exact iteF (w0 (by rw [hlw]; show (if sw.contains lw = true then some (V.str lw) else none) = none; rw [e]; rfl) _ (Same.refl _))
      | true => exact iteT ⟨_, rfl, w1 _ _ (by rw [hlw]; show (if sw.contains lw = true then some (V.str lw) else none) = _; rw [e]; rfl) (Same.refl _)⟩
    intro G2 s2 hD
    rw [gath_filter fw (fun x => sw.contains x) V.str (by rw [List.length_map])] at hD
    refine ⟨r1, D, _, _, rfl, f1.same s2, SqL.of hD, Nat.le_trans (List.length_filter_le _ _) (by omega), (fun w hw => i1 w (List.mem_filter.mp hw).1), (fun l hl => by rw [con_filter]), fun G3 s3 => ⟨_, rfl, iteF ?_⟩⟩
    have s13 := s1.trans (s2.trans s3)
    have fa := fa.same s13
    have fb := fb.same s13
    have h1 : StrsAt G3 l1 fw := s13 _ _ h1
    have h2 : StrsAt G3 l2 sw := s13 _ _ h2
    clear hD nD f1 n1 s1 s2 s3
    refine ⟨_, rfl, _, rfl, two_go fa fb fun r1 G1 s1 n1 f1 => ⟨_, rfl, _, rfl, l1, l2, _, _, rfl, rfl, s1 _ _ h1, s1 _ _ h2, by rw [List.length_map, List.length_map, sizeLine_eq]; omega, fun m nm => ?_⟩⟩
    have hm : StrsAt (upd G1 m (.lst (fw.map V.str ++ sw.map V.str))) m (fw ++ sw) := by
      show upd G1 m _ m = _
      rw [upd_same, List.map_append]
    have s2 := same_upd (o := .lst (fw.map V.str ++ sw.map V.str)) nm
    generalize upd G1 m (.lst (fw.map V.str ++ sw.map V.str)) = G2 at hm s2
    refine ⟨r1, m, _, _, rfl, f1.same s2, SqL.of hm, by rw [List.length_append]; omega, (fun w hw => (List.mem_append.mp hw).elim (i1 w) (i2 w)), (fun l hl => by rw [List.contains_append]), fun G4 s3 => ⟨_, rfl, iteF ?_⟩⟩
    have s24 := s1.trans (s2.trans s3)
    have fa := fa.same s24
    have fb := fb.same s24
    have h1 : StrsAt G4 l1 fw := s24 _ _ h1
    have h2 : StrsAt G4 l2 sw := s24 _ _ h2
    clear hm nm f1 n1 s1 s2 s3
    refine ⟨_, rfl, _, rfl, two_go fa fb fun r1 G1 s1 n1 f1 => ⟨_, rfl, l1, rfl, ⟨_, SqL.of (s1 _ _ h1)⟩, fun D nD => ?_⟩⟩
    refine lc_fm (walk_list (xs := fw.map V.str)) (fun j => fw[j]?.bind fun x => if (!sw.contains x) = true then some (V.str x) else none) nD (by rw [List.length_map]; omega) (fun _ s => SqL.of (s _ _ (s1 _ _ h1))) ?_ ?_
    · rintro i x G2 G3 NT NE hi sg ⟨rfl, hx⟩ w0 w1
      obtain ⟨lw, hlw, rfl⟩ := str_at hx
      refine ⟨rfl, _, rfl, _, rfl, l2, _, rfl, .inl (SqL.of (sg _ _ (s1 _ _ h2))), rfl, flat_strs _, _, rfl, ?_⟩
      rw [inV_strs]
      cases e : sw.contains lw with
      | true => exact iteF (w0 (by rw [hlw]; show (if (!sw.contains lw) = true then some (V.str lw) else none) = none; rw [e]; rfl) _ (Same.refl _))
      | false => exact iteT ⟨_, rfl, w1 _ _ (by rw [hlw]; show (if (!sw.contains lw) = true then some (V.str lw) else none) = _; rw [e]; rfl) (Same.refl _)⟩
    intro G2 s2 hD
    rw [gath_filter fw (fun x => !sw.contains x) V.str (by rw [List.length_map])] at hD
    refine ⟨r1, D, _, _, rfl, f1.same s2, SqL.of hD, Nat.le_trans (List.length_filter_le _ _) (by omega), (fun w hw => i1 w (List.mem_filter.mp hw).1), (fun l hl => by rw [con_filter]), fun G5 s3 => ⟨_, rfl, iteF ?_⟩⟩
    have s45 := s1.trans (s2.trans s3)
    have fa := fa.same s45
    have fb := fb.same s45
    have h1 : StrsAt G5 l1 fw := s45 _ _ h1
    have h2 : StrsAt G5 l2 sw := s45 _ _ h2
    clear hD nD f1 n1 s1 s2 s3
    refine ⟨_, rfl, l1, rfl, ⟨_, SqL.of h1⟩, fun D nD => ?_⟩
    refine lc_fm (walk_list (xs := fw.map V.str)) (fun j => fw[j]?.bind fun x => if (!sw.contains x) = true then some (V.str x) else none) nD (by rw [List.length_map]; omega) (fun _ s => SqL.of (s _ _ h1)) ?_ ?_
    · rintro i x G2 G3 NT NE hi sg ⟨rfl, hx⟩ w0 w1
      obtain ⟨lw, hlw, rfl⟩ := str_at hx
      refine ⟨rfl, _, rfl, _, rfl, l2, _, rfl, .inl (SqL.of (sg _ _ h2)), rfl, flat_strs _, _, rfl, ?_⟩
      rw [inV_strs]
      cases e : sw.contains lw with
      | true => exact iteF (w0 (by rw [hlw]; show (if (!sw.contains lw) = true then some (V.str lw) else none) = none; rw [e]; rfl) _ (Same.refl _))
      | false => exact iteT ⟨_, rfl, w1 _ _ (by rw [hlw]; show (if (!sw.contains lw) = true then some (V.str lw) else none) = _; rw [e]; rfl) (Same.refl _)⟩
    intro G6 s6 hD
    rw [gath_filter fw (fun x => !sw.contains x) V.str (by rw [List.length_map])] at hD
    refine ⟨by show 0 ≤ sizeLine; decide, fun m nm => ?_⟩
    have s7 := same_upd (o := .lst []) nm
    have hm : upd G6 m (.lst []) m = some (.lst (([] : List Str).map V.str)) := upd_same
    generalize upd G6 m (.lst []) = G7 at s7 hm
    refine eq_lists (SqL.of (s7 _ _ hD)) (SqL.of hm) (fun w hw => i1' w (List.mem_filter.mp hw).1) (fun w hw => by cases hw) ?_
    rw [sub_filter i1]
    have s57 := s6.trans s7
    have fa := fa.same s57
    have fb := fb.same s57
    have h1 : StrsAt G7 l1 fw := s57 _ _ h1
    have h2 : StrsAt G7 l2 sw := s57 _ _ h2
    clear hD nD hm nm s6 s7
    obtain ⟨da, qa, ha⟩ := fa.at
    refine ⟨_, rfl, a, da, _, rfl, ha, fam_no (by decide +kernel), _, rfl, a, b, _, _, rfl, fa, fb, fun G8 s8 => ⟨_, rfl, rfl, _, rfl, ne_bl rfl ?_⟩⟩
    have fa := fa.same s8
    have fb := fb.same s8
    have h1 : StrsAt G8 l1 fw := s8 _ _ h1
    have h2 : StrsAt G8 l2 sw := s8 _ _ h2
    refine ⟨_, rfl, _, rfl, two_go fa fb fun r1 G9 s9 n1 f1 => ⟨_, rfl, eq_go f1 (fb.same s9) ⟨_, rfl, rfl, _, rfl, ne_bl sub_or ?_⟩⟩⟩
    have fa := fa.same s9
    have fb := fb.same s9
    have h1 : StrsAt G9 l1 fw := s9 _ _ h1
    have h2 : StrsAt G9 l2 sw := s9 _ _ h2
    refine ⟨_, rfl, _, rfl, two_go fa fb fun r2 G10 s10 n2 f2 => ⟨_, rfl, eq_go f2 (fa.same s10) ⟨_, rfl, rfl, _, rfl, ne_bl sub_and ?_⟩⟩⟩
    have fa := fa.same s10
    have fb := fb.same s10
    have h1 : StrsAt G10 l1 fw := s10 _ _ h1
    have h2 : StrsAt G10 l2 sw := s10 _ _ h2
    refine ⟨_, rfl, l1, fw, rfl, SqL.of h1, fun p1 G11 s11 np1 hp1 => ⟨_, rfl, l2, sw, rfl, SqL.of (s11 _ _ h2), fun p2 G12 s12 np2 hp2 => ?_⟩⟩
    refine eq_lists (SqL.of (s12 _ _ hp1)) (SqL.of hp2) famW_ok famW_ok ?_
    have s112 := s11.trans s12
    have fa := fa.same s112
    have fb := fb.same s112
    refine ⟨_, rfl, _, rfl, eq_go fa fb ⟨_, rfl, rfl, _, rfl, ne_bl rfl ?_⟩⟩
    refine ⟨_, rfl, _, rfl, ne_go fa fb ⟨_, rfl, rfl, _, rfl, eq_not ?_⟩⟩
    refine ⟨_, rfl, _, rfl, two_go fa fb fun r3 G13 s13' n3 f3 => ?_⟩
    obtain ⟨d3, q3, h3⟩ := f3.at
    have fa := fa.same s13'
    have fb := fb.same s13'
    refine ⟨_, _, _, _, true, rfl, .own C, iL.tyx hC.cls h3, kit_self, _, rfl, iteT ?_⟩
    refine ⟨_, rfl, _, rfl, two_go fa fb fun r4 G14 s14 n4 f4 => ?_⟩
    obtain ⟨d4, q4, h4⟩ := f4.at
    have fa := fa.same s14
    have fb := fb.same s14
    have le := fun p => famW_le p
    refine ⟨r4, d4, _, rfl, h4, r4, _, rfl, f4, ⟨_, rfl, Int.natCast_nonneg _, by have := le fun l => or (fw.contains l) (sw.contains l); omega, ?_⟩⟩
    refine ⟨_, rfl, _, rfl, two_go fa fb fun r5 G15 s15 n5 f5 => ?_⟩
    obtain ⟨d5, q5, h5⟩ := f5.at
    have fa := fa.same s15
    have fb := fb.same s15
    refine ⟨r5, d5, _, rfl, h5, r5, _, rfl, f5, ⟨_, rfl, Int.natCast_nonneg _, by have := le fun l => and (fw.contains l) (sw.contains l); omega, _, _, rfl, rfl, ?_⟩⟩
    obtain ⟨da, qa, ha⟩ := fa.at
    obtain ⟨db, qb, hb⟩ := fb.at
    refine ⟨_, rfl, a, da, _, rfl, ha, a, _, rfl, fa, ⟨_, rfl, Int.natCast_nonneg _, by have := le fun l => fw.contains l; omega, ?_⟩⟩
    refine ⟨_, rfl, b, db, _, rfl, hb, b, _, rfl, fb, ⟨_, rfl, Int.natCast_nonneg _, by have := le fun l => sw.contains l; omega, _, _, rfl, rfl, rfl, ?_⟩⟩
    have l2 := len_two (fun l => fw.contains l) (fun l => sw.contains l)
    rw [decide_eq_true (congrArg V.int (by omega))]
    exact k G15 (s13.trans (s24.trans (s45.trans (s57.trans (s8.trans (s9.trans (s10.trans (s112.trans (s13'.trans (s14.trans s15))))))))))
end
end K87

namespace K87
open PySem PySem.Spec PyProof.Rows L2 EV TL LM
/-- a value of a built-in kind, at this heap -/
def Plain (K : Fg) (H : Hp) (y : V) : Prop := ∃ T, T ∈ plainTys ∧ TyN H y (.type T) ∧ TyX K H y (.type T) ∧ ∀ (b D dy : Addr) (gs : List (Str × V)), y = .ref b → H b = some (.ins D dy gs) → False
theorem plain_lst {K : Fg} {H : Hp} {a : Addr} {xs : List V} (e : H a = some (.lst xs)) : Plain K H (.ref a) := ⟨"list", by decide, .lst e, .base (.lst e), fun b D dy gs q hb => by injection q with q; subst q; rw [e] at hb; cases hb⟩
theorem plain_tup {K : Fg} {H : Hp} {a : Addr} {xs : List V} (e : H a = some (.tup xs)) : Plain K H (.ref a) := ⟨"tuple", by decide, .tup e, .base (.tup e), fun b D dy gs q hb => by injection q with q; subst q; rw [e] at hb; cases hb⟩
theorem plain_str {K : Fg} {H : Hp} (z : Str) : Plain K H (.str z) := ⟨"str", by decide, .str z, .base (.str z), fun b D dy gs q => by cases q⟩
theorem plain_int {K : Fg} {H : Hp} (i : Int) : Plain K H (.int i) := ⟨"int", by decide, .int i, .base (.int i), fun b D dy gs q => by cases q⟩
theorem plain_non {K : Fg} {H : Hp} : Plain K H .non := ⟨"NoneType", by decide, .non, .base .non, fun b D dy gs q => by cases q⟩
theorem eq_plain {K : Fg} {H : Hp} {C a : Addr} {y : V} {p : Str → Bool} {Q : VK} (fa : FamAt K H C a p) (hy : Plain K H y) (k : Q (.bl false) H) : rEqA C (spEqF K C) (.ref a) y H Q := by
  obtain ⟨dx, qa, ha⟩ := fa.at
  obtain ⟨T, hT, t1, t2, no⟩ := hy
  exact ⟨a, dx, _, _, rfl, ha, t1, fun b D dy gs e hb => (no b D dy gs e hb).elim, a, y, p, rfl, fa, .inr ⟨T, hT, t2, _, rfl, k⟩⟩
theorem ne_plain {K : Fg} {H : Hp} {C a : Addr} {y : V} {p : Str → Bool} {Q : VK} (fa : FamAt K H C a p) (hy : Plain K H y) (k : Q (.bl true) H) : rNeA C (spEqF K C) (.ref a) y H Q := by
  obtain ⟨dx, qa, ha⟩ := fa.at
  obtain ⟨T, hT, t1, t2, no⟩ := hy
  exact ⟨a, dx, _, _, rfl, ha, t1, fun b D dy gs e hb => (no b D dy gs e hb).elim, a, y, p, rfl, fa, .inr ⟨T, hT, t2, _, rfl, k⟩⟩
theorem FamAt.keep {K : Fg} {H H' : Hp} {C a b : Addr} {p : Str → Bool} (k : Keep b H H') (B : BagAt H b) (f : FamAt K H C a p) : FamAt K H' C a p := by
  obtain ⟨dx, q, h1, h2⟩ := f
  obtain ⟨d, m, hb, _⟩ := B
  have go : ∀ c u, H c = some u → (∀ zs, u ≠ .lst zs) → H' c = some u := fun c u e n => k c u (fun q => by rw [q, hb] at e; injection e with e; exact n _ e.symm) e
  refine ⟨dx, q, go _ _ h1 (fun _ => by intro z; cases z), ?_⟩
  rcases h2 with (h | ⟨o, h⟩) | h
  · exact .inl (.inl (go _ _ h fun _ => by intro z; cases z))
  · exact .inl (.inr ⟨o, go _ _ h fun _ => by intro z; cases z⟩)
  · exact .inr h
theorem mk_go {K : Fg} {G : Hp} {C l a dx : Addr} {ws : List Str} (hl : G l = some (.lst (ws.map V.str))) (hn : ws.length ≤ 1000) (hin : Lics ws) (na : G a = none) (ndx : G dx = none) (nad : dx ≠ a) (R : VK) (E : XK)
    (k : ∀ H', Same G H' → FamAt K H' C a (fun x => ws.contains x) → R .non H') : spFam K C [.ref a, .ref l] (upd (upd G dx (.own a)) a (.ins C dx [])) R E := by
  obtain ⟨m1, m2⟩ := made (C := C) na ndx nad
  exact ⟨a, dx, l, false, ws, rfl, upd_same, SqL.of (m1 _ _ hl), hn, hin, fun H' kp fa => k H' (m2 H' kp) fa⟩
theorem cut_drop (xs : List V) : cutV xs (some 1) none = xs.drop 1 := by
  unfold cutV
  rw [show (some (1 : Int)) = some ((1 : Nat) : Int) from rfl, HT.sIx_nat, HT.sIx_none]
  rcases Nat.lt_or_ge xs.length 1 with h | h
  · have : xs = [] := List.length_eq_zero_iff.mp (by omega)
    subst this
    rfl
  · rw [Nat.min_eq_left h, List.take_of_length_le (by rw [List.length_drop]; exact Nat.le_refl _)]
section
variable {P : Program} {w : World} {K : Fg} {mg : Str → Option Value} {base : Heap}
def spLaw (K : Fg) : Sp := fun vs H Q _ => ∃ (a : Addr) (ns : List Int), vs = [.ref a] ∧ SqL K H a (ns.map V.int) ∧ ns.length ≤ 63 ∧ ∀ H', Q (.bl true) H'
theorem ok_law {f C : Addr} {fd : FuncData} (F : Fun K "law" "law" s_law f fd) (T : Cst K mg) (hC : FamC K C) (gL : mg "Family" = some (.ref C)) (nC : NeC K C) (sf : PySem.W.selfFirst K C = true) (O_Family : OkI P w K mg base 1 "Family" C ["self", "words"] (spFam K C)) (Oa : OkM CX0 P w K mg base 3 C "__and__" ["self", "other"] (spTwo K C and)) (Oo : OkM CX0 P w K mg base 3 C "__or__" ["self", "other"] (spTwo K C or))
    (Os : OkM CX0 P w K mg base 3 C "__sub__" ["self", "other"] (spTwo K C fun x y => x && !y)) (Oe : OkM CX0 P w K mg base 1 C "__eq__" ["self", "other"] (spEqF K C)) (Ol : OkM CX0 P w K mg base 1 C "__len__" ["self"] (spLenF K C)) (Ow : OkM CX0 P w K mg base 1 C "is_within" ["self", "other"] (spWithin K C)) (Orp : OkM CX0 P w K mg base 1 C "__repr__" ["self"] (spRepr K C))
    (O_law_bag : Ok P w K mg base 1 "_law_bag" ["script", "at"] (spBag K)) (O_law_of : Ok P w K mg base 2 "_law_of" ["bag", "some"] spOf) (O_law_licences : Ok P w K mg base 1 "_law_licences" [] spLics) (O_law_some : Ok P w K mg base 3 "_law_some" ["bag"] spSome)
    (O_law_sorted : Ok P w K mg base 2 "_law_sorted" ["words"] (spSorted K)) (O_law_has : Ok P w K mg base 3 "_law_has" ["family", "words"] (spHas K C))
    (O_law_signs_right : Ok P w K mg base 6 "_law_signs_right" ["one", "other", "first", "second"] (spSigns K C)) (O_law_three_right : Ok P w K mg base 6 "_law_three_right" ["one", "other", "third"] (spThree K C)) :
    FnOk P w K mg base CX0 7 f fd ["script"] (spLaw K) := by
  refine F.ok sc_law (fun vs H Q E h => ?_) (fun cdv A outer s H vs Q E hr h => ?_)
  · obtain ⟨a, ns, rfl, _⟩ := h
    rfl
  · obtain ⟨a, ns, rfl, hS, hlen, k⟩ := h
    refine ⟨_, (pss_cons (ps_for PassesOwn.never rfl (pi_range1 rfl T.n_range (pa_cons (pe_callB (call_max2 rfl) (by rfl) T.n_max (by decide +kernel) (pa_cons pe_int (pa_cons (pe_callB (call_min2 rfl) (by rfl) T.n_min (by decide +kernel) (pa_cons pe_int (pa_cons (pe_callB call_len_seq (by rfl) T.n_len (by decide +kernel) (pa_cons (pv 0) pa_nil)) pa_nil))) pa_nil))) pa_nil)) (pg_name (i := 1) sc_law.nd rfl (Or.inl rfl)) (pss_cons (ps_set (i := 2) sc_law.nd rfl (Or.inl rfl) (pe_callO O_law_bag (hr.mono (by decide)) (pa_cons (pv 0) (pa_cons (pv 1) pa_nil))))
    (pss_one (ps_for PassesOwn.never rfl (pi_range1 rfl T.n_range (pa_cons pe_int pa_nil)) (pg_name (i := 3) sc_law.nd rfl (Or.inl rfl)) (pss_cons (ps_par (i := 4) (j := 5) (by rfl) sc_law.nd rfl rfl (by decide) rfl rfl (pa_cons (pe_callO O_law_some (hr.mono (by decide)) (pa_cons (pv 2) pa_nil)) (pa_cons (pe_callO O_law_some (hr.mono (by decide)) (pa_cons (pv 2) pa_nil)) pa_nil)) (by rfl))
    (pss_cons (ps_set (i := 5) sc_law.nd rfl (Or.inl rfl) (pe_callO O_law_of (hr.mono (by decide)) (pa_cons (pv 2) (pa_cons (pe_lst (pa_cons (pv 5) (pa_cons (pv 5) (pa_cons (pe_callTy call_list_of (by rfl) T.n_list (by decide +kernel) (pa_cons (pv 4) pa_nil)) (pa_cons (pe_lst pa_nil) (pa_cons (pe_callO0 O_law_licences (hr.mono (by decide))) (pa_cons (pe_slice sl_list (pv 4) (po_some pe_int) po_none) pa_nil))))))) pa_nil))))
    (pss_cons (ps_par3 (i := 6) (j := 7) (l := 8) (by rfl) sc_law.nd rfl rfl rfl (by decide) (by decide) (by decide) rfl rfl rfl (pa_cons (pe_makeO O_Family (hr.mono (by decide)) (pa_cons (pv 4) pa_nil)) (pa_cons (pe_makeO O_Family (hr.mono (by decide)) (pa_cons (pv 5) pa_nil)) (pa_cons (pe_makeO O_Family (hr.mono (by decide)) (pa_cons (pe_callO O_law_some (hr.mono (by decide)) (pa_cons (pv 2) pa_nil)) pa_nil)) pa_nil))) (by rfl))
    (pss_cons (ps_if (PW.pt (pw_or (pt_not (pt_val (pe_callO O_law_signs_right (hr.mono (by decide)) (pa_cons (pv 6) (pa_cons (pv 7) (pa_cons (pv 4) (pa_cons (pv 5) pa_nil))))))) (pw_or1 (pt_not (pt_val (pe_callO O_law_signs_right (hr.mono (by decide)) (pa_cons (pv 7) (pa_cons (pv 6) (pa_cons (pv 5) (pa_cons (pv 4) pa_nil)))))))))) (pss_one (ps_ret pe_bl)) pss_nil)
    (pss_cons (ps_if (PW.pt (pw_or (pt_not (pt_val (pe_callO O_law_three_right (hr.mono (by decide)) (pa_cons (pv 6) (pa_cons (pv 7) (pa_cons (pv 8) pa_nil)))))) (pw_or1 (pt_not (pt_val (pe_callO O_law_three_right (hr.mono (by decide)) (pa_cons (pv 8) (pa_cons (pv 6) (pa_cons (pv 7) pa_nil))))))))) (pss_one (ps_ret pe_bl)) pss_nil)
    (pss_cons (ps_if (PW.pt (pw_or (pt_not (pt_val (pe_callO O_law_has (hr.mono (by decide)) (pa_cons (pv 6) (pa_cons (pv 4) pa_nil))))) (pw_or1 (pt_not (pt_val (pe_callO O_law_has (hr.mono (by decide)) (pa_cons (pv 7) (pa_cons (pv 5) pa_nil)))))))) (pss_one (ps_ret pe_bl)) pss_nil)
    (pss_one (ps_for PassesOwn.never rfl (pi_list (pe_lst (pa_cons (pv 4) (pa_cons (pe_callTy call_tuple_of (by rfl) T.n_tuple (by decide +kernel) (pa_cons (pe_callO O_law_sorted (hr.mono (by decide)) (pa_cons (pv 4) pa_nil)) pa_nil)) (pa_cons (pe_callB (call_reprO Orp (hr.mono (by decide))) (by rfl) T.n_repr (by decide +kernel) (pa_cons (pv 6) pa_nil)) (pa_cons pe_non (pa_cons pe_int (pa_cons (pe_callB (call_lenO Ol (hr.mono (by decide))) (by rfl) T.n_len (by decide +kernel) (pa_cons (pv 6) pa_nil)) pa_nil)))))))) (pg_name (i := 9) sc_law.nd rfl (Or.inl rfl)) (pss_one (ps_if (PW.pt (pw_or (pt_cmpR (op_eqA Oe (hr.mono (by decide))) (pv 6) (pv 9) (nomark _)) (pw_or1 (pt_not (pt_cmpR (op_neA Oe nC (hr.mono (by decide))) (pv 6) (pv 9) (nomark _)))))) (pss_one (ps_ret pe_bl)) pss_nil))))))))))))))
    (pss_one (ps_ret pe_bl))), ?_⟩
    have hN : ∀ m : Int, m = (if (ns.map V.int).length < (4 : Int) then ((ns.map V.int).length : Int) else 4) → 1 ≤ (if m > 1 then m else 1) ∧ (if m > 1 then m else 1) ≤ 4 := fun m hm => by
      have q : m ≤ 4 := by rw [hm]; split <;> omega
      split <;> omega
    obtain ⟨n1, n5⟩ := hN _ rfl
    refine ⟨_, rfl, a, _, rfl, .inl hS, _, _, rfl, _, _, rfl, _, rfl, by omega, by omega, ?_⟩
    refine for_range (lo := 0) (fun i σ G => Same H G ∧ ∃ u1 u2 u3 u4 u5 u6 u7 u8 u9 : Option V, σ = [some (.ref a), u1, u2, u3, u4, u5, u6, u7, u8, u9]) ⟨Same.refl _, none, none, none, none, none, none, none, none, none, rfl⟩ ?_ ?_
    · rintro i σ G hi ⟨S0, u1, u2, u3, u4, u5, u6, u7, u8, u9, rfl⟩
      refine ⟨_, rfl, _, rfl, a, ns, i, by simp, S0.seq hS, by omega, fun b G1 nb S1 B1 => ?_⟩
      have nbH : H b = none := S0.free nb
      have sH1 := S0.trans S1
      refine ⟨6, rfl, by decide, by decide, for_range (lo := 0) (n := 6) (fun j σ G2 => Keep b H G2 ∧ BagAt G2 b ∧ ∃ u3 u4 u5 u6 u7 u8 u9 : Option V, σ = [some (.ref a), some (.int (0 + (i : Nat))), some (.ref b), u3, u4, u5, u6, u7, u8, u9]) ⟨Keep.of sH1, B1, u3, u4, u5, u6, u7, u8, u9, rfl⟩ ?_ ?_⟩
      · rintro j σ G2 hj ⟨k2, B2, u3, u4, u5, u6, u7, u8, u9, rfl⟩
        refine ⟨_, rfl, b, rfl, B2, fun l1 fw G3 k3 B3 nl1 l1b h1 n1 i1 => ⟨_, rfl, b, rfl, B3, fun l2 sw G4 k4 B4 nl2 l2b h2 n2 i2 => ⟨_, _, rfl, ?_⟩⟩⟩
        have h1 : StrsAt G4 l1 fw := k4 _ _ l1b h1
        have k24 := k2.trans (k3.trans k4)
        clear k3 k4 B3 B2 k2
        refine ⟨_, rfl, _, rfl, _, rfl, _, rfl, l1, _, rfl, .inl (SqL.of h1), fun c1 nc1 => ⟨by show 0 ≤ sizeLine; decide, fun c2 nc2 => ⟨rfl, fun c3 nc3 => ?_⟩⟩⟩
        have hc1 : StrsAt (upd G4 c1 (.lst (fw.map V.str))) c1 fw := upd_same
        have s5 : Same G4 (upd G4 c1 (.lst (fw.map V.str))) := same_upd nc1
        generalize upd G4 c1 (.lst (fw.map V.str)) = G5 at hc1 s5 nc2 nc3
        have hc2 : StrsAt (upd G5 c2 (.lst [])) c2 [] := upd_same
        have s6 : Same G5 (upd G5 c2 (.lst [])) := same_upd nc2
        generalize upd G5 c2 (.lst []) = G6 at hc2 s6 nc3
        have hc3 : StrsAt (upd G6 c3 (.lst (lic.map V.str))) c3 lic := upd_same
        have s7 : Same G6 (upd G6 c3 (.lst (lic.map V.str))) := same_upd nc3
        generalize upd G6 c3 (.lst (lic.map V.str)) = G7 at hc3 s7
        have s47 := s5.trans (s6.trans s7)
        refine ⟨_, rfl, 1, rfl, l1, _, rfl, SqL.of (s47 _ _ h1), fun c4 nc4 => ⟨by show 6 ≤ sizeLine; decide, fun c5 nc5 => ?_⟩⟩
        have hc4 : StrsAt (upd G7 c4 (.lst (cutV (fw.map V.str) (some 1) none))) c4 (fw.drop 1) := by
          show upd G7 c4 _ c4 = _
          rw [upd_same, cut_drop, ← List.map_drop]
        have s8 : Same G7 (upd G7 c4 (.lst (cutV (fw.map V.str) (some 1) none))) := same_upd nc4
        generalize upd G7 c4 (.lst (cutV (fw.map V.str) (some 1) none)) = G8 at hc4 s8 nc5
        have s9 : Same G8 (upd G8 c5 (.lst [.ref l2, .ref l2, .ref c1, .ref c2, .ref c3, .ref c4])) := same_upd nc5
        have hc5 : upd G8 c5 (.lst [.ref l2, .ref l2, .ref c1, .ref c2, .ref c3, .ref c4]) c5 = some (.lst [.ref l2, .ref l2, .ref c1, .ref c2, .ref c3, .ref c4]) := upd_same
        generalize upd G8 c5 (.lst [.ref l2, .ref l2, .ref c1, .ref c2, .ref c3, .ref c4]) = G9 at hc5 s9
        have s49 := s47.trans (s8.trans s9)
        have B9 := B4.same s49
        have c5b : c5 ≠ b := B4.ne (s47.free (s8.free nc5))
        refine ⟨b, c5, _, rfl, B9, hc5, c5b, by show 0 < 6; decide, by show 6 ≤ 1000; decide, fun x G10 hx k10 B10 => ?_⟩
        have il : Lics lic := fun w hw => List.contains_iff_mem.mpr hw
        obtain ⟨q, sw', rfl, hq, nq, iq, qb⟩ : ∃ q sw', x = V.ref q ∧ StrsAt G9 q sw' ∧ sw'.length ≤ 100 ∧ Lics sw' ∧ q ≠ b := by
          simp only [List.mem_cons, List.not_mem_nil, or_false] at hx
          rcases hx with rfl | rfl | rfl | rfl | rfl | rfl
          · exact ⟨l2, sw, rfl, s49 _ _ h2, by omega, i2, l2b⟩
          · exact ⟨l2, sw, rfl, s49 _ _ h2, by omega, i2, l2b⟩
          · exact ⟨c1, fw, rfl, s9 _ _ (s8 _ _ (s7 _ _ (s6 _ _ hc1))), by omega, i1, B4.ne nc1⟩
          · exact ⟨c2, [], rfl, s9 _ _ (s8 _ _ (s7 _ _ hc2)), by decide, (fun w hw => by cases hw), B4.ne (s5.free nc2)⟩
          · exact ⟨c3, lic, rfl, s9 _ _ (s8 _ _ hc3), by decide, il, B4.ne (s5.free (s6.free nc3))⟩
          · exact ⟨c4, fw.drop 1, rfl, s9 _ _ hc4, by rw [List.length_drop]; omega, fun w hw => i1 w (List.mem_of_mem_drop hw), B4.ne (s47.free nc4)⟩
        have h1 : StrsAt G10 l1 fw := k10 _ _ l1b (s49 _ _ h1)
        have hq : StrsAt G10 q sw' := k10 _ _ qb hq
        have k210 := (k24.same s49).trans k10
        clear hx hc1 hc2 hc3 hc4 hc5 s5 s6 s7 s8 s9 s47 nc1 nc2 nc3 nc4 nc5 h2 i2 n2 k10 B9 B4 k24 c5b s49 nl2 l2b
        refine ⟨_, rfl, fun f1 dx1 nf1 nd1 ne1 => mk_go h1 (by omega) i1 nf1 nd1 ne1 _ _ fun G11 s11 e1 => ⟨rfl, ?_⟩⟩
        refine ⟨_, rfl, fun f2 dx2 nf2 nd2 ne2 => mk_go (s11 _ _ hq) (by omega) iq nf2 nd2 ne2 _ _ fun G12 s12 e2 => ⟨rfl, ?_⟩⟩
        have s1012 := s11.trans s12
        have B12 := B10.same s1012
        refine ⟨_, rfl, b, rfl, B12, fun l3 tw G13 k13 B13 nl3 l3b h3 n3 i3 => fun f3 dx3 nf3 nd3 ne3 => mk_go h3 (by omega) i3 nf3 nd3 ne3 _ _ fun G14 s14 e3 => ⟨rfl, ?_⟩⟩
        have e1 := ((e1.same s12).keep k13 B12).same s14
        have e2 := (e2.keep k13 B12).same s14
        have h1 : StrsAt G14 l1 fw := s14 _ _ (k13 _ _ l1b (s1012 _ _ h1))
        have hq : StrsAt G14 q sw' := s14 _ _ (k13 _ _ qb (s1012 _ _ hq))
        have k214 := ((k210.same s1012).trans k13).same s14
        have B14 := B13.same s14
        clear s11 s12 s14 k13 B12 B13 s1012 k210 B10 h3 n3 i3 nl3 l3b
        refine ⟨_, _, _, rfl, ?_⟩
        refine ⟨_, rfl, _, rfl, _, rfl, _, rfl, f1, f2, l1, q, fw, sw', rfl, e1, e2, h1, hq, by omega, nq, i1, iq, fun G15 s15 => ⟨_, rfl, iteF ?_⟩⟩
        have h1 : StrsAt G15 l1 fw := s15 _ _ h1
        have hq : StrsAt G15 q sw' := s15 _ _ hq
        refine ⟨_, rfl, _, rfl, _, rfl, _, rfl, f2, f1, q, l1, sw', fw, rfl, e2.same s15, e1.same s15, hq, h1, nq, by omega, iq, i1, fun G16 s16 => ⟨_, rfl, iteF ?_⟩⟩
        have s1416 := s15.trans s16
        refine ⟨_, rfl, _, rfl, _, rfl, f1, f2, f3, _, _, _, rfl, e1.same s1416, e2.same s1416, e3.same s1416, fun G17 s17 => ⟨_, rfl, iteF ?_⟩⟩
        have s1417 := s1416.trans s17
        refine ⟨_, rfl, _, rfl, _, rfl, f3, f1, f2, _, _, _, rfl, e3.same s1417, e1.same s1417, e2.same s1417, fun G18 s18 => ⟨_, rfl, iteF ?_⟩⟩
        have s1418 := s1417.trans s18
        have h1 : StrsAt G18 l1 fw := (s16.trans (s17.trans s18)) _ _ h1
        have hq : StrsAt G18 q sw' := (s16.trans (s17.trans s18)) _ _ hq
        refine ⟨_, rfl, _, rfl, f1, l1, _, fw, rfl, e1.same s1418, SqL.of h1, by omega, i1, (fun _ _ => rfl), fun G19 s19 => ⟨_, rfl, iteF ?_⟩⟩
        refine ⟨_, rfl, _, rfl, f2, q, _, sw', rfl, (e2.same s1418).same s19, SqL.of (s19 _ _ hq), by omega, iq, (fun _ _ => rfl), fun G20 s20 => ⟨_, rfl, iteF ?_⟩⟩
        have s1420 := s1418.trans (s19.trans s20)
        have e1 := e1.same s1420
        have h1 : StrsAt G20 l1 fw := (s19.trans s20) _ _ h1
        have k220 := k214.same s1420
        have B20 := B14.same s1420
        clear s15 s16 s17 s18 s19 s20 s1416 s1417 s1418 s1420 e2 e3 hq k214 B14
        refine ⟨_, rfl, _, rfl, l1, fw, rfl, SqL.of h1, fun p G21 s21 np hp => ⟨p, _, rfl, .inl ⟨SqL.of hp, fun t nt => ?_⟩⟩⟩
        have s22 := s21.trans (same_upd (o := .tup ((famW fun x => fw.contains x).map V.str)) nt)
        have ht : upd G21 t (.tup ((famW fun x => fw.contains x).map V.str)) t = some (.tup ((famW fun x => fw.contains x).map V.str)) := upd_same
        generalize upd G21 t (.tup ((famW fun x => fw.contains x).map V.str)) = G22 at s22 ht
        have e1 := e1.same s22
        have h1 : StrsAt G22 l1 fw := s22 _ _ h1
        obtain ⟨d1, q1, a1⟩ := e1.at
        refine ⟨_, rfl, f1, d1, _, rfl, a1, f1, _, rfl, e1, ⟨_, rfl, ?_⟩⟩
        refine ⟨_, rfl, f1, d1, _, rfl, a1, f1, _, rfl, e1, ⟨_, rfl, Int.natCast_nonneg _, by have := famW_le fun l => fw.contains l; omega, ?_⟩⟩
        refine ⟨by show 6 ≤ sizeLine; decide, fun m nm => ⟨m, rfl, ⟨_, SqL.of upd_same⟩, ?_⟩⟩
        have s23 := same_upd (o := .lst [.ref l1, .ref t, .str (famR fun l => fw.contains l), .non, .int 0, .int ((famW fun l => fw.contains l).length : Nat)]) nm
        have hm : upd G22 m (.lst [.ref l1, .ref t, .str (famR fun l => fw.contains l), .non, .int 0, .int ((famW fun l => fw.contains l).length : Nat)]) m = some (.lst [.ref l1, .ref t, .str (famR fun l => fw.contains l), .non, .int 0, .int ((famW fun l => fw.contains l).length : Nat)]) := upd_same
        generalize upd G22 m (.lst [.ref l1, .ref t, .str (famR fun l => fw.contains l), .non, .int 0, .int ((famW fun l => fw.contains l).length : Nat)]) = G23 at s23 hm
        have e1 := e1.same s23
        have pl : ∀ y ∈ ([.ref l1, .ref t, .str (famR fun l => fw.contains l), .non, .int 0, .int ((famW fun l => fw.contains l).length : Nat)] : List V), Plain K G23 y := by
          intro y hy
          simp only [List.mem_cons, List.not_mem_nil, or_false] at hy
          rcases hy with rfl | rfl | rfl | rfl | rfl | rfl
          · exact plain_lst (s23 _ _ h1)
          · exact plain_tup (s23 _ _ ht)
          · exact plain_str _
          · exact plain_non
          · exact plain_int _
          · exact plain_int _
        refine for_list (xs := [.ref l1, .ref t, .str (famR fun l => fw.contains l), .non, .int 0, .int ((famW fun l => fw.contains l).length : Nat)]) (fun i2 σ G => G = G23 ∧ ∃ u9 : Option V, σ = [some (.ref a), some (.int (0 + (i : Nat))), some (.ref b), some (.int (0 + (j : Nat))), some (.ref l1), some (.ref q), some (.ref f1), some (.ref f2), some (.ref f3), u9]) ⟨rfl, _, rfl⟩
          (fun i2 σ G _ z => z.1 ▸ SqL.of hm) ?_ ?_
        · rintro i2 x σ G hx ⟨rfl, u9, rfl⟩
          have px := pl x (List.mem_of_getElem? hx)
          exact ⟨_, rfl, _, rfl, eq_plain e1 px ⟨_, rfl, iteF ⟨_, rfl, _, rfl, ne_plain e1 px ⟨_, rfl, iteF ⟨rfl, _, rfl⟩⟩⟩⟩⟩
        · rintro σ G ⟨rfl, u9, rfl⟩
          exact ⟨(k220.same s22).same s23, (B20.same s22).same s23, _, _, _, _, _, _, _, rfl⟩
      · rintro σ G2 ⟨k2, B2, u3, u4, u5, u6, u7, u8, u9, rfl⟩
        exact ⟨fun p x z => k2 p x (fun e => by rw [e, nbH] at z; cases z) z, _, _, _, _, _, _, _, _, _, rfl⟩
    · rintro σ G ⟨S0, u1, u2, u3, u4, u5, u6, u7, u8, u9, rfl⟩
      exact k G
end
end K87

namespace K87
open PySem PySem.Spec PyProof.Rows L2 EV TL LM
abbrev veT : List Value := [.type "ValueError", .type "Exception", .type "BaseException", .type "object"]
abbrev leT : List Value := [.type "LookupError", .type "Exception", .type "BaseException", .type "object"]
/-- the values are these texts -/
def strsIn : List Value → List Str → Bool
  | [], [] => true
  | .str z _ :: us, w :: ws => z == w && strsIn us ws
  | _, _ => false
theorem strs_vals : ∀ {us : List Value} {ws : List Str}, strsIn us ws = true → Vals (ws.map V.str) us
  | [], [], _ => .nil
  | [], _ :: _, h => by simp [strsIn] at h
  | u :: us, [], h => by cases u <;> simp [strsIn] at h
  | u :: us, w :: ws, h => by
    cases u <;> simp [strsIn] at h
    obtain ⟨h1, h2⟩ := h
    subst h1
    exact .cons ⟨_, rfl⟩ (strs_vals h2)
theorem tupk_of {K : Fg} {a : Addr} {od : Option Addr} {its : Array Value} {n : Nat} {sl : Array (Option Value)} {ws : List Str} (l : K.lookup a = some ⟨.type "tuple", od, .seq its n, sl⟩) (o : strsIn its.toList ws = true) (hl : ws.length ≤ sizeLine) : TupK K a (ws.map V.str) := by
  have v := strs_vals o
  refine ⟨_, _, _, l, rfl, rfl, ?_, v⟩
  have := v.length
  rw [List.length_map] at this
  show its.toList.length ≤ _
  omega
theorem all_mk {l : PySem.W.OpenLaw} {w : World} {K : Fg} {h : Heap} {mg : Str → Option Value} {fa : Addr} (X : K.In h) (G : h.Ns mainGlobals mg) (hfa : mg "law" = some (.ref fa))
    {C_Family g_Family___init__ g_Family___and__ g_Family___sub__ g_Family___or__ g_Family_is_within g_Family___len__ g_Family___eq__ g_Family___repr__ g__law_take g__law_bag g__law_of g__law_licences g__law_some g__law_sorted g__law_has g__law_three_right g__law_signs_right g_law v_FamilyLICENCES : Addr}
    {od_Family___init__ an_Family___init__ od_Family___and__ an_Family___and__ od_Family___sub__ an_Family___sub__ od_Family___or__ an_Family___or__ od_Family_is_within an_Family_is_within od_Family___len__ an_Family___len__ od_Family___eq__ an_Family___eq__ od_Family___repr__ an_Family___repr__ od__law_take an__law_take od__law_bag an__law_bag od__law_of an__law_of od__law_licences an__law_licences od__law_some an__law_some od__law_sorted an__law_sorted od__law_has an__law_has od__law_three_right an__law_three_right od__law_signs_right an__law_signs_right od_law an_law od_FamilyLICENCES : Option Addr}
    {sl_Family___init__ sl_Family___and__ sl_Family___sub__ sl_Family___or__ sl_Family_is_within sl_Family___len__ sl_Family___eq__ sl_Family___repr__ sl__law_take sl__law_bag sl__law_of sl__law_licences sl__law_some sl__law_sorted sl__law_has sl__law_three_right sl__law_signs_right sl_law sl_FamilyLICENCES : Array (Option Value)}
    {oc_Family___init__ dc_Family___init__ pm_Family___init__ cd_Family___init__ ct_Family___init__ kV_Family___init__ oc_Family___and__ dc_Family___and__ pm_Family___and__ cd_Family___and__ ct_Family___and__ kV_Family___and__ oc_Family___sub__ dc_Family___sub__ pm_Family___sub__ cd_Family___sub__ ct_Family___sub__ kV_Family___sub__ oc_Family___or__ dc_Family___or__ pm_Family___or__ cd_Family___or__ ct_Family___or__ kV_Family___or__ oc_Family_is_within dc_Family_is_within pm_Family_is_within cd_Family_is_within ct_Family_is_within kV_Family_is_within oc_Family___len__ dc_Family___len__ pm_Family___len__ cd_Family___len__ ct_Family___len__ kV_Family___len__ oc_Family___eq__ dc_Family___eq__ pm_Family___eq__ cd_Family___eq__ ct_Family___eq__ kV_Family___eq__ oc_Family___repr__ dc_Family___repr__ pm_Family___repr__ cd_Family___repr__ ct_Family___repr__ kV_Family___repr__ oc__law_take dc__law_take pm__law_take cd__law_take ct__law_take kV__law_take oc__law_bag dc__law_bag pm__law_bag cd__law_bag ct__law_bag kV__law_bag oc__law_of dc__law_of pm__law_of cd__law_of ct__law_of kV__law_of oc__law_licences dc__law_licences pm__law_licences cd__law_licences ct__law_licences kV__law_licences oc__law_some dc__law_some pm__law_some cd__law_some ct__law_some kV__law_some oc__law_sorted dc__law_sorted pm__law_sorted cd__law_sorted ct__law_sorted kV__law_sorted oc__law_has dc__law_has pm__law_has cd__law_has ct__law_has kV__law_has oc__law_three_right dc__law_three_right pm__law_three_right cd__law_three_right ct__law_three_right kV__law_three_right oc__law_signs_right dc__law_signs_right pm__law_signs_right cd__law_signs_right ct__law_signs_right kV__law_signs_right oc_law dc_law pm_law cd_law ct_law kV_law : Value}
    {it_FamilyLICENCES : Array Value}
    {n_FamilyLICENCES : Nat}
    (a_Family : PySem.W.nsIn K mainGlobals "Family" = some (some (.ref C_Family)))
    (a__law_take : PySem.W.nsIn K mainGlobals "_law_take" = some (some (.ref g__law_take)))
    (a__law_bag : PySem.W.nsIn K mainGlobals "_law_bag" = some (some (.ref g__law_bag)))
    (a__law_of : PySem.W.nsIn K mainGlobals "_law_of" = some (some (.ref g__law_of)))
    (a__law_licences : PySem.W.nsIn K mainGlobals "_law_licences" = some (some (.ref g__law_licences)))
    (a__law_some : PySem.W.nsIn K mainGlobals "_law_some" = some (some (.ref g__law_some)))
    (a__law_sorted : PySem.W.nsIn K mainGlobals "_law_sorted" = some (some (.ref g__law_sorted)))
    (a__law_has : PySem.W.nsIn K mainGlobals "_law_has" = some (some (.ref g__law_has)))
    (a__law_three_right : PySem.W.nsIn K mainGlobals "_law_three_right" = some (some (.ref g__law_three_right)))
    (a__law_signs_right : PySem.W.nsIn K mainGlobals "_law_signs_right" = some (some (.ref g__law_signs_right)))
    (a_law : PySem.W.nsIn K mainGlobals "law" = some (some (.ref g_law)))
    (z_isinstance : PySem.W.nsIn K mainGlobals "isinstance" = some none)
    (z_list : PySem.W.nsIn K mainGlobals "list" = some none)
    (z_tuple : PySem.W.nsIn K mainGlobals "tuple" = some none)
    (z_int : PySem.W.nsIn K mainGlobals "int" = some none)
    (z_str : PySem.W.nsIn K mainGlobals "str" = some none)
    (z_bool : PySem.W.nsIn K mainGlobals "bool" = some none)
    (z_len : PySem.W.nsIn K mainGlobals "len" = some none)
    (z_abs : PySem.W.nsIn K mainGlobals "abs" = some none)
    (z_max : PySem.W.nsIn K mainGlobals "max" = some none)
    (z_min : PySem.W.nsIn K mainGlobals "min" = some none)
    (z_range : PySem.W.nsIn K mainGlobals "range" = some none)
    (z_enumerate : PySem.W.nsIn K mainGlobals "enumerate" = some none)
    (z_all : PySem.W.nsIn K mainGlobals "all" = some none)
    (z_ValueError : PySem.W.nsIn K mainGlobals "ValueError" = some none)
    (z_LookupError : PySem.W.nsIn K mainGlobals "LookupError" = some none)
    (z_KeyError : PySem.W.nsIn K mainGlobals "KeyError" = some none)
    (z_IndexError : PySem.W.nsIn K mainGlobals "IndexError" = some none)
    (z_repr : PySem.W.nsIn K mainGlobals "repr" = some none)
    (sa_Family : PySem.W.findIn K (.ref C_Family) "__setattr__" = some (some (.builtin "object.__setattr__")))
    (nA_Family_0 : PySem.W.findIn K (.ref C_Family) "words" = some none)
    (i_Family___init__ : PySem.W.findIn K (.ref C_Family) "__init__" = some (some (.ref g_Family___init__)))
    (m_Family___and__ : PySem.W.findIn K (.ref C_Family) "__and__" = some (some (.ref g_Family___and__)))
    (m_Family___sub__ : PySem.W.findIn K (.ref C_Family) "__sub__" = some (some (.ref g_Family___sub__)))
    (m_Family___or__ : PySem.W.findIn K (.ref C_Family) "__or__" = some (some (.ref g_Family___or__)))
    (m_Family_is_within : PySem.W.findIn K (.ref C_Family) "is_within" = some (some (.ref g_Family_is_within)))
    (m_Family___len__ : PySem.W.findIn K (.ref C_Family) "__len__" = some (some (.ref g_Family___len__)))
    (haI_Family : PySem.W.findIn K (.ref C_Family) "__class__" = some (some (.builtin "object.__class__")))
    (m_Family___eq__ : PySem.W.findIn K (.ref C_Family) "__eq__" = some (some (.ref g_Family___eq__)))
    (m_Family___repr__ : PySem.W.findIn K (.ref C_Family) "__repr__" = some (some (.ref g_Family___repr__)))
    (ne_Family : PySem.W.findIn K (.ref C_Family) "__ne__" = some (some (.builtin "object.__ne__")))
    (fc_Family_LICENCES : PySem.W.findCls K (.ref C_Family) (.type "type") "LICENCES" = some (.val (.ref v_FamilyLICENCES)))
    (l_Family___init__ : K.lookup g_Family___init__ = some ⟨oc_Family___init__, od_Family___init__, .func (PySem.W.fnOf "__init__" "Family.__init__" (defArgs s_Family___init__) (defBody s_Family___init__) (defScope s_Family___init__) .none kV_Family___init__ dc_Family___init__ pm_Family___init__ an_Family___init__ cd_Family___init__ ct_Family___init__), sl_Family___init__⟩)
    (l_Family___and__ : K.lookup g_Family___and__ = some ⟨oc_Family___and__, od_Family___and__, .func (PySem.W.fnOf "__and__" "Family.__and__" (defArgs s_Family___and__) (defBody s_Family___and__) (defScope s_Family___and__) .none kV_Family___and__ dc_Family___and__ pm_Family___and__ an_Family___and__ cd_Family___and__ ct_Family___and__), sl_Family___and__⟩)
    (l_Family___sub__ : K.lookup g_Family___sub__ = some ⟨oc_Family___sub__, od_Family___sub__, .func (PySem.W.fnOf "__sub__" "Family.__sub__" (defArgs s_Family___sub__) (defBody s_Family___sub__) (defScope s_Family___sub__) .none kV_Family___sub__ dc_Family___sub__ pm_Family___sub__ an_Family___sub__ cd_Family___sub__ ct_Family___sub__), sl_Family___sub__⟩)
    (l_Family___or__ : K.lookup g_Family___or__ = some ⟨oc_Family___or__, od_Family___or__, .func (PySem.W.fnOf "__or__" "Family.__or__" (defArgs s_Family___or__) (defBody s_Family___or__) (defScope s_Family___or__) .none kV_Family___or__ dc_Family___or__ pm_Family___or__ an_Family___or__ cd_Family___or__ ct_Family___or__), sl_Family___or__⟩)
    (l_Family_is_within : K.lookup g_Family_is_within = some ⟨oc_Family_is_within, od_Family_is_within, .func (PySem.W.fnOf "is_within" "Family.is_within" (defArgs s_Family_is_within) (defBody s_Family_is_within) (defScope s_Family_is_within) .none kV_Family_is_within dc_Family_is_within pm_Family_is_within an_Family_is_within cd_Family_is_within ct_Family_is_within), sl_Family_is_within⟩)
    (l_Family___len__ : K.lookup g_Family___len__ = some ⟨oc_Family___len__, od_Family___len__, .func (PySem.W.fnOf "__len__" "Family.__len__" (defArgs s_Family___len__) (defBody s_Family___len__) (defScope s_Family___len__) .none kV_Family___len__ dc_Family___len__ pm_Family___len__ an_Family___len__ cd_Family___len__ ct_Family___len__), sl_Family___len__⟩)
    (l_Family___eq__ : K.lookup g_Family___eq__ = some ⟨oc_Family___eq__, od_Family___eq__, .func (PySem.W.fnOf "__eq__" "Family.__eq__" (defArgs s_Family___eq__) (defBody s_Family___eq__) (defScope s_Family___eq__) .none kV_Family___eq__ dc_Family___eq__ pm_Family___eq__ an_Family___eq__ cd_Family___eq__ ct_Family___eq__), sl_Family___eq__⟩)
    (l_Family___repr__ : K.lookup g_Family___repr__ = some ⟨oc_Family___repr__, od_Family___repr__, .func (PySem.W.fnOf "__repr__" "Family.__repr__" (defArgs s_Family___repr__) (defBody s_Family___repr__) (defScope s_Family___repr__) .none kV_Family___repr__ dc_Family___repr__ pm_Family___repr__ an_Family___repr__ cd_Family___repr__ ct_Family___repr__), sl_Family___repr__⟩)
    (l__law_take : K.lookup g__law_take = some ⟨oc__law_take, od__law_take, .func (PySem.W.fnOf "_law_take" "_law_take" (defArgs s_law_take) (defBody s_law_take) (defScope s_law_take) .none kV__law_take dc__law_take pm__law_take an__law_take cd__law_take ct__law_take), sl__law_take⟩)
    (l__law_bag : K.lookup g__law_bag = some ⟨oc__law_bag, od__law_bag, .func (PySem.W.fnOf "_law_bag" "_law_bag" (defArgs s_law_bag) (defBody s_law_bag) (defScope s_law_bag) .none kV__law_bag dc__law_bag pm__law_bag an__law_bag cd__law_bag ct__law_bag), sl__law_bag⟩)
    (l__law_of : K.lookup g__law_of = some ⟨oc__law_of, od__law_of, .func (PySem.W.fnOf "_law_of" "_law_of" (defArgs s_law_of) (defBody s_law_of) (defScope s_law_of) .none kV__law_of dc__law_of pm__law_of an__law_of cd__law_of ct__law_of), sl__law_of⟩)
    (l__law_licences : K.lookup g__law_licences = some ⟨oc__law_licences, od__law_licences, .func (PySem.W.fnOf "_law_licences" "_law_licences" (defArgs s_law_licences) (defBody s_law_licences) (defScope s_law_licences) .none kV__law_licences dc__law_licences pm__law_licences an__law_licences cd__law_licences ct__law_licences), sl__law_licences⟩)
    (l__law_some : K.lookup g__law_some = some ⟨oc__law_some, od__law_some, .func (PySem.W.fnOf "_law_some" "_law_some" (defArgs s_law_some) (defBody s_law_some) (defScope s_law_some) .none kV__law_some dc__law_some pm__law_some an__law_some cd__law_some ct__law_some), sl__law_some⟩)
    (l__law_sorted : K.lookup g__law_sorted = some ⟨oc__law_sorted, od__law_sorted, .func (PySem.W.fnOf "_law_sorted" "_law_sorted" (defArgs s_law_sorted) (defBody s_law_sorted) (defScope s_law_sorted) .none kV__law_sorted dc__law_sorted pm__law_sorted an__law_sorted cd__law_sorted ct__law_sorted), sl__law_sorted⟩)
    (l__law_has : K.lookup g__law_has = some ⟨oc__law_has, od__law_has, .func (PySem.W.fnOf "_law_has" "_law_has" (defArgs s_law_has) (defBody s_law_has) (defScope s_law_has) .none kV__law_has dc__law_has pm__law_has an__law_has cd__law_has ct__law_has), sl__law_has⟩)
    (l__law_three_right : K.lookup g__law_three_right = some ⟨oc__law_three_right, od__law_three_right, .func (PySem.W.fnOf "_law_three_right" "_law_three_right" (defArgs s_law_three_right) (defBody s_law_three_right) (defScope s_law_three_right) .none kV__law_three_right dc__law_three_right pm__law_three_right an__law_three_right cd__law_three_right ct__law_three_right), sl__law_three_right⟩)
    (l__law_signs_right : K.lookup g__law_signs_right = some ⟨oc__law_signs_right, od__law_signs_right, .func (PySem.W.fnOf "_law_signs_right" "_law_signs_right" (defArgs s_law_signs_right) (defBody s_law_signs_right) (defScope s_law_signs_right) .none kV__law_signs_right dc__law_signs_right pm__law_signs_right an__law_signs_right cd__law_signs_right ct__law_signs_right), sl__law_signs_right⟩)
    (l_law : K.lookup g_law = some ⟨oc_law, od_law, .func (PySem.W.fnOf "law" "law" (defArgs s_law) (defBody s_law) (defScope s_law) .none kV_law dc_law pm_law an_law cd_law ct_law), sl_law⟩)
    (l_FamilyLICENCES : K.lookup v_FamilyLICENCES = some ⟨.type "tuple", od_FamilyLICENCES, .seq it_FamilyLICENCES n_FamilyLICENCES, sl_FamilyLICENCES⟩)
    (tyI_Family : PySem.W.typeIn K (.ref C_Family) = some (.type "type"))
    (pg_Family : PySem.W.plainGet K C_Family Str.empty = true)
    (hd_Family : PySem.W.hasDictIn K C_Family = true)
    (po_Family : PySem.W.plainOver K C_Family = true)
    (kC_Family : PySem.W.keepIn K (.ref C_Family) = true)
    (mk_Family : PySem.W.makesIn K C_Family = true)
    (rd_Family : PySem.W.readsIn K C_Family (.type "type") = true)
    (ga_Family : PySem.W.specialIn K (.ref C_Family) "__getattribute__" = some (some (.builtin "type.__getattribute__")))
    (ic_Family : PySem.W.isClsIn K C_Family = true)
    (c_Family___init__ : PySem.W.codeIn K cd_Family___init__ "Family.__init__" = true)
    (k_Family___init__ : PySem.W.keepIn K (.ref g_Family___init__) = true)
    (f_Family___init__ : PySem.W.isFn K (.ref g_Family___init__) = true)
    (c_Family___and__ : PySem.W.codeIn K cd_Family___and__ "Family.__and__" = true)
    (k_Family___and__ : PySem.W.keepIn K (.ref g_Family___and__) = true)
    (f_Family___and__ : PySem.W.isFn K (.ref g_Family___and__) = true)
    (c_Family___sub__ : PySem.W.codeIn K cd_Family___sub__ "Family.__sub__" = true)
    (k_Family___sub__ : PySem.W.keepIn K (.ref g_Family___sub__) = true)
    (f_Family___sub__ : PySem.W.isFn K (.ref g_Family___sub__) = true)
    (c_Family___or__ : PySem.W.codeIn K cd_Family___or__ "Family.__or__" = true)
    (k_Family___or__ : PySem.W.keepIn K (.ref g_Family___or__) = true)
    (f_Family___or__ : PySem.W.isFn K (.ref g_Family___or__) = true)
    (c_Family_is_within : PySem.W.codeIn K cd_Family_is_within "Family.is_within" = true)
    (k_Family_is_within : PySem.W.keepIn K (.ref g_Family_is_within) = true)
    (f_Family_is_within : PySem.W.isFn K (.ref g_Family_is_within) = true)
    (c_Family___len__ : PySem.W.codeIn K cd_Family___len__ "Family.__len__" = true)
    (k_Family___len__ : PySem.W.keepIn K (.ref g_Family___len__) = true)
    (f_Family___len__ : PySem.W.isFn K (.ref g_Family___len__) = true)
    (hn : PySem.W.specialIn K (.builtin "object.__class__") "__get__" = some (some (.builtin "getset_descriptor.__get__")))
    (ht : PySem.W.takesIn K (.builtin "object.__class__") = some true)
    (hm_Family : PySem.W.mroIn K C_Family (.type "object") = some true)
    (c_Family___eq__ : PySem.W.codeIn K cd_Family___eq__ "Family.__eq__" = true)
    (k_Family___eq__ : PySem.W.keepIn K (.ref g_Family___eq__) = true)
    (f_Family___eq__ : PySem.W.isFn K (.ref g_Family___eq__) = true)
    (c_Family___repr__ : PySem.W.codeIn K cd_Family___repr__ "Family.__repr__" = true)
    (k_Family___repr__ : PySem.W.keepIn K (.ref g_Family___repr__) = true)
    (f_Family___repr__ : PySem.W.isFn K (.ref g_Family___repr__) = true)
    (c__law_take : PySem.W.codeIn K cd__law_take "_law_take" = true)
    (k__law_take : PySem.W.keepIn K (.ref g__law_take) = true)
    (c__law_bag : PySem.W.codeIn K cd__law_bag "_law_bag" = true)
    (k__law_bag : PySem.W.keepIn K (.ref g__law_bag) = true)
    (c__law_of : PySem.W.codeIn K cd__law_of "_law_of" = true)
    (k__law_of : PySem.W.keepIn K (.ref g__law_of) = true)
    (c__law_licences : PySem.W.codeIn K cd__law_licences "_law_licences" = true)
    (k__law_licences : PySem.W.keepIn K (.ref g__law_licences) = true)
    (c__law_some : PySem.W.codeIn K cd__law_some "_law_some" = true)
    (k__law_some : PySem.W.keepIn K (.ref g__law_some) = true)
    (c__law_sorted : PySem.W.codeIn K cd__law_sorted "_law_sorted" = true)
    (k__law_sorted : PySem.W.keepIn K (.ref g__law_sorted) = true)
    (c__law_has : PySem.W.codeIn K cd__law_has "_law_has" = true)
    (k__law_has : PySem.W.keepIn K (.ref g__law_has) = true)
    (sf_Family : PySem.W.selfFirst K C_Family = true)
    (c__law_three_right : PySem.W.codeIn K cd__law_three_right "_law_three_right" = true)
    (k__law_three_right : PySem.W.keepIn K (.ref g__law_three_right) = true)
    (c__law_signs_right : PySem.W.codeIn K cd__law_signs_right "_law_signs_right" = true)
    (k__law_signs_right : PySem.W.keepIn K (.ref g__law_signs_right) = true)
    (c_law : PySem.W.codeIn K cd_law "law" = true)
    (k_law : PySem.W.keepIn K (.ref g_law) = true)
    (o_FamilyLICENCES : strsIn it_FamilyLICENCES.toList lic = true)
    : ∃ fd : FuncData, (∀ (s : Shared) (v : Value), BindsTo s fd ⟨[v], []⟩ [("script", v)]) ∧ ∀ base : Heap, K.In base → base.Ns mainGlobals mg → FnOk l.prog w K mg base CX0 7 fa fd ["script"] (spLaw K) := by
  have e := hfa.symm.trans (PySem.W.mg_of X G a_law)
  cases e
  have T : Cst K mg := ⟨⟨PySem.W.mg_none_of X G z_isinstance, PySem.W.mg_none_of X G z_list, PySem.W.mg_none_of X G z_tuple, PySem.W.mg_none_of X G z_int, PySem.W.mg_none_of X G z_str, PySem.W.mg_none_of X G z_bool, PySem.W.mg_none_of X G z_len, PySem.W.mg_none_of X G z_abs, PySem.W.mg_none_of X G z_max, PySem.W.mg_none_of X G z_min, PySem.W.mg_none_of X G z_range, PySem.W.mg_none_of X G z_enumerate, PySem.W.mg_none_of X G z_all, PySem.W.mg_none_of X G z_ValueError, PySem.W.mg_none_of X G z_LookupError, PySem.W.mg_none_of X G z_KeyError, PySem.W.mg_none_of X G z_IndexError, PySem.W.mg_none_of X G z_repr⟩⟩
  refine ⟨PySem.W.fnOf "law" "law" (defArgs s_law) (defBody s_law) (defScope s_law) .none kV_law dc_law pm_law an_law cd_law ct_law, fun s v => .of_eq rfl, fun base _ _ => ?_⟩
  have cl_Family : Cls K C_Family := ⟨pg_Family, hd_Family, po_Family, sa_Family⟩
  have hC_Family : FamC K C_Family := ⟨cl_Family, nA_Family_0, _, v_FamilyLICENCES, _, ⟨rd_Family, ga_Family⟩, ⟨fc_Family_LICENCES, rfl⟩, (tupk_of l_FamilyLICENCES o_FamilyLICENCES (by decide +kernel))⟩
  have U_Family___init__ := fun_mk (st := s_Family___init__) l_Family___init__ c_Family___init__ k_Family___init__
  have Z1 : OkI l.prog w K mg base 1 "Family" C_Family ["self", "words"] (spFam K C_Family) := ⟨PySem.W.mg_of X G a_Family, _, _, (ok_Family U_Family___init__ T hC_Family (PySem.W.mg_of X G a_Family)), ⟨mk_Family, i_Family___init__, f_Family___init__, kC_Family⟩, U_Family___init__.binds (ps := ["self", "words"]) (fun _ _ _ _ _ _ us hl => match us, hl with | [_, _], _ => rfl)⟩
  have U_Family___and__ := fun_mk (st := s_Family___and__) l_Family___and__ c_Family___and__ k_Family___and__
  have Z2 : OkM CX0 l.prog w K mg base 3 C_Family "__and__" ["self", "other"] (spTwo K C_Family and) := ⟨_, _, (ok_and U_Family___and__ T hC_Family Z1), ⟨m_Family___and__, f_Family___and__, k_Family___and__⟩, U_Family___and__.binds (ps := ["self", "other"]) (fun _ _ _ _ _ _ us hl => match us, hl with | [_, _], _ => rfl)⟩
  have U_Family___sub__ := fun_mk (st := s_Family___sub__) l_Family___sub__ c_Family___sub__ k_Family___sub__
  have Z3 : OkM CX0 l.prog w K mg base 3 C_Family "__sub__" ["self", "other"] (spTwo K C_Family fun x y => x && !y) := ⟨_, _, (ok_sub U_Family___sub__ T hC_Family Z1), ⟨m_Family___sub__, f_Family___sub__, k_Family___sub__⟩, U_Family___sub__.binds (ps := ["self", "other"]) (fun _ _ _ _ _ _ us hl => match us, hl with | [_, _], _ => rfl)⟩
  have U_Family___or__ := fun_mk (st := s_Family___or__) l_Family___or__ c_Family___or__ k_Family___or__
  have Z4 : OkM CX0 l.prog w K mg base 3 C_Family "__or__" ["self", "other"] (spTwo K C_Family or) := ⟨_, _, (ok_or U_Family___or__ T hC_Family Z1), ⟨m_Family___or__, f_Family___or__, k_Family___or__⟩, U_Family___or__.binds (ps := ["self", "other"]) (fun _ _ _ _ _ _ us hl => match us, hl with | [_, _], _ => rfl)⟩
  have U_Family_is_within := fun_mk (st := s_Family_is_within) l_Family_is_within c_Family_is_within k_Family_is_within
  have Z5 : OkM CX0 l.prog w K mg base 1 C_Family "is_within" ["self", "other"] (spWithin K C_Family) := ⟨_, _, (ok_within U_Family_is_within T hC_Family), ⟨m_Family_is_within, f_Family_is_within, k_Family_is_within⟩, U_Family_is_within.binds (ps := ["self", "other"]) (fun _ _ _ _ _ _ us hl => match us, hl with | [_, _], _ => rfl)⟩
  have U_Family___len__ := fun_mk (st := s_Family___len__) l_Family___len__ c_Family___len__ k_Family___len__
  have Z6 : OkM CX0 l.prog w K mg base 1 C_Family "__len__" ["self"] (spLenF K C_Family) := ⟨_, _, (ok_len U_Family___len__ T hC_Family), ⟨m_Family___len__, f_Family___len__, k_Family___len__⟩, U_Family___len__.binds (ps := ["self"]) (fun _ _ _ _ _ _ us hl => match us, hl with | [_], _ => rfl)⟩
  have U_Family___eq__ := fun_mk (st := s_Family___eq__) l_Family___eq__ c_Family___eq__ k_Family___eq__
  have Z7 : OkM CX0 l.prog w K mg base 1 C_Family "__eq__" ["self", "other"] (spEqF K C_Family) := ⟨_, _, (ok_eq U_Family___eq__ T hC_Family ⟨haI_Family, hn, ht, hm_Family⟩ hd_Family tyI_Family (PySem.W.mg_of X G a_Family)), ⟨m_Family___eq__, f_Family___eq__, k_Family___eq__⟩, U_Family___eq__.binds (ps := ["self", "other"]) (fun _ _ _ _ _ _ us hl => match us, hl with | [_, _], _ => rfl)⟩
  have U_Family___repr__ := fun_mk (st := s_Family___repr__) l_Family___repr__ c_Family___repr__ k_Family___repr__
  have Z8 : OkM CX0 l.prog w K mg base 1 C_Family "__repr__" ["self"] (spRepr K C_Family) := ⟨_, _, (ok_repr U_Family___repr__ T hC_Family), ⟨m_Family___repr__, f_Family___repr__, k_Family___repr__⟩, U_Family___repr__.binds (ps := ["self"]) (fun _ _ _ _ _ _ us hl => match us, hl with | [_], _ => rfl)⟩
  have U__law_take := fun_mk (st := s_law_take) l__law_take c__law_take k__law_take
  have Z9 : Ok l.prog w K mg base 1 "_law_take" ["bag", "many"] spTake := ⟨_, _, (ok_law_take U__law_take T.toTxt), PySem.W.mg_of X G a__law_take, k__law_take, U__law_take.binds (ps := ["bag", "many"]) (fun _ _ _ _ _ _ us hl => match us, hl with | [_, _], _ => rfl)⟩
  have U__law_bag := fun_mk (st := s_law_bag) l__law_bag c__law_bag k__law_bag
  have Z10 : Ok l.prog w K mg base 1 "_law_bag" ["script", "at"] (spBag K) := ⟨_, _, (ok_law_bag U__law_bag T.toTxt), PySem.W.mg_of X G a__law_bag, k__law_bag, U__law_bag.binds (ps := ["script", "at"]) (fun _ _ _ _ _ _ us hl => match us, hl with | [_, _], _ => rfl)⟩
  have U__law_of := fun_mk (st := s_law_of) l__law_of c__law_of k__law_of
  have Z11 : Ok l.prog w K mg base 2 "_law_of" ["bag", "some"] spOf := ⟨_, _, (ok_law_of U__law_of T Z9), PySem.W.mg_of X G a__law_of, k__law_of, U__law_of.binds (ps := ["bag", "some"]) (fun _ _ _ _ _ _ us hl => match us, hl with | [_, _], _ => rfl)⟩
  have U__law_licences := fun_mk (st := s_law_licences) l__law_licences c__law_licences k__law_licences
  have Z12 : Ok l.prog w K mg base 1 "_law_licences" [] spLics := ⟨_, _, (ok_law_licences U__law_licences T), PySem.W.mg_of X G a__law_licences, k__law_licences, U__law_licences.binds (ps := []) (fun _ _ _ _ _ _ us hl => match us, hl with | [], _ => rfl)⟩
  have U__law_some := fun_mk (st := s_law_some) l__law_some c__law_some k__law_some
  have Z13 : Ok l.prog w K mg base 3 "_law_some" ["bag"] spSome := ⟨_, _, (ok_law_some U__law_some T Z9 Z11 Z12), PySem.W.mg_of X G a__law_some, k__law_some, U__law_some.binds (ps := ["bag"]) (fun _ _ _ _ _ _ us hl => match us, hl with | [_], _ => rfl)⟩
  have U__law_sorted := fun_mk (st := s_law_sorted) l__law_sorted c__law_sorted k__law_sorted
  have Z14 : Ok l.prog w K mg base 2 "_law_sorted" ["words"] (spSorted K) := ⟨_, _, (ok_law_sorted U__law_sorted T Z12), PySem.W.mg_of X G a__law_sorted, k__law_sorted, U__law_sorted.binds (ps := ["words"]) (fun _ _ _ _ _ _ us hl => match us, hl with | [_], _ => rfl)⟩
  have U__law_has := fun_mk (st := s_law_has) l__law_has c__law_has k__law_has
  have Z15 : Ok l.prog w K mg base 3 "_law_has" ["family", "words"] (spHas K C_Family) := ⟨_, _, (ok_law_has U__law_has T hC_Family Z1 Z7 Z14), PySem.W.mg_of X G a__law_has, k__law_has, U__law_has.binds (ps := ["family", "words"]) (fun _ _ _ _ _ _ us hl => match us, hl with | [_, _], _ => rfl)⟩
  have U__law_three_right := fun_mk (st := s_law_three_right) l__law_three_right c__law_three_right k__law_three_right
  have Z16 : Ok l.prog w K mg base 6 "_law_three_right" ["one", "other", "third"] (spThree K C_Family) := ⟨_, _, (ok_law_three_right U__law_three_right T hC_Family (PySem.W.mg_of X G a_Family) ⟨ne_Family, hm_Family⟩ sf_Family Z1 Z2 Z4 Z3 Z7 Z6 Z5), PySem.W.mg_of X G a__law_three_right, k__law_three_right, U__law_three_right.binds (ps := ["one", "other", "third"]) (fun _ _ _ _ _ _ us hl => match us, hl with | [_, _, _], _ => rfl)⟩
  have U__law_signs_right := fun_mk (st := s_law_signs_right) l__law_signs_right c__law_signs_right k__law_signs_right
  have Z17 : Ok l.prog w K mg base 6 "_law_signs_right" ["one", "other", "first", "second"] (spSigns K C_Family) := ⟨_, _, (ok_law_signs_right U__law_signs_right T ⟨haI_Family, hn, ht, hm_Family⟩ hC_Family (PySem.W.mg_of X G a_Family) ⟨ne_Family, hm_Family⟩ sf_Family Z1 Z2 Z4 Z3 Z7 Z6 Z5 Z15 Z14), PySem.W.mg_of X G a__law_signs_right, k__law_signs_right, U__law_signs_right.binds (ps := ["one", "other", "first", "second"]) (fun _ _ _ _ _ _ us hl => match us, hl with | [_, _, _, _], _ => rfl)⟩
  have U_law := fun_mk (st := s_law) l_law c_law k_law
  exact ok_law U_law T hC_Family (PySem.W.mg_of X G a_Family) ⟨ne_Family, hm_Family⟩ sf_Family Z1 Z2 Z4 Z3 Z7 Z6 Z5 Z8 Z10 Z11 Z12 Z13 Z14 Z15 Z17 Z16
theorem walk {l : PySem.W.OpenLaw} {q : Program} {loose : List Str} {XP : (Str → Option Value) → Heap → Prop} {YP : World → Heap → Prop} {d : DefRec} {K : Params → Fg} (hn : l.most = some 63) (hdf : d.params.defaults = [])
    (hY : ∀ (w : World) (h : Heap), YP w h → (K w.params).In h)
    (F : ∀ (w : World) (mg : Str → Option Value) (fa : Addr) (h : Heap), (K w.params).In h → h.Ns mainGlobals mg → mg d.name = some (.ref fa) →
      ∃ fd : FuncData, (∀ (s : Shared) (u : Value), BindsTo s fd ⟨[u], []⟩ [("script", u)]) ∧ ∀ base : Heap, (K w.params).In base → base.Ns mainGlobals mg → FnOk l.prog w (K w.params) mg base CX0 7 fa fd ["script"] (spLaw (K w.params))) :
    PySem.W.WalkO q loose XP YP l.row.toRowW d [] (fun f vs => PySem.call f vs) :=
  L2.walk_of (n := 63) (k := 7) (x := "script") (CX := fun _ => CX0) (sp := fun w => spLaw (K w.params)) hn (by decide) hdf ⟨rfl, by decide, by decide⟩ hY F
    (fun _ _ a ns hl _ hS => ⟨a, ns, rfl, hS, hl, fun _ => rfl⟩) fun _ _ _ _ _ z => z
end K87

open PySem PySem.W PyProof.Rows in
set_option maxRecDepth 100000 in
set_option maxHeartbeats 0 in
theorem PySem.Challenge.cw_heirsback_k87_families_joined_holds : PySem.Challenge.rw_heirsback_k87_families_joined.Holds := by
  w_on; o_law; k_head; (case hw => w_witness2)
  k_fill
  refine K87.walk (l := PySem.Challenge.rw_heirsback_k87_families_joined) rfl rfl (fun w h Y => PySem.W.kIn_of Y) ?F
  case F =>
    intro w mg fa h KX G hmg
    refine' K87.all_mk KX G hmg ?a_Family ?a__law_take ?a__law_bag ?a__law_of ?a__law_licences ?a__law_some ?a__law_sorted ?a__law_has ?a__law_three_right ?a__law_signs_right ?a_law ?z_isinstance ?z_list ?z_tuple ?z_int ?z_str ?z_bool ?z_len ?z_abs ?z_max ?z_min ?z_range ?z_enumerate ?z_all ?z_ValueError ?z_LookupError ?z_KeyError ?z_IndexError ?z_repr ?sa_Family ?nA_Family_0 ?i_Family___init__ ?m_Family___and__ ?m_Family___sub__ ?m_Family___or__ ?m_Family_is_within ?m_Family___len__ ?haI_Family ?m_Family___eq__ ?m_Family___repr__ ?ne_Family ?fc_Family_LICENCES ?l_Family___init__ ?l_Family___and__ ?l_Family___sub__ ?l_Family___or__ ?l_Family_is_within ?l_Family___len__ ?l_Family___eq__ ?l_Family___repr__ ?l__law_take ?l__law_bag ?l__law_of ?l__law_licences ?l__law_some ?l__law_sorted ?l__law_has ?l__law_three_right ?l__law_signs_right ?l_law ?l_FamilyLICENCES ?tyI_Family ?pg_Family ?hd_Family ?po_Family ?kC_Family ?mk_Family ?rd_Family ?ga_Family ?ic_Family ?c_Family___init__ ?k_Family___init__ ?f_Family___init__ ?c_Family___and__ ?k_Family___and__ ?f_Family___and__ ?c_Family___sub__ ?k_Family___sub__ ?f_Family___sub__ ?c_Family___or__ ?k_Family___or__ ?f_Family___or__ ?c_Family_is_within ?k_Family_is_within ?f_Family_is_within ?c_Family___len__ ?k_Family___len__ ?f_Family___len__ ?hn ?ht ?hm_Family ?c_Family___eq__ ?k_Family___eq__ ?f_Family___eq__ ?c_Family___repr__ ?k_Family___repr__ ?f_Family___repr__ ?c__law_take ?k__law_take ?c__law_bag ?k__law_bag ?c__law_of ?k__law_of ?c__law_licences ?k__law_licences ?c__law_some ?k__law_some ?c__law_sorted ?k__law_sorted ?c__law_has ?k__law_has ?sf_Family ?c__law_three_right ?k__law_three_right ?c__law_signs_right ?k__law_signs_right ?c_law ?k_law ?o_FamilyLICENCES
    (case a_Family => k_is)
    (case a__law_take => k_is)
    (case a__law_bag => k_is)
    (case a__law_of => k_is)
    (case a__law_licences => k_is)
    (case a__law_some => k_is)
    (case a__law_sorted => k_is)
    (case a__law_has => k_is)
    (case a__law_three_right => k_is)
    (case a__law_signs_right => k_is)
    (case a_law => k_is)
    (case z_isinstance => k_is)
    (case z_list => k_is)
    (case z_tuple => k_is)
    (case z_int => k_is)
    (case z_str => k_is)
    (case z_bool => k_is)
    (case z_len => k_is)
    (case z_abs => k_is)
    (case z_max => k_is)
    (case z_min => k_is)
    (case z_range => k_is)
    (case z_enumerate => k_is)
    (case z_all => k_is)
    (case z_ValueError => k_is)
    (case z_LookupError => k_is)
    (case z_KeyError => k_is)
    (case z_IndexError => k_is)
    (case z_repr => k_is)
    (case sa_Family => k_is)
    (case nA_Family_0 => k_is)
    (case i_Family___init__ => k_is)
    (case m_Family___and__ => k_is)
    (case m_Family___sub__ => k_is)
    (case m_Family___or__ => k_is)
    (case m_Family_is_within => k_is)
    (case m_Family___len__ => k_is)
    (case haI_Family => k_is)
    (case m_Family___eq__ => k_is)
    (case m_Family___repr__ => k_is)
    (case ne_Family => k_is)
    (case fc_Family_LICENCES => k_is)
    (case l_Family___init__ => k_is)
    (case l_Family___and__ => k_is)
    (case l_Family___sub__ => k_is)
    (case l_Family___or__ => k_is)
    (case l_Family_is_within => k_is)
    (case l_Family___len__ => k_is)
    (case l_Family___eq__ => k_is)
    (case l_Family___repr__ => k_is)
    (case l__law_take => k_is)
    (case l__law_bag => k_is)
    (case l__law_of => k_is)
    (case l__law_licences => k_is)
    (case l__law_some => k_is)
    (case l__law_sorted => k_is)
    (case l__law_has => k_is)
    (case l__law_three_right => k_is)
    (case l__law_signs_right => k_is)
    (case l_law => k_is)
    (case l_FamilyLICENCES => k_is)
    (case tyI_Family => k_is)
    (case pg_Family => k_is)
    (case hd_Family => k_is)
    (case po_Family => k_is)
    (case kC_Family => k_is)
    (case mk_Family => k_is)
    (case rd_Family => k_is)
    (case ga_Family => k_is)
    (case ic_Family => k_is)
    (case c_Family___init__ => k_is)
    (case k_Family___init__ => k_is)
    (case f_Family___init__ => k_is)
    (case c_Family___and__ => k_is)
    (case k_Family___and__ => k_is)
    (case f_Family___and__ => k_is)
    (case c_Family___sub__ => k_is)
    (case k_Family___sub__ => k_is)
    (case f_Family___sub__ => k_is)
    (case c_Family___or__ => k_is)
    (case k_Family___or__ => k_is)
    (case f_Family___or__ => k_is)
    (case c_Family_is_within => k_is)
    (case k_Family_is_within => k_is)
    (case f_Family_is_within => k_is)
    (case c_Family___len__ => k_is)
    (case k_Family___len__ => k_is)
    (case f_Family___len__ => k_is)
    (case hn => k_is)
    (case ht => k_is)
    (case hm_Family => k_is)
    (case c_Family___eq__ => k_is)
    (case k_Family___eq__ => k_is)
    (case f_Family___eq__ => k_is)
    (case c_Family___repr__ => k_is)
    (case k_Family___repr__ => k_is)
    (case f_Family___repr__ => k_is)
    (case c__law_take => k_is)
    (case k__law_take => k_is)
    (case c__law_bag => k_is)
    (case k__law_bag => k_is)
    (case c__law_of => k_is)
    (case k__law_of => k_is)
    (case c__law_licences => k_is)
    (case k__law_licences => k_is)
    (case c__law_some => k_is)
    (case k__law_some => k_is)
    (case c__law_sorted => k_is)
    (case k__law_sorted => k_is)
    (case c__law_has => k_is)
    (case k__law_has => k_is)
    (case sf_Family => k_is)
    (case c__law_three_right => k_is)
    (case k__law_three_right => k_is)
    (case c__law_signs_right => k_is)
    (case k__law_signs_right => k_is)
    (case c_law => k_is)
    (case k_law => k_is)
    (case o_FamilyLICENCES => decide +kernel)
