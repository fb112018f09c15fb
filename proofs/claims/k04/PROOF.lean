import PyProof.Rows.All
import Wide.All
import OpenK.AllK
import Wide.FinOn
import KE.KExcInit
import KE.KExcIs
import PyProof.ListStr
import PyProof.FitsInt
import HandS.ExcInit
import HandS.ExcField
import HandS.ExcIs
import HandS.IsInst
import HandS.Words
import HandS.WordsList
import HandS.Wide
import HandS.Comp
import HandS.Text
import HandS.Iter
import HandS.Walk
import KE.KCallOwn
import OpenK.KMeth
import OpenK.KOps
import HandS.Exc
import HandS.ExcOwn
import HandS.WordsExc
import HandS.ClsMeth
import HandS.More
import HandS.Property
import HandS.FStr
import HandS.DictComp
import HandS.TryOnly
import HandS.TryMany
import HandS.List
import PySem.Challenge.RW_heirsback_k04_makers_exchanged
import HandS.Star
import HandS.OwnEq
import HandS.Defaults
import HandS.AnyAll
import HandS.Style
import HandS.Deep
import HandS.RaiseMore
import KE.KExcLine
set_option Elab.async false
set_option linter.all false
set_option maxRecDepth 100000
set_option maxHeartbeats 8000000
/-! own exceptions held as values: made by their own __init__, their fields stored and read, isinstance -/
namespace EV
open PySem PySem.Spec PyProof.Rows L2 PySem.Builtin PySem.Builtin.ObjectAttr
abbrev Fg := PySem.W.Frag
/-- what the text says of an own exception class at C -/
structure XCls (K : Fg) (C : Addr) : Prop where
  base : ∃ (B nI iI : String) (bmB : List Value), ExcBaseFacts B nI iI bmB ∧ StoreFacts B bmB "object.__setattr__" "object" ∧
    PySem.W.excInitIn K C bmB nI = true ∧ PySem.W.excOver K C bmB = true
  sa : PySem.W.findIn K (.ref C) "__setattr__" = some (some (.builtin "object.__setattr__"))
  ex : ExcC K C
  kC : PySem.W.keepIn K (.ref C) = true
section
variable {X : Cx} {pins : List (Addr × Obj)} {σ : L2.St} {H : Hp} {s : Shared} {a C dx : Addr} {f : Str} {y : V} {u : Value}
variable {fs : List (Str × V)} {Q : Unit → Shared → Prop} {E : Value → Shared → Prop} {A : Around}

/-- the first field -/
theorem put_first (T : XCls X.K C) (I : Inv X pins σ H s) (e : H a = some (exo a C none)) (no : NoAttr X.K C f) (ry : RelV y u)
    (h : ∀ dx s', H dx = none → dx ≠ a → Inv X pins σ (upd (upd H dx (exd dx [(f, y)])) a (exo a C (some dx))) s' → Q () s') :
    wpAny (model X.prog X.w) A (setAttr (.ref a) f u) Q E s := by
  obtain ⟨B, nI, iI, bmB, FB, SF, q1, q2⟩ := T.base
  obtain ⟨t1, ho⟩ := exo_at I.hok e
  obtain ⟨hp, g, d, t, os⟩ := s
  have J : PySem.W.InstAt hp a { cls := .ref C, dict := none, data := .fields #[.ref t1, .none, .none, .none, .bool false, .none] } C none :=
    ⟨ho, rfl, rfl, trivial⟩
  refine PySem.W.set_plain I.kIn J T.sa ?_
  refine PySem.W.osa_openX (s := ⟨hp, g, d, t + 1, os⟩) (r := none) SF I.kIn J q2 no.taker fun b => ?_
  show wpAny _ _ (storeInOwnDict (.ref a) (.ref C) (.str f t) f u b) _ _ _
  obtain ⟨cd, hc, hh⟩ := PySem.W.any_some T.ex.hd
  have hcls : PySem.W.Looks (model X.prog X.w) hp (classData C) cd := PySem.W.looks_clsIn I.kIn hc
  have hxs : a ≠ hp.objs.size := Nat.ne_of_lt (Heap.lt_size ho)
  obtain ⟨nm, bs, mro, ns, qn, hd, sn, sb, ab, col, del⟩ := cd
  dsimp only at hh
  subst hh
  unfold storeInOwnDict ownDictForStores
  repeat (first
    | with_reducible refine PySem.HandSPX.store_in_new ?_ ?_
    | with_reducible refine wpAny_loadPart_at ho ?_
    | with_reducible refine hcls.at ?_
    | wp_step)
  · exact ⟨_, #[], _, (Heap.get?_update_ne _ _ _ _ hxs.symm).trans (Heap.get?_push_at rfl rfl), rfl, fun z hz => absurd hz (by simp), fun _ => rfl⟩
  · intro h' tk' hn hs
    have en : H hp.objs.size = none := I.hok.fresh (Nat.le_refl _)
    have g1 : (hp.push { cls := .type "dict", data := .dict #[] }).get? hp.objs.size = some { cls := .type "dict", data := .dict #[] } :=
      Heap.get?_push_size hp rfl
    have e3 : (hp.push { cls := .type "dict", data := .dict #[] }).Ns hp.objs.size (fun _ => none) :=
      ⟨_, #[], _, g1, rfl, fun z hz => absurd hz (by simp), fun _ => rfl⟩
    have I1 := I.laid (a := hp.objs.size) (o := exd hp.objs.size []) (t' := tk') (h' := hp.push { cls := .type "dict", data := .dict #[] })
      (fun b o q => Heap.get?_push_of_some _ q) (Nat.le_refl _) (exd_ok (fs := []) (Heap.Ns1.of_empty e3) fun _ => True.intro)
    have g2 := Heap.get?_push_of_some (h := hp) { cls := .type "dict", data := .dict #[] } ho
    have ga := Heap.get?_update_self (fun o : Obj => { cls := o.cls, dict := some hp.objs.size, data := o.data, slots := o.slots }) g2 rfl
    have I2 := I1.write (x := a) (e := a) (o := exo a C (some hp.objs.size)) (t' := tk')
      (h' := (hp.push { cls := .type "dict", data := .dict #[] }).update a fun o => { cls := o.cls, dict := some hp.objs.size, data := o.data, slots := o.slots })
      (by rw [upd_ne hxs, e]; exact True.intro) (.inl rfl) (fun b o hb q => (Heap.get?_update_ne _ _ _ _ hb).trans q) ⟨_, ga⟩ (exo_ok ga)
    have I3 := I2.write (x := hp.objs.size) (e := hp.objs.size) (o := exd hp.objs.size [(f, y)]) (t' := tk') (h' := h')
      (by rw [upd_ne hxs.symm, upd_same]; exact True.intro) (.inl rfl) (fun b o hb q => (hs.2 b hb).trans q)
      (let ⟨o, _, _, z, _⟩ := hn; ⟨o, z⟩) (exd_ok hn (relO_put (fs := []) ry fun _ => True.intro))
    have eu : upd (upd (upd H hp.objs.size (exd hp.objs.size [])) a (exo a C (some hp.objs.size))) hp.objs.size (exd hp.objs.size [(f, y)])
        = upd (upd H hp.objs.size (exd hp.objs.size [(f, y)])) a (exo a C (some hp.objs.size)) := by
      funext b
      unfold upd
      by_cases h1 : b = a
      · subst h1
        rw [if_neg hxs, if_pos rfl, if_pos rfl]
      · by_cases h2 : b = hp.objs.size
        · rw [if_pos h2, if_neg h1, if_pos h2]
        · rw [if_neg h2, if_neg h1, if_neg h2, if_neg h1, if_neg h2]
    rw [eu] at I3
    exact h hp.objs.size _ en hxs.symm I3
/-- a further field -/
theorem put_more (T : XCls X.K C) (I : Inv X pins σ H s) (e : H a = some (exo a C (some dx))) (ed : H dx = some (exd dx fs)) (hl : fs.length ≤ 900)
    (no : NoAttr X.K C f) (ry : RelV y u) (h : ∀ s', Inv X pins σ (upd H dx (exd dx ((f, y) :: fs))) s' → Q () s') :
    wpAny (model X.prog X.w) A (setAttr (.ref a) f u) Q E s := by
  obtain ⟨B, nI, iI, bmB, FB, SF, q1, q2⟩ := T.base
  obtain ⟨t1, ho⟩ := exo_at I.hok e
  obtain ⟨mA, hns, rel⟩ := exd_at I.hok ed
  have hw := within_of rel
  obtain ⟨hp, g, d, t, os⟩ := s
  obtain ⟨oD, esD, epD, hoD, hdD, _⟩ := hns.count hw
  have J : PySem.W.InstAt hp a { cls := .ref C, dict := some dx, data := .fields #[.ref t1, .none, .none, .none, .bool false, .none] } C (some oD) :=
    ⟨ho, rfl, rfl, hoD⟩
  refine PySem.W.set_plain I.kIn J T.sa ?_
  refine PySem.W.osa_openX (s := ⟨hp, g, d, t + 1, os⟩) (r := none) SF I.kIn J q2 no.taker fun b => ?_
  show wpAny _ _ (storeInOwnDict (.ref a) (.ref C) (.str f t) f u b) _ _ _
  obtain ⟨cd, hc, hh⟩ := PySem.W.any_some T.ex.hd
  have hcls : PySem.W.Looks (model X.prog X.w) hp (classData C) cd := PySem.W.looks_clsIn I.kIn hc
  obtain ⟨nm, bs, mro, ns, qn, hd, sn, sb, ab, col, del⟩ := cd
  dsimp only at hh
  subst hh
  unfold storeInOwnDict ownDictForStores
  repeat (first
    | with_reducible refine PySem.OEX.store_in_old hns hw ?_ ?_
    | with_reducible refine wpAny_loadPart_at ho ?_
    | with_reducible refine hcls.at ?_
    | wp_step)
  · rw [List.length_map]; omega
  · intro h' tk' hn hs
    have hd : ∃ o, h'.get? dx = some o := by
      obtain ⟨o, _, _, z, _⟩ := hn
      exact ⟨o, z⟩
    exact h _ (I.write (t' := tk') (x := dx) (e := dx) (o := exd dx ((f, y) :: fs)) (by rw [ed]; exact True.intro) (.inl rfl)
      (fun b o hb q => (hs.2 b hb).trans q) hd (exd_ok hn (relO_put ry rel)))
end
/-! ### the statement self.f = e -/
/-- the error at a is of the class at C, its fields are fs -/
def ErrAt (H : Hp) (a C : Addr) (fs : List (Str × V)) : Prop := ∃ d, H a = some (exo a C (some d)) ∧ H d = some (exd d fs)
section
variable {X : Cx} {o e : Expr} {es : List Expr} {to te : TE} {ta : TA} {f : Str} {p p' pos : Pos} {C : Addr}
def tPut1 (K : Fg) (f : Str) (to te : TE) : TS := fun D σ H => te σ H fun y H1 => to σ H1 fun x H2 => ∃ a C : Addr, x = .ref a ∧ XCls K C ∧ NoAttr K C f ∧
  H2 a = some (exo a C none) ∧ ∀ dx, H2 dx = none → dx ≠ a → D.nx σ (upd (upd H2 dx (exd dx [(f, y)])) a (exo a C (some dx)))
def tPut2 (K : Fg) (f : Str) (to te : TE) : TS := fun D σ H => te σ H fun y H1 => to σ H1 fun x H2 => ∃ (a C dx : Addr) (fs : List (Str × V)), x = .ref a ∧ XCls K C ∧ NoAttr K C f ∧
  H2 a = some (exo a C (some dx)) ∧ H2 dx = some (exd dx fs) ∧ fs.length ≤ 900 ∧ D.nx σ (upd H2 dx (exd dx ((f, y) :: fs)))
theorem ps_put1 (ho : PE X o to) (he : PE X e te) (hs : swapsWith e (some (.Attribute o f p')) pos.line X.env = pure false := by rfl) :
    PS X (.Assign [.Attribute o f p'] e pos) (tPut1 X.K f to te) := by
  refine ⟨fun pins s σ H D I h => ?_⟩
  refine plainObj_wpAny_Assign_Attribute (thn (he.run pins s σ H _ I h) fun v s1 hv => ?_) hs
  obtain ⟨y, H1, I1, r1, q1⟩ := hv
  refine thn (ho.run pins s1 σ H1 _ I1 q1) fun u s2 hu => ?_
  obtain ⟨x, H2, I2, r2, a, C, ex, T, no, ea, q⟩ := hu
  subst ex
  obtain rfl : u = Value.ref a := r2
  exact put_first T I2 ea no r1 fun dx s' n ne J => ⟨σ, _, J, q dx n ne⟩
theorem ps_put2 (ho : PE X o to) (he : PE X e te) (hs : swapsWith e (some (.Attribute o f p')) pos.line X.env = pure false := by rfl) :
    PS X (.Assign [.Attribute o f p'] e pos) (tPut2 X.K f to te) := by
  refine ⟨fun pins s σ H D I h => ?_⟩
  refine plainObj_wpAny_Assign_Attribute (thn (he.run pins s σ H _ I h) fun v s1 hv => ?_) hs
  obtain ⟨y, H1, I1, r1, q1⟩ := hv
  refine thn (ho.run pins s1 σ H1 _ I1 q1) fun u s2 hu => ?_
  obtain ⟨x, H2, I2, r2, a, C, dx, fs, ex, T, no, ea, ed, hl, q⟩ := hu
  subst ex
  obtain rfl : u = Value.ref a := r2
  exact put_more T I2 ea ed hl no r1 fun s' J => ⟨σ, _, J, q⟩
/-! ### C(e, ..), a new error as a value -/
def tNew (C : Addr) (sp : Sp) (dvs : List V) (ta : TA) : TE := fun σ H Q => ta σ H fun vs H1 => vs.length ≤ 1000 ∧ ∀ a, H1 a = none →
  sp (.ref a :: (vs ++ dvs)) (upd H1 a (exo a C none)) (fun v H2 => v = .non ∧ Q (.ref a) H2) (fun _ _ _ => False)
theorem pe_new {CX : CXT} {x : Str} {fI : Addr} {k : Nat} {fd : FuncData} {ps : List Str} {sp : Sp} {ds : List Value} {dvs : List V} (T : XCls X.K C)
    (iC : PySem.W.findIn X.K (.ref C) "__init__" = some (some (.ref fI))) (tI : PySem.W.isFn X.K (.ref fI) = true)
    (F1 : FnOk X.prog X.w X.K X.mg X.base CX k fI fd ps sp) (hr : Room (k + 1) X.A) (hb : Binds X.K fd ps ds) (hd : Vals dvs ds)
    (hx : Passes CX X (fun _ _ _ => False)) (hg : Gl X x) (hm : X.mg x = some (.ref C)) (ha : PA X (e :: es) ta)
    (hdb : (x == ("__debug__" : Str)) = false := by decide) (he : starEach (e :: es) X.env = (false, eval e X.env) :: starEach es X.env := by rfl)
    (hpl : (backTo pos (starEach es X.env)).any (·.1) = false := by rfl) :
    PE X (.Call (.Name x p) (e :: es) [] pos) (tNew C sp dvs ta) := by
  refine ⟨fun pins s σ H Q I h => ?_⟩
  obtain ⟨B, nI, iI, bmB, FB, SF, q1, q2⟩ := T.base
  refine wpAny_Call_Name_kw (ld_glob I hg hm ?_ hdb)
  refine PySem.W.callWith_K (h₀ := X.base) I.ok.mod.kin T.kC (thn (ha.run pos pins s σ H _ I h) fun us s1 hu => ?_) he hpl
  obtain ⟨vs, H1, I1, r1, hz, q⟩ := hu
  refine ⟨I1.kIn, ?_⟩
  show wpAny _ _ (call (.ref C) us) _ _ _
  obtain ⟨nm, N', qn, bs, bm, hdct, sn, sub, ab, col, dd, k0, k1, k2, k3, k5, hC, hT⟩ := PySem.W.excInit_of I1.kIn q1
  obtain ⟨oI, hoI, hcI⟩ : ∃ oI, s1.heap.get? fI = some oI ∧ oI.cls = .type "function" := by
    obtain ⟨o, z1, z2⟩ := Option.map_eq_some_iff.mp (show (X.K.lookup fI).map (·.cls) = some (.type "function") from beq_iff_eq.mp tI)
    exact ⟨o, I1.kIn _ _ z1, z2⟩
  obtain ⟨hp, g, dr, tk, os⟩ := s1
  have hsz : hp.objs.size ≤ hp.objs.size + 1 := Nat.le_succ _
  have hn : H1 (hp.objs.size + 1) = none := I1.hok.fresh hsz
  have hq := q (hp.objs.size + 1) hn
  have kk : ∀ b o, hp.get? b = some o → ((hp.push (PySem.W.kdv_tup us)).push (PySem.HandSPX.excO C hp.objs.size)).get? b = some o :=
    fun b o z => Heap.get?_push_of_some _ (Heap.get?_push_of_some _ z)
  have hget : ((hp.push (PySem.W.kdv_tup us)).push (PySem.HandSPX.excO C hp.objs.size)).get? (hp.objs.size + 1) = some (PySem.HandSPX.excO C hp.objs.size) := by heap_get
  have I2 := I1.laid (t' := tk) (a := hp.objs.size + 1) (o := exo (hp.objs.size + 1) C none)
    (h' := (hp.push (PySem.W.kdv_tup us)).push (PySem.HandSPX.excO C hp.objs.size)) kk hsz (exo_ok hget)
  have r2 : Vals (V.ref (hp.objs.size + 1) :: (vs ++ dvs)) (Value.ref (hp.objs.size + 1) :: (us ++ ds)) := .cons rfl (r1.append hd)
  have hl : (Value.ref (hp.objs.size + 1) :: us ++ ds).length = ps.length := by
    have z := r2.length
    rw [F1.len _ _ _ _ hq] at z
    exact z.symm
  have hus : us.length ≤ sizeLine := by
    rw [← Paired.length r1, sizeLine_eq]
    omega
  refine wpAny_call (PySem.HandSPX.call_own FB hT hC (PySem.W.looks_findIn I1.kIn iC) (fun self => PySem.W.exc_bind hoI hcI self) hus
    (codeAny_mono (F1.run _ X.stack _ _ ⟨Value.ref (hp.objs.size + 1) :: us, []⟩ (Value.ref (hp.objs.size + 1) :: (us ++ ds)) _ _ (fun _ _ _ => False)
      (hr.make C us []) (I2.env0.make C us []) (hb _ (Value.ref (hp.objs.size + 1) :: us) I2.kIn hl) r2 hq) fun r s' hq' => ?_))
  cases r with
  | error er => exact hx pins σ _ _ er s' I2 hq'
  | ok fl =>
    cases fl with
    | ret u =>
      obtain ⟨v, H2, I3, rv, ev, q2⟩ := I2.after hq'
      subst ev
      exact ⟨rv, .ref (hp.objs.size + 1), H2, I3, rfl, q2⟩
    | next => exact False.elim hq'
    | brk => exact False.elim hq'
    | cont => exact False.elim hq'
/-! ### e.f of an error -/
def tGet (K : Fg) (te : TE) (f : Str) : TE := fun σ H Q => te σ H fun x H1 => ∃ (a C : Addr) (fs : List (Str × V)) (v : V), x = .ref a ∧ XCls K C ∧ NoAttr K C f ∧
  ErrAt H1 a C fs ∧ fs.lookup f = some v ∧ Q v H1
theorem pe_get {te : TE} (he : PE X e te) (hb : attributeBase e f X.env (eval e X.env) = eval e X.env := by rfl) :
    PE X (.Attribute e f pos) (tGet X.K te f) := by
  refine ⟨fun pins s σ H Q I h => ?_⟩
  refine attr_of hb (thn (he.run pins s σ H _ I h) fun u s1 hu => ?_)
  obtain ⟨x, H1, I1, rx, a, C, fs, v, ex, T, no, ⟨d, ea, ed⟩, l, q⟩ := hu
  subst ex
  obtain rfl : u = Value.ref a := rx
  obtain ⟨t1, ho⟩ := exo_at I1.hok ea
  obtain ⟨mA, hns, hr⟩ := exd_at I1.hok ed
  obtain ⟨od, hod, hl⟩ := lookIn_ns hns
  obtain ⟨u, hu, ru⟩ := RelO.some_of (v := v) (o := mA f) (by rw [← l]; exact hr f)
  have J : PySem.W.InstAt s1.heap a { cls := .ref C, dict := some d, data := .fields #[.ref t1, .none, .none, .none, .bool false, .none] } C (some od) :=
    ⟨ho, rfl, rfl, hod⟩
  exact PySem.HandSPX.exc_get I1.kIn J T.ex.hg T.ex.hk T.ex.hs (PySem.W.findObj_own T.ex.hd no rfl (by rw [hl, hu])) (handed_of ru)
    ⟨v, H1, I1.tok _, ru, q⟩
/-! ### isinstance of an error -/
def rIsX (K : Fg) : List V → Hp → VK → Prop := fun xs H Q => ∃ (a C : Addr) (c : V) (u : Value) (b : Bool) (fs : List (Str × V)), xs = [.ref a, c] ∧ ClsV c u ∧
  ErrAt H a C fs ∧ XCls K C ∧ PySem.W.kitOne K (.ref C) u = some b ∧ Q (.bl b) H
theorem call_isX : CallR X (.builtin "isinstance") (rIsX X.K) := by
  intro pins s σ H xs us Q I r h
  obtain ⟨a, C, c, u, b, fs, rfl, hc, ⟨d, ea, ed⟩, T, ek, q⟩ := h
  obtain ⟨u1, u2, rfl, r1, r2⟩ := vals2 r
  obtain rfl : u1 = Value.ref a := r1
  have e2 := hc.eq r2
  subst e2
  obtain ⟨t1, ho⟩ := exo_at I.hok ea
  obtain ⟨mA, hns, hr⟩ := exd_at I.hok ed
  obtain ⟨od, hod, hl⟩ := lookIn_ns hns
  have J : PySem.W.InstAt s.heap a { cls := .ref C, dict := some d, data := .fields #[.ref t1, .none, .none, .none, .bool false, .none] } C (some od) :=
    ⟨ho, rfl, rfl, hod⟩
  exact PySem.W.kia_one (PySem.W.kitx_exc (by obtain ⟨cd, hc, _⟩ := PySem.W.any_some T.ex.hd; rw [hc]; rfl) T.ex.hg T.ex.hk T.ex.hs T.ex.ha T.ex.hn T.ex.ht T.ex.hm) I.kIn J ek (fun z => nomatch z)
    fun tk => ⟨.bl b, H, I.kept (t' := tk) fun _ _ z => z, rfl, q⟩
end
/-! ### a def, a class by its name -/
structure Ok (P : Program) (w : World) (K : Fg) (mg : Str → Option Value) (base : Heap) (k : Nat) (x : Str) (ps : List Str) (sp : Sp) : Prop where
  ex : ∃ (f : Addr) (fd : FuncData), FnOk P w K mg base CX0 k f fd ps sp ∧ mg x = some (.ref f) ∧ PySem.W.keepIn K (.ref f) = true ∧ Binds K fd ps []
structure OkC (P : Program) (w : World) (K : Fg) (mg : Str → Option Value) (base : Heap) (k : Nat) (x : Str) (C : Addr) (ps : List Str) (sp : Sp) : Prop where
  cl : XCls K C
  nm : mg x = some (.ref C)
  ex : ∃ (f : Addr) (fd : FuncData), FnOk P w K mg base CX0 k f fd ps sp ∧ PySem.W.findIn K (.ref C) "__init__" = some (some (.ref f)) ∧
    PySem.W.isFn K (.ref f) = true ∧ Binds K fd ps []
section
variable {X : Cx} {e : Expr} {es : List Expr} {t : TA} {x : Str} {p pos : Pos} {k : Nat} {ps : List Str} {sp : Sp} {C : Addr}
theorem pe_callO (O : Ok X.prog X.w X.K X.mg X.base k x ps sp) (hr : Room k X.A) (ha : PA X (e :: es) t) (hg : Gl X x := by rfl)
    (hdb : (x == ("__debug__" : Str)) = false := by decide) (he : starEach (e :: es) X.env = (false, eval e X.env) :: starEach es X.env := by rfl)
    (hpl : (backTo pos (starEach es X.env)).any (·.1) = false := by rfl) : PE X (.Call (.Name x p) (e :: es) [] pos) (tCall sp [] E0 t) := by
  obtain ⟨f, fd, G, m, kp, b⟩ := O.ex
  exact pe_call G hr hg m kp b .nil pass0 ha hdb he hpl
theorem pe_newO (O : OkC X.prog X.w X.K X.mg X.base k x C ps sp) (hr : Room (k + 1) X.A) (ha : PA X (e :: es) t) (hg : Gl X x := by rfl)
    (hdb : (x == ("__debug__" : Str)) = false := by decide) (he : starEach (e :: es) X.env = (false, eval e X.env) :: starEach es X.env := by rfl)
    (hpl : (backTo pos (starEach es X.env)).any (·.1) = false := by rfl) : PE X (.Call (.Name x p) (e :: es) [] pos) (tNew C sp [] t) := by
  obtain ⟨f, fd, G, i, kp, b⟩ := O.ex
  exact pe_new O.cl i kp G hr b .nil pass0 hg O.nm ha hdb he hpl
end
/-! ### what is said of heaps -/
theorem same_upd {H : Hp} {p : Addr} {o : HO} (h : H p = none) : Same H (upd H p o) := fun b u z => by
  rw [upd_ne (ne_of_none z h)]
  exact z
theorem same_upd' {H0 H : Hp} {p : Addr} {o : HO} (s : Same H0 H) (h : H0 p = none) : Same H0 (upd H p o) := fun b u z => by
  rw [upd_ne (ne_of_none z h)]
  exact s b u z
theorem ErrAt.same {H H' : Hp} {a C : Addr} {fs : List (Str × V)} (s : Same H H') (h : ErrAt H a C fs) : ErrAt H' a C fs :=
  let ⟨d, z1, z2⟩ := h
  ⟨d, s _ _ z1, s _ _ z2⟩
/-- all but what stands at b is as it was -/
def Keep (b : Addr) (H H' : Hp) : Prop := ∀ a o, a ≠ b → H a = some o → H' a = some o
theorem Keep.refl {b : Addr} (H : Hp) : Keep b H H := fun _ _ _ z => z
theorem Keep.trans {b : Addr} {H H1 H2 : Hp} (x : Keep b H H1) (y : Keep b H1 H2) : Keep b H H2 := fun a o n z => y a o n (x a o n z)
theorem Keep.of {b : Addr} {H H' : Hp} (s : Same H H') : Keep b H H' := fun a o _ z => s a o z
theorem Keep.upd {b : Addr} {H : Hp} {o : HO} : Keep b H (upd H b o) := fun a u n z => by
  rw [upd_ne n]
  exact z
theorem ErrAt.keep {b : Addr} {H H' : Hp} {a C : Addr} {fs : List (Str × V)} (s : Keep b H H') (h : ErrAt H a C fs) {l : List V} (hb : H b = some (.lst l)) : ErrAt H' a C fs :=
  let ⟨d, z1, z2⟩ := h
  ⟨d, s _ _ (ne_of z1 hb (by intro q; cases q)) z1, s _ _ (ne_of z2 hb (by intro q; cases q)) z2⟩
/-! ### list(text) -/
def signsV (z : Str) : List V := z.cps.toList.map fun c => V.str ⟨#[c]⟩
theorem signs_vals (z : Str) : ∀ (l : List Nat) (its : List Value), its.length = l.length →
    (∀ (j : Nat) (v : Value), its[j]? = some v → ∃ (c : Nat) (u : Tok), l[j]? = some c ∧ v = Value.str ⟨#[c]⟩ u) → Vals (l.map fun c => V.str ⟨#[c]⟩) its
  | [], [], _, _ => .nil
  | [], _ :: _, h, _ => absurd h (by simp)
  | _ :: _, [], h, _ => absurd h (by simp)
  | c :: l, v :: its, h, k => by
    refine .cons ?_ (signs_vals z l its (by simpa using h) fun j u q => ?_)
    · obtain ⟨c', u, e1, e2⟩ := k 0 v rfl
      cases e1
      exact ⟨u, e2⟩
    · exact k (j + 1) u (by simpa using q)
theorem call_list_text {X : Cx} (hc : X.calm = true) : CallR X (.type "list") (fun xs H Q => ∃ z, xs = [.str z] ∧ z.length ≤ sizeLine ∧
    ∀ l, H l = none → Q (.ref l) (upd H l (.lst (signsV z)))) := by
  intro pins s σ H xs us Q I r h
  obtain ⟨z, rfl, hz, q⟩ := h
  obtain ⟨u, rfl, t, rfl⟩ := vals1 r
  have hl : z.cps.size ≤ sizeLine := hz
  refine call_list_str (hn := hl) (I.ok.hd hc) z t fun h' tk acc' c' hk hS hacc => ?_
  have hn : H s.heap.objs.size = none := I.hok.fresh (Nat.le_refl _)
  have hv : Vals (signsV z) acc'.toList := by
    refine signs_vals z _ _ (by rw [Array.length_toList, Array.length_toList, hacc.1]) fun j v q => ?_
    obtain ⟨c, u, e1, e2⟩ := hacc.2 j v (by rw [← Array.getElem?_toList]; exact q)
    exact ⟨c, u, by rw [Array.getElem?_toList]; exact e1, e2⟩
  refine ⟨.ref s.heap.objs.size, _, I.laid (a := s.heap.objs.size) (o := .lst (signsV z)) (t' := tk) hk (Nat.le_refl _) ⟨?_, acc'.toList, c', hv, ?_⟩, rfl, q _ hn⟩
  · show (z.cps.toList.map _).length ≤ sizeLine
    rw [List.length_map, Array.length_toList]
    exact hl
  · simpa using hS
/-! ### where ways meet: what is wanted between -/
section
variable {X : Cx} {e : Expr} {te : TE} {tt : TT} {st : Stmt} {ts : TS}
def tMid (t : TE) : TE := fun σ H Q => ∃ Q0 : VK, t σ H Q0 ∧ ∀ x H1, Q0 x H1 → Q x H1
theorem pe_mid (h : PE X e te) : PE X e (tMid te) := by
  refine ⟨fun pins s σ H Q I hq => ?_⟩
  obtain ⟨Q0, h0, k⟩ := hq
  exact thn (h.run pins s σ H Q0 I h0) fun u s1 hu => by
    obtain ⟨v, H1, I1, r, q⟩ := hu
    exact ⟨v, H1, I1, r, k _ _ q⟩
def bMid (t : TT) : TT := fun σ H Q => ∃ Q0 : Bool → Hp → Prop, t σ H Q0 ∧ ∀ x H1, Q0 x H1 → Q x H1
theorem pt_mid (h : PT X e tt) : PT X e (bMid tt) := by
  refine ⟨fun pins s σ H Q I hq => ?_⟩
  obtain ⟨Q0, h0, k⟩ := hq
  exact thn (h.run pins s σ H Q0 I h0) fun u s1 hu => by
    obtain ⟨H1, I1, q⟩ := hu
    exact ⟨H1, I1, k _ _ q⟩
def sMid (t : TS) : TS := fun D σ H => ∃ M : L2.St → Hp → Prop, t { D with nx := M } σ H ∧ ∀ σ' H', M σ' H' → D.nx σ' H'
theorem ps_mid (h : PS X st ts) : PS X st (sMid ts) := by
  refine ⟨fun pins s σ H D I hq => ?_⟩
  obtain ⟨M, h0, k⟩ := hq
  refine thn (h.run pins s σ H _ I h0) fun f s1 hf => ?_
  cases f with
  | next =>
    obtain ⟨σ', H', I', q⟩ := hf
    exact ⟨σ', H', I', k _ _ q⟩
  | ret v => exact hf
  | brk => exact hf
  | cont => exact hf
end
theorem same_keep {H0 H H' : Hp} {b : Addr} (s : Same H0 H) (n : H0 b = none) (k : Keep b H H') : Same H0 H' := fun a o z =>
  k a o (ne_of_none z n) (s a o z)
/-! ### lists of truth values, compared -/
theorem dp_bools {K : Fg} {H : Hp} {p : Addr} {bs : List Bool} (h : H p = some (.lst (bs.map V.bl))) : Dp K H (.ref p) (.list (bs.map PyData.bool)) := by
  refine .lst (SqL.of h) ?_
  clear h
  induction bs with
  | nil => exact .nil
  | cons b bs ih => exact .cons (.bl b) ih
theorem can_bools (bs : List Bool) : PyData.canLay0 (.list (bs.map PyData.bool)) = true := by
  rw [PyData.canLay0]
  induction bs with
  | nil => rfl
  | cons b bs ih =>
    rw [List.map_cons, PyData.canLayAll0, PyData.canLay0, ih]
    rfl
theorem depth_bools (bs : List Bool) : PyData.depthAll (bs.map PyData.bool) ≤ 1 := by
  induction bs with
  | nil => simp [PyData.depthAll]
  | cons b bs ih => simp only [List.map_cons, PyData.depthAll, PyData.depth]; omega
theorem shaped_bools (bs : List Bool) : SeqAt.shaped (.list (bs.map PyData.bool)) = true := by
  unfold SeqAt.shaped
  rw [can_bools, Bool.true_and]
  refine decide_eq_true ?_
  have q := depth_bools bs
  rw [PyData.depth]
  omega
/-- two lists of the same truth values are not unlike -/
theorem ne_bools {K : Fg} {H : Hp} {p q : Addr} {bs : List Bool} {Q : VK} (h1 : H p = some (.lst (bs.map V.bl))) (h2 : H q = some (.lst (bs.map V.bl))) (k : Q (.bl false) H) :
    rNeD K (.ref p) (.ref q) H Q := by
  refine ⟨_, _, dp_bools h1, dp_bools h2, shaped_bools bs, shaped_bools bs, ?_⟩
  rw [SeqAt.eqv_refl _ (can_bools bs)]
  exact k
end EV

/-! rules for objects of own classes: methods by one word, own __contains__, __len__, __str__, cls(..), own errors raised -/
namespace EV
open PySem PySem.Spec PyProof.Rows L2
/-- a def that may raise -/
structure OkX (P : Program) (w : World) (K : Fg) (mg : Str → Option Value) (base : Heap) (k : Nat) (x : Str) (ps : List Str) (sp : Sp) : Prop where
  ex : ∃ (f : Addr) (fd : FuncData), FnOk P w K mg base (L2.CX P w) k f fd ps sp ∧ mg x = some (.ref f) ∧ PySem.W.keepIn K (.ref f) = true ∧ Binds K fd ps []
/-- a method of the class at C (cx: what leaves it) -/
structure OkM (cx : CXT) (P : Program) (w : World) (K : Fg) (mg : Str → Option Value) (base : Heap) (k : Nat) (C : Addr) (m : Str) (ps : List Str) (sp : Sp) : Prop where
  ex : ∃ (f : Addr) (fd : FuncData), FnOk P w K mg base cx k f fd ps sp ∧ Meth K C m f ∧ Binds K fd ps []
/-- the class at C, made by its own __init__ -/
structure OkI (P : Program) (w : World) (K : Fg) (mg : Str → Option Value) (base : Heap) (k : Nat) (x : Str) (C : Addr) (ps : List Str) (sp : Sp) : Prop where
  nm : mg x = some (.ref C)
  ex : ∃ (f : Addr) (fd : FuncData), FnOk P w K mg base CX0 k f fd ps sp ∧ Mk K C f ∧ Binds K fd ps []
/-- a classmethod of the class at C -/
structure OkCM (P : Program) (w : World) (K : Fg) (mg : Str → Option Value) (base : Heap) (k : Nat) (C : Addr) (m : Str) (ps : List Str) (sp : Sp) : Prop where
  ex : ∃ (p g : Addr) (fd : FuncData) (mc : Value), FnOk P w K mg base (L2.CX P w) k g fd ps sp ∧ ClX.CRead K C mc ∧ ClX.CMet K C mc m p g ∧ Binds K fd ps []
section
variable {X : Cx} {e o : Expr} {es : List Expr} {t : TA} {ta : TE} {x m : Str} {p pos apos : Pos} {k : Nat} {ps : List Str} {sp : Sp} {C : Addr} {W : WX}
/-! ### calls whose error is taken by W -/
theorem pe_callX (tk : Takes X W) (O : OkX X.prog X.w X.K X.mg X.base k x ps sp) (hr : Room k X.A) (ha : PA X (e :: es) t) (hg : Gl X x := by rfl)
    (hdb : (x == ("__debug__" : Str)) = false := by decide) (he : starEach (e :: es) X.env = (false, eval e X.env) :: starEach es X.env := by rfl)
    (hpl : (backTo pos (starEach es X.env)).any (·.1) = false := by rfl) : PE X (.Call (.Name x p) (e :: es) [] pos) (tCallS sp (WE W) t) := by
  obtain ⟨f, fd, G, m, kp, b⟩ := O.ex
  exact pe_callS G hr hg m kp b (fun σ => passAt tk σ) ha hdb he hpl
def tMethS (C : Addr) (m : Str) (sp : Sp) (E : L2.St → XK) (ta : TE) (t : TA) : TE := fun σ H Q => ta σ H fun x H1 => ∃ a dx fs, x = .ref a ∧ H1 a = some (.ins C dx fs) ∧ fs.lookup m = none ∧ t σ H1 fun vs H2 => sp (x :: vs) H2 Q (E σ)
theorem pe_methX {pl : Sem Bool} (tk : Takes X W) (he : PE X o ta) (c : Cls X.K C) (O : OkM (L2.CX X.prog X.w) X.prog X.w X.K X.mg X.base k C m ps sp) (hr : Room k X.A) (ha : PA X (e :: es) t)
    (hst : starEach (e :: es) X.env = (false, eval e X.env) :: starEach es X.env := by rfl) (hpl : (backTo pos (starEach es X.env)).any (·.1) = false := by rfl)
    (ht : eval (.Call (.Attribute o m apos) (e :: es) [] pos) X.env = (do
      let ov ← eval o X.env
      standAt apos.atName
      let (f, first) ← holding [ov] (getMethod ov m pl)
      callWith pos f first (backTo pos (starEach (e :: es) X.env)) (backToKw pos (keywordEach [] X.env))) := by rfl) :
    PE X (.Call (.Attribute o m apos) (e :: es) [] pos) (tMethS C m sp (WE W) ta t) := by
  obtain ⟨f, fd, F, hm, hb⟩ := O.ex
  refine ⟨fun pins s σ H Q I h => ?_⟩
  refine PySem.W.methodCall_KW (pl := pl) (thn (he.run pins s σ H _ I h) fun u s1 ⟨x, H1, I1, rx, a, dx, fs, ex, ea, l, q⟩ => ?_) ht
  subst ex
  obtain rfl : u = Value.ref a := rx
  refine getmeth_ok I1 ea c hm l ?_
  refine PySem.W.callWith_K (first := [.ref a]) (h₀ := X.base) I.ok.mod.kin hm.kp (thn (ha.run pos pins s1 σ H1 _ I1 q) fun us s2 ⟨vs, H2, I2, r, q2⟩ => ⟨I2.kIn, ?_⟩) hst hpl
  exact run_fnS (us := .ref a :: us) (vs := .ref a :: vs) (E := WE W) F hr hb (passAt tk σ) I2 (.cons rfl r) q2
theorem pe_methO {pl : Sem Bool} (he : PE X o ta) (c : Cls X.K C) (O : OkM CX0 X.prog X.w X.K X.mg X.base k C m ps sp) (hr : Room k X.A) (ha : PA X (e :: es) t)
    (hst : starEach (e :: es) X.env = (false, eval e X.env) :: starEach es X.env := by rfl) (hpl : (backTo pos (starEach es X.env)).any (·.1) = false := by rfl)
    (ht : eval (.Call (.Attribute o m apos) (e :: es) [] pos) X.env = (do
      let ov ← eval o X.env
      standAt apos.atName
      let (f, first) ← holding [ov] (getMethod ov m pl)
      callWith pos f first (backTo pos (starEach (e :: es) X.env)) (backToKw pos (keywordEach [] X.env))) := by rfl) :
    PE X (.Call (.Attribute o m apos) (e :: es) [] pos) (tMeth C m sp [] E0 ta t) := by
  obtain ⟨f, fd, F, hm, hb⟩ := O.ex
  exact pe_meth he c hm F hr hb .nil pass0 ha hst hpl ht
theorem pe_methO0 {pl : Sem Bool} (he : PE X o ta) (c : Cls X.K C) (O : OkM CX0 X.prog X.w X.K X.mg X.base k C m ps sp) (hr : Room k X.A)
    (ht : eval (.Call (.Attribute o m apos) [] [] pos) X.env = (do
      let ov ← eval o X.env
      standAt apos.atName
      let (f, first) ← holding [ov] (getMethod ov m pl)
      callWith pos f first (backTo pos (starEach [] X.env)) (backToKw pos (keywordEach [] X.env))) := by rfl) :
    PE X (.Call (.Attribute o m apos) [] [] pos) (tMeth C m sp [] E0 ta tNil) := by
  obtain ⟨f, fd, F, hm, hb⟩ := O.ex
  exact pe_meth0 he c hm F hr hb .nil pass0 ht
/-- C(e, ..), the class by its name -/
theorem pe_makeO (O : OkI X.prog X.w X.K X.mg X.base k x C ps sp) (hr : Room (k + 1) X.A) (ha : PA X (e :: es) t) (hg : Gl X x := by rfl)
    (hdb : (x == ("__debug__" : Str)) = false := by decide) (he : starEach (e :: es) X.env = (false, eval e X.env) :: starEach es X.env := by rfl)
    (hpl : (backTo pos (starEach es X.env)).any (·.1) = false := by rfl) : PE X (.Call (.Name x p) (e :: es) [] pos) (tMake C sp [] E0 t) := by
  obtain ⟨f, fd, F, M, b⟩ := O.ex
  exact pe_make M F hr hg O.nm b .nil pass0 ha hdb he hpl
/-- cls(e, ..), the class in a slot -/
def tMakeV (C : Addr) (sp : Sp) (tf : TE) (t : TA) : TE := fun σ H Q => tf σ H fun c H1 => c = .ref C ∧ tMake C sp [] E0 t σ H1 Q
theorem pe_makeV {y : Str} (O : OkI X.prog X.w X.K X.mg X.base k y C ps sp) (hr : Room (k + 1) X.A) (hf : PE X (.Name x p) ta) (ha : PA X (e :: es) t)
    (he : starEach (e :: es) X.env = (false, eval e X.env) :: starEach es X.env := by rfl)
    (hpl : (backTo pos (starEach es X.env)).any (·.1) = false := by rfl) : PE X (.Call (.Name x p) (e :: es) [] pos) (tMakeV C sp ta t) := by
  obtain ⟨f, fd, F, M, b⟩ := O.ex
  refine ⟨fun pins s σ H Q I h => ?_⟩
  refine wpAny_Call_Name_kw (thn (hf.run pins s σ H _ I h) fun u s1 ⟨c, H1, I1, rc, ec, q1⟩ => ?_)
  subst ec
  obtain rfl : u = Value.ref C := rc
  refine PySem.W.callWith_K (h₀ := X.base) I.ok.mod.kin M.kp (thn (ha.run pos pins s1 σ H1 _ I1 q1) fun us s2 ⟨vs, H2, I2, r, q⟩ => ⟨I2.kIn, ?_⟩) he hpl
  exact run_make M F hr b .nil pass0 I2 r q
/-! ### x in o, len(o), str(o) -/
theorem ins_inst {pins : List (Addr × Obj)} {σ : L2.St} {H : Hp} {s : Shared} {a dx : Addr} {fs : List (Str × V)} (I : Inv X pins σ H s) (ea : H a = some (.ins C dx fs)) : ∃ ox od, PySem.W.InstAt s.heap a ox C (some od) := by
  obtain ⟨mA, O, _, _, _, _⟩ := ins_get I.hok ea
  obtain ⟨od, J, _⟩ := O.look
  exact ⟨_, od, J⟩
def rInOwn (C : Addr) (sp : Sp) (neg : Bool) : R2 := fun x y H Q => ∃ a dx fs, y = .ref a ∧ H a = some (.ins C dx fs) ∧ sp [.ref a, x] H (fun v H2 => ∃ b : Bool, v = .bl b ∧ Q (.bl (if neg then !b else b)) H2) E0
theorem op_inO (O : OkM CX0 X.prog X.w X.K X.mg X.base k C "__contains__" ps sp) (hr : Room k X.A) : OpR X (compareOp .In) (rInOwn C sp false) := by
  intro pins s σ H x y v u Q I rx ry h
  obtain ⟨a, dx, fs, rfl, ea, q⟩ := h
  obtain rfl : u = Value.ref a := ry
  obtain ⟨f, fd, F, hm, hb⟩ := O.ex
  obtain ⟨ox, od, J⟩ := ins_inst I ea
  obtain ⟨m, fr⟩ := I.fr
  refine PySem.W.in_K fr I.ok.mod.kin J hm.at_ hm.fn ?_
  refine thn (run_fn (us := [.ref a, v]) (vs := [.ref a, x]) (dvs := []) F hr hb .nil pass0 I (.cons rfl (.cons rx .nil)) q) fun r s1 hh => ?_
  obtain ⟨z, H2, I2, rz, b, ez, q2⟩ := hh
  subst ez
  obtain rfl : r = Value.bool b := rz
  exact wpAny_truthy_bool ⟨.bl b, H2, I2, rfl, q2⟩
theorem op_notInO (O : OkM CX0 X.prog X.w X.K X.mg X.base k C "__contains__" ps sp) (hr : Room k X.A) : OpR X (compareOp .NotIn) (rInOwn C sp true) := by
  intro pins s σ H x y v u Q I rx ry h
  obtain ⟨a, dx, fs, rfl, ea, q⟩ := h
  obtain rfl : u = Value.ref a := ry
  obtain ⟨f, fd, F, hm, hb⟩ := O.ex
  obtain ⟨ox, od, J⟩ := ins_inst I ea
  obtain ⟨m, fr⟩ := I.fr
  refine PySem.W.notIn_K fr I.ok.mod.kin J hm.at_ hm.fn ?_
  refine thn (run_fn (us := [.ref a, v]) (vs := [.ref a, x]) (dvs := []) F hr hb .nil pass0 I (.cons rfl (.cons rx .nil)) q) fun r s1 hh => ?_
  obtain ⟨z, H2, I2, rz, b, ez, q2⟩ := hh
  subst ez
  obtain rfl : r = Value.bool b := rz
  exact wpAny_truthy_bool ⟨.bl (!b), H2, I2, rfl, q2⟩
/-- a def, run where a builtin runs -/
theorem run_in {A : Around} {Q : Value → Shared → Prop} {E : Value → Shared → Prop} {f : Addr} {fd : FuncData} {ps : List Str} {sp : Sp} {pins : List (Addr × Obj)} {σ : L2.St} {H : Hp} {s : Shared} {us : List Value} {vs : List V} {QV : VK}
    (F : FnOk X.prog X.w X.K X.mg X.base CX0 k f fd ps sp) (hr : Room k A) (hf : A.frames = X.A.frames) (hb : Binds X.K fd ps []) (I : Inv X pins σ H s) (r : Vals vs us) (h : sp vs H QV E0)
    (hQ : ∀ v s', EP X pins σ QV v s' → Q v s') : wpAny (model X.prog X.w) A (call (.ref f) us) Q E s := by
  have hl : us.length = ps.length := by rw [← r.length]; exact F.len _ _ _ _ h
  have b := hb s us I.kIn (by rw [List.append_nil]; exact hl)
  rw [List.append_nil] at b
  have e0 := I.env0
  refine wpAny_call (codeAny_mono (F.run A X.stack s H ⟨us, []⟩ us vs QV E0 hr { e0 with frames := hf.trans e0.frames } b r h) fun z s' hq => ?_)
  cases z with
  | error er => exact False.elim hq
  | ok fl =>
    cases fl with
    | ret u => exact hQ _ _ (I.after hq)
    | next => exact False.elim hq
    | brk => exact False.elim hq
    | cont => exact False.elim hq
theorem call_lenO (O : OkM CX0 X.prog X.w X.K X.mg X.base k C "__len__" ps sp) (hr : Room (k + 1) X.A) : CallR X (.builtin "len") (fun xs H Q => ∃ a dx fs, xs = [.ref a] ∧ H a = some (.ins C dx fs) ∧
    sp [.ref a] H (fun v H2 => ∃ n : Int, v = .int n ∧ 0 ≤ n ∧ n < 2 ^ 63 ∧ Q (.int n) H2) E0) := by
  intro pins s σ H xs us Q I r h
  obtain ⟨a, dx, fs, rfl, ea, q⟩ := h
  obtain ⟨u, rfl, ru⟩ := vals1 r
  obtain rfl : u = Value.ref a := ru
  obtain ⟨f, fd, F, hm, hb⟩ := O.ex
  obtain ⟨ox, od, J⟩ := ins_inst I ea
  obtain ⟨m, fr⟩ := I.fr
  refine PySem.W.len_K fr I.ok.mod.kin J hm.at_ hm.fn (run_in (vs := [.ref a]) F hr.in1 rfl hb I (.cons rfl .nil) q fun v s' hh => ?_)
  obtain ⟨z, H2, I2, rz, n, ez, n0, n1, q2⟩ := hh
  subst ez
  obtain ⟨t, rfl⟩ := rz
  exact ⟨⟨n0, n1⟩, ⟨.int n, H2, I2.tok _, ⟨_, rfl⟩, q2⟩⟩
theorem call_strO (O : OkM CX0 X.prog X.w X.K X.mg X.base k C "__str__" ps sp) (hr : Room (k + 2) X.A) : CallR X (.type "str") (fun xs H Q => ∃ a dx fs, xs = [.ref a] ∧ H a = some (.ins C dx fs) ∧
    sp [.ref a] H (fun v H2 => ∃ z : Str, v = .str z ∧ Q (.str z) H2) E0) := by
  intro pins s σ H xs us Q I r h
  obtain ⟨a, dx, fs, rfl, ea, q⟩ := h
  obtain ⟨u, rfl, ru⟩ := vals1 r
  obtain rfl : u = Value.ref a := ru
  obtain ⟨f, fd, F, hm, hb⟩ := O.ex
  obtain ⟨ox, od, J⟩ := ins_inst I ea
  have h2 : Room k X.A.in1.in1 := (Room.in1 (k := k + 1) hr).in1
  refine PySem.W.kso_call (h2.units0) I.kIn J hm.at_ hm.fn (run_in (vs := [.ref a]) F h2 rfl hb I (.cons rfl .nil) q fun v s' hh => ?_)
  obtain ⟨z, H2, I2, rz, y, ez, q2⟩ := hh
  subst ez
  obtain ⟨t, rfl⟩ := rz
  exact ⟨.str y, H2, I2, ⟨_, rfl⟩, q2⟩
/-! ### a == b, both of the class at C, by C's own __eq__ -/
def rEqO (C : Addr) (sp : Sp) : R2 := fun x y H Q => ∃ a b dx dy fs gs, x = .ref a ∧ y = .ref b ∧ H a = some (.ins C dx fs) ∧ H b = some (.ins C dy gs) ∧
  sp [.ref a, .ref b] H (fun v H2 => ∃ c : Bool, v = .bl c ∧ Q (.bl c) H2) E0
theorem op_eqO (O : OkM CX0 X.prog X.w X.K X.mg X.base k C "__eq__" ps sp) (hr : Room k X.A) : OpR X (compareOp .Eq) (rEqO C sp) := by
  intro pins s σ H x y v u Q I rx ry h
  obtain ⟨a, b, dx, dy, fs, gs, rfl, rfl, ea, eb, q⟩ := h
  obtain rfl : v = Value.ref a := rx
  obtain rfl : u = Value.ref b := ry
  obtain ⟨f, fd, F, hm, hb⟩ := O.ex
  obtain ⟨ox, od, J⟩ := ins_inst I ea
  obtain ⟨oy, od', J'⟩ := ins_inst I eb
  obtain ⟨m, fr⟩ := I.fr
  show wpAny (model X.prog X.w) X.A (richCompare .Eq (.ref a) (.ref b)) (EP X pins σ Q) X.xe s
  refine PySem.W.cmp_K (op := .Eq) (tb := .ref C) hr.units0 fr I.ok.mod.kin J J'.type (by simp [PySem.W.notFirst]) hm.at_ hm.fn ?_
  refine thn (run_fn (us := [.ref a, .ref b]) (vs := [.ref a, .ref b]) (dvs := []) F hr hb .nil pass0 I (.cons rfl (.cons rfl .nil)) q) fun r s1 hh => ?_
  obtain ⟨z, H2, I2, rz, c, ez, q2⟩ := hh
  subst ez
  obtain rfl : r = Value.bool c := rz
  exact ⟨.bl c, H2, I2, rfl, q2⟩
/-! ### C.m(..), m a classmethod that may raise -/
theorem pe_cmethX {pl : Sem Bool} (tk : Takes X W) (he : PE X o ta) (O : OkCM X.prog X.w X.K X.mg X.base k C m ps sp) (hr : Room k X.A) (ha : PA X (e :: es) t)
    (hst : starEach (e :: es) X.env = (false, eval e X.env) :: starEach es X.env := by rfl) (hpl : (backTo pos (starEach es X.env)).any (·.1) = false := by rfl)
    (ht : eval (.Call (.Attribute o m apos) (e :: es) [] pos) X.env = (do
      let ov ← eval o X.env
      standAt apos.atName
      let (f, first) ← holding [ov] (getMethod ov m pl)
      callWith pos f first (backTo pos (starEach (e :: es) X.env)) (backToKw pos (keywordEach [] X.env))) := by rfl) :
    PE X (.Call (.Attribute o m apos) (e :: es) [] pos) (fun σ H Q => ta σ H fun x H1 => x = .ref C ∧ t σ H1 fun vs H2 => sp (.ref C :: vs) H2 Q (WE W σ)) := by
  obtain ⟨p, g, fd, mc, F, r, c, hb⟩ := O.ex
  refine ⟨fun pins s σ H Q I h => ?_⟩
  refine PySem.W.methodCall_KW (pl := pl) (thn (he.run pins s σ H _ I h) fun u s1 ⟨x, H1, I1, rx, ex, q⟩ => ?_) ht
  subst ex
  obtain rfl : u = Value.ref C := rx
  refine ClX.getmethcm_ok I1 r c fun s2 I2 => ?_
  refine ClX.callwith_cm I2 (ClX.base_none I1 (Nat.le_refl _)) c.fi (thn (ha.run pos _ s2 σ H1 _ I2 q) fun us s3 ⟨vs, H2, I3, rv, q2⟩ => ⟨⟨ClX.pin_at I3, I3.kIn⟩, ?_⟩) hst hpl
  have hl : (Value.ref C :: us).length = ps.length := by
    have z : Vals (V.ref C :: vs) (Value.ref C :: us) := .cons rfl rv
    rw [← z.length]
    exact F.len _ _ _ _ q2
  have bb := hb s3 (.ref C :: us) I3.kIn (by rw [List.append_nil]; exact hl)
  rw [List.append_nil] at bb
  refine thn (Q := EP X ((s1.heap.objs.size, PySem.W.methodObj (.ref g) (.ref C)) :: pins) σ Q) (wpAny_call (PySem.W.method_call (ClX.pin_at I3) (codeAny_mono (F.run X.A X.stack s3 H2 ⟨.ref C :: us, []⟩ (.ref C :: us) (.ref C :: vs) Q (WE W σ) hr I3.env0 bb (.cons rfl rv) q2) fun z s' hq => ?_))) fun _ _ y => ClX.unpinE y
  cases z with
  | error er => exact passAt tk σ _ _ _ _ _ I3 hq
  | ok fl =>
    cases fl with
    | ret u => exact I3.after hq
    | next => exact False.elim hq
    | brk => exact False.elim hq
    | cont => exact False.elim hq
/-! ### raise C(e, ..), C an own error with its own __init__ -/
theorem pmk_x {C : Addr} (O : OkC X.prog X.w X.K X.mg X.base k x C ps sp) (ty : PySem.W.typeIn X.K (.ref C) = some (.type "type")) (hr : Room (k + 1) X.A) (ha : PA X (e :: es) t) (hg : Gl X x := by rfl)
    (hdb : (x == ("__debug__" : Str)) = false := by decide) (he : starEach (e :: es) X.env = (false, eval e X.env) :: starEach es X.env := by rfl)
    (hpl : (backTo pos (starEach es X.env)).any (·.1) = false := by rfl) : PMk X (.Call (.Name x p) (e :: es) [] pos) (tMkO C sp [] t) := by
  obtain ⟨fI, fd, F1, iC, tI, hb⟩ := O.ex
  intro pins s σ H Q I h
  obtain ⟨B, nI, iI, bmB, FB, SF, q1, q2⟩ := O.cl.base
  refine wpAny_Call_Name_kw (ld_glob I hg O.nm ?_ hdb)
  refine PySem.W.callWith_K (h₀ := X.base) I.ok.mod.kin O.cl.kC (thn (ha.run pos pins s σ H _ I h) fun us s1 hu => ?_) he hpl
  obtain ⟨vs, H1, I1, r1, hz, q⟩ := hu
  refine ⟨I1.kIn, ?_⟩
  show wpAny _ _ (call (.ref C) us) _ _ _
  obtain ⟨nm, N', qn, bs, bm, hdct, sn, sub, ab, col, dd, k0, k1, k2, k3, k5, hC, hT⟩ := PySem.W.excInit_of I1.kIn q1
  obtain ⟨oI, hoI, hcI⟩ : ∃ oI, s1.heap.get? fI = some oI ∧ oI.cls = .type "function" := by
    obtain ⟨o, z1, z2⟩ := Option.map_eq_some_iff.mp (show (X.K.lookup fI).map (·.cls) = some (.type "function") from beq_iff_eq.mp tI)
    exact ⟨o, I1.kIn _ _ z1, z2⟩
  obtain ⟨hp, g, dr, tk, os⟩ := s1
  have hsz : hp.objs.size ≤ hp.objs.size + 1 := Nat.le_succ _
  have hq := q (hp.objs.size + 1) (I1.hok.fresh hsz)
  rw [List.append_nil] at hq
  have kk : ∀ b o, hp.get? b = some o → ((hp.push (PySem.W.kdv_tup us)).push (PySem.HandSPX.excO C hp.objs.size)).get? b = some o :=
    fun b o z => Heap.get?_push_of_some _ (Heap.get?_push_of_some _ z)
  have hget : ((hp.push (PySem.W.kdv_tup us)).push (PySem.HandSPX.excO C hp.objs.size)).get? (hp.objs.size + 1) = some (PySem.HandSPX.excO C hp.objs.size) := by heap_get
  have I2 := I1.laid (t' := tk) (a := hp.objs.size + 1) (o := exo (hp.objs.size + 1) C none)
    (h' := (hp.push (PySem.W.kdv_tup us)).push (PySem.HandSPX.excO C hp.objs.size)) kk hsz (exo_ok hget)
  have r2 : Vals (V.ref (hp.objs.size + 1) :: vs) (Value.ref (hp.objs.size + 1) :: us) := .cons rfl r1
  have hl : (Value.ref (hp.objs.size + 1) :: us ++ []).length = ps.length := by
    have z := r2.length
    rw [F1.len _ _ _ _ hq] at z
    rw [List.append_nil]
    exact z.symm
  have bb := hb _ (Value.ref (hp.objs.size + 1) :: us) I2.kIn hl
  rw [List.append_nil] at bb
  have hus : us.length ≤ sizeLine := by
    rw [← Paired.length r1, sizeLine_eq]
    omega
  refine wpAny_call (PySem.HandSPX.call_own FB hT hC (PySem.W.looks_findIn I1.kIn iC) (fun self => PySem.W.exc_bind hoI hcI self) hus
    (codeAny_mono (F1.run _ X.stack _ _ ⟨Value.ref (hp.objs.size + 1) :: us, []⟩ (Value.ref (hp.objs.size + 1) :: us) _ _ (fun _ _ _ => False)
      (hr.make C us []) (I2.env0.make C us []) bb r2 hq) fun r s' hq' => ?_))
  cases r with
  | error er => exact False.elim hq'
  | ok fl =>
    cases fl with
    | ret u =>
      obtain ⟨v, H2, os2, bare2, un2, hok2, rv, ev, d, fs, ea, ed, hd1, q2⟩ := hq'
      subst ev
      obtain ⟨h2, g2, d2, t2, os'⟩ := s'
      exact ⟨rv, mk_end (raises_own O.cl.ex.hs ty) I1 hsz kk un2 hok2 os2 bare2 ea ed hd1 q2⟩
    | next => exact False.elim hq'
    | brk => exact False.elim hq'
    | cont => exact False.elim hq'
/-- a global by its name, its value known up to the token -/
theorem pe_gv {v : V} {x : Str} {pos : Pos} (h : ∃ u, X.mg x = some u ∧ RelV v u) (hg : Gl X x := by rfl) (hd : (x == ("__debug__" : Str)) = false := by decide) : PE X (.Name x pos) (tC v) := by
  obtain ⟨u, hm, r⟩ := h
  exact pe_glob hg hm r hd
/-- isinstance(e, c), e the error that the suite holds -/
theorem call_isEX {a D : Addr} {oe : Obj} {cls : Value} {d : Option Addr} {pn : List (Addr × Obj)} (T : ExcC X.K D) (hz : Zc cls d oe) (hf : ∃ vs, oe.data = .fields vs) : CallR (X.suite a ((a, oe) :: pn)) (.builtin "isinstance")
    (fun xs H Q => ∃ (c : V) (cv : Value) (b : Bool) (dd : Addr) (fs : List (Str × V)), xs = [.ref a, c] ∧ cls = .ref D ∧ d = some dd ∧ H dd = some (.xd fs) ∧ (∀ u, RelV c u → u = cv) ∧ PySem.W.kitOne X.K (.ref D) cv = some b ∧ Q (.bl b) H) := by
  intro pins s σ H xs us Q I r h
  obtain ⟨c, cv, b, dd, fs, rfl, ec, edd, ed, hcv, e, q⟩ := h
  obtain ⟨u1, u2, rfl, r1, r2⟩ := vals2 r
  obtain rfl : u1 = Value.ref a := r1
  have e2 := hcv _ r2
  subst e2
  subst ec
  subst edd
  obtain ⟨ha, _⟩ := I.pin (a, oe) (List.mem_append_left _ List.mem_cons_self)
  obtain ⟨vs, hd⟩ := hf
  have hx : ObjOk X.prog X.w H s.heap dd (.xd fs) := I.hok dd _ ed
  obtain ⟨mA, hns, hr⟩ := hx
  obtain ⟨od, ho, hl⟩ := lookIn_ns hns
  have J : PySem.W.InstAt s.heap a oe D (some od) := ⟨ha, hz.1, by unfold PySem.W.notCls; rw [hd] <;> rfl, by rw [hz.2]; exact ho⟩
  exact PySem.W.kia_one (PySem.W.kitx_exc (by obtain ⟨cd, hc, _⟩ := PySem.W.any_some T.hd; rw [hc]; rfl) T.hg T.hk T.hs T.ha T.hn T.ht T.hm) I.kIn J e (fun z => nomatch z)
    fun tk => ⟨.bl b, H, I.kept (t' := tk) fun _ _ z => z, rfl, q⟩
/-! ### static methods -/
/-- C.m is a static method: its record at p, its def at f -/
structure SM (K : Fg) (C : Addr) (m : Str) (f : Addr) : Prop where
  ex : ∃ (mc : Value) (p : Addr) (rest : List Value), ClX.CRead K C mc ∧ PySem.W.findCls K (.ref C) mc m = some (.get (.builtin "staticmethod.__get__") (.ref p) .none (.ref C)) ∧
    PySem.W.recIn K p "staticmethod" = some (.ref f :: rest)
  kp : PySem.W.keepIn K (.ref f) = true
/-- .. reached through an instance -/
structure SMI (K : Fg) (C : Addr) (m : Str) (f : Addr) : Prop where
  pg : PySem.W.plainGet K C Str.empty = true
  ic : PySem.W.isClsIn K C = true
  cp : PySem.W.copiedNames.contains m = false
  ex : ∃ (p : Addr) (rest : List Value), PySem.W.findIn K (.ref C) m = some (some (.ref p)) ∧ PySem.W.typeIn K (.ref p) = some (.type "staticmethod") ∧
    PySem.W.specialIn K (.ref p) "__get__" = some (some (.builtin "staticmethod.__get__")) ∧ PySem.W.takesIn K (.ref p) = some false ∧ PySem.W.recIn K p "staticmethod" = some (.ref f :: rest)
  kp : PySem.W.keepIn K (.ref f) = true
theorem SMI.get' {K : Fg} {C f : Addr} {m : Str} (k : SMI K C m f) : PySem.W.plainGet K C m = true := k.pg
section
variable {X : Cx} {e o : Expr} {es : List Expr} {t tk : TA} {ta : TE} {x m : Str} {p pos apos : Pos} {k : Nat} {ps ks : List Str} {sp : Sp} {C f : Addr} {fd : FuncData} {kws : List Keyword} {ds : List Value} {dvs : List V}
  {g : List Value → List Value → List Value} {gV : List V → List V → List V} {pins : List (Addr × Obj)} {σ : L2.St} {H : Hp} {s : Shared}
theorem getsm_ok {pl : Sem Bool} {A : Around} {E : Value → Shared → Prop} {Q : Value × List Value → Shared → Prop} (I : Inv X pins σ H s) (S : SM X.K C m f) (h : ∀ s', Inv X pins σ H s' → Q (.ref f, []) s') :
    wpAny (model X.prog X.w) A (getMethod (.ref C) m pl) Q E s := by
  obtain ⟨mc, q, rest, r, at_, rc⟩ := S.ex
  refine PySem.W.method_cls I.kIn r.ga (PySem.W.cls_bind I.kIn r.rd at_ ?_)
  exact wpAny_call (PySem.W.sm_get (s := { s with toks := s.toks + 1 }) I.kIn rc (PySem.W.handed_on rfl (h _ (I.tok _))))
theorem getsmi_ok {pl : Sem Bool} {A : Around} {E : Value → Shared → Prop} {Q : Value × List Value → Shared → Prop} {a dx : Addr} {fs : List (Str × V)} (I : Inv X pins σ H s) (S : SMI X.K C m f) (ea : H a = some (.ins C dx fs)) (l : fs.lookup m = none)
    (h : ∀ s', Inv X pins σ H s' → Q (.ref f, []) s') : wpAny (model X.prog X.w) A (getMethod (.ref a) m pl) Q E s := by
  obtain ⟨q, rest, at_, ty, get, tk, rc⟩ := S.ex
  obtain ⟨mA, O, rr, _, _, _⟩ := ins_get I.hok ea
  have hn : mA m = none := RelO.none_of (by rw [← l]; exact rr m)
  obtain ⟨od, J, hl⟩ := O.look
  refine PySem.W.method_usual (r := some (.ref q)) I.kIn J (PySem.W.plainGet_of S.get').1 (PySem.W.plainGet_of S.get').2 at_ ?_ ?_
  · show ((PySem.W.typeIn X.K (.ref q)).any fun t => t != .type "function" && t != .type "method_descriptor" && t != .type "wrapper_descriptor") = true
    rw [ty]
    first
    | rfl
    | decide +kernel
  · refine PySem.W.get_bind I.kIn J (PySem.W.plainGet_of S.get').1 (ClX.find_cm S.ic at_ get tk S.cp (by rw [hl m, hn])) (PySem.W.plainGet_of S.get').2 ?_
    exact wpAny_call (PySem.W.sm_get (s := { s with toks := s.toks + 1 }) I.kIn rc (PySem.W.handed_on rfl (h _ (I.tok _))))
/-- C.m(e, ..), the lacking ones by their defaults -/
theorem pe_smeth {pl : Sem Bool} (he : PE X o ta) (S : SM X.K C m f) (F : FnOk X.prog X.w X.K X.mg X.base CX0 k f fd ps sp) (hr : Room k X.A) (hb : Binds X.K fd ps ds) (hd : Vals dvs ds) (ha : PA X (e :: es) t)
    (hst : starEach (e :: es) X.env = (false, eval e X.env) :: starEach es X.env := by rfl) (hpl : (backTo pos (starEach es X.env)).any (·.1) = false := by rfl)
    (ht : eval (.Call (.Attribute o m apos) (e :: es) [] pos) X.env = (do
      let ov ← eval o X.env
      standAt apos.atName
      let (f, first) ← holding [ov] (getMethod ov m pl)
      callWith pos f first (backTo pos (starEach (e :: es) X.env)) (backToKw pos (keywordEach [] X.env))) := by rfl) :
    PE X (.Call (.Attribute o m apos) (e :: es) [] pos) (fun σ H Q => ta σ H fun x H1 => x = .ref C ∧ t σ H1 fun vs H2 => sp (vs ++ dvs) H2 Q E0) := by
  refine ⟨fun pins s σ H Q I h => ?_⟩
  refine PySem.W.methodCall_KW (pl := pl) (thn (he.run pins s σ H _ I h) fun u s1 ⟨x, H1, I1, rx, ex, q⟩ => ?_) ht
  subst ex
  obtain rfl : u = Value.ref C := rx
  refine getsm_ok I1 S fun s2 I2 => ?_
  refine PySem.W.callWith_K (first := []) (h₀ := X.base) I.ok.mod.kin S.kp (thn (ha.run pos pins s2 σ H1 _ I2 q) fun us s3 ⟨vs, H2, I3, r, q2⟩ => ⟨I3.kIn, ?_⟩) hst hpl
  exact run_fn (us := us) (vs := vs) F hr hb hd pass0 I3 r q2
/-- C.m(e, .., k = v, ..) -/
theorem pe_smethK {pl : Sem Bool} (he : PE X o ta) (S : SM X.K C m f) (F : FnOk X.prog X.w X.K X.mg X.base CX0 k f fd ps sp) (hr : Room k X.A) (hb : KBinds X.K fd ps ks g gV) (ha : PA X (e :: es) t) (hkw : PK X kws tk)
    (hall : (backToKw pos (keywordEach kws X.env)).all (·.1.isSome) = true := by rfl) (hks : (backToKw pos (keywordEach kws X.env)).filterMap (·.1) = ks := by rfl)
    (hst : starEach (e :: es) X.env = (false, eval e X.env) :: starEach es X.env := by rfl)
    (hpl : ((backTo pos (starEach (e :: es) X.env)).any (·.1) || (backToKw pos (keywordEach kws X.env)).any (·.1.isNone)) = false := by rfl)
    (ht : eval (.Call (.Attribute o m apos) (e :: es) kws pos) X.env = (do
      let ov ← eval o X.env
      standAt apos.atName
      let (f, first) ← holding [ov] (getMethod ov m pl)
      callWith pos f first (backTo pos (starEach (e :: es) X.env)) (backToKw pos (keywordEach kws X.env))) := by rfl) :
    PE X (.Call (.Attribute o m apos) (e :: es) kws pos) (fun σ H Q => ta σ H fun x H1 => x = .ref C ∧ t σ H1 fun vs H2 => tk σ H2 fun zs H3 => sp (gV vs zs) H3 Q E0) := by
  refine ⟨fun pins s σ H Q I h => ?_⟩
  refine PySem.W.methodCall_KW (pl := pl) (thn (he.run pins s σ H _ I h) fun u s1 ⟨x, H1, I1, rx, ex, q⟩ => ?_) ht
  subst ex
  obtain rfl : u = Value.ref C := rx
  refine getsm_ok I1 S fun s2 I2 => ?_
  refine PySem.W.callWith_KW (first := []) (h₀ := X.base) I.ok.mod.kin S.kp hall (thn (ha.run pos pins s2 σ H1 _ I2 q) fun us s3 ⟨vs, H2, I3, r, q2⟩ => ?_) hpl hst
  refine thn (hkw.run pos pins s3 σ H2 _ I3 q2) fun ws s4 ⟨zs, H3, I4, rz, q3⟩ => ⟨I4.kIn, ?_⟩
  rw [hks]
  exact run_fnk F hr hb pass0 I4 r rz q3
/-- o.m(e, .., k = v, ..), o an instance of C -/
theorem pe_smethI {pl : Sem Bool} (he : PE X o ta) (S : SMI X.K C m f) (F : FnOk X.prog X.w X.K X.mg X.base CX0 k f fd ps sp) (hr : Room k X.A) (hb : KBinds X.K fd ps ks g gV) (ha : PA X (e :: es) t) (hkw : PK X kws tk)
    (hall : (backToKw pos (keywordEach kws X.env)).all (·.1.isSome) = true := by rfl) (hks : (backToKw pos (keywordEach kws X.env)).filterMap (·.1) = ks := by rfl)
    (hst : starEach (e :: es) X.env = (false, eval e X.env) :: starEach es X.env := by rfl)
    (hpl : ((backTo pos (starEach (e :: es) X.env)).any (·.1) || (backToKw pos (keywordEach kws X.env)).any (·.1.isNone)) = false := by rfl)
    (ht : eval (.Call (.Attribute o m apos) (e :: es) kws pos) X.env = (do
      let ov ← eval o X.env
      standAt apos.atName
      let (f, first) ← holding [ov] (getMethod ov m pl)
      callWith pos f first (backTo pos (starEach (e :: es) X.env)) (backToKw pos (keywordEach kws X.env))) := by rfl) :
    PE X (.Call (.Attribute o m apos) (e :: es) kws pos) (fun σ H Q => ta σ H fun x H1 => ∃ a dx fs, x = .ref a ∧ H1 a = some (.ins C dx fs) ∧ fs.lookup m = none ∧ t σ H1 fun vs H2 => tk σ H2 fun zs H3 => sp (gV vs zs) H3 Q E0) := by
  refine ⟨fun pins s σ H Q I h => ?_⟩
  refine PySem.W.methodCall_KW (pl := pl) (thn (he.run pins s σ H _ I h) fun u s1 ⟨x, H1, I1, rx, a, dx, fs, ex, ea, l, q⟩ => ?_) ht
  subst ex
  obtain rfl : u = Value.ref a := rx
  refine getsmi_ok I1 S ea l fun s2 I2 => ?_
  refine PySem.W.callWith_KW (first := []) (h₀ := X.base) I.ok.mod.kin S.kp hall (thn (ha.run pos pins s2 σ H1 _ I2 q) fun us s3 ⟨vs, H2, I3, r, q2⟩ => ?_) hpl hst
  refine thn (hkw.run pos pins s3 σ H2 _ I3 q2) fun ws s4 ⟨zs, H3, I4, rz, q3⟩ => ⟨I4.kIn, ?_⟩
  rw [hks]
  exact run_fnk F hr hb pass0 I4 r rz q3
end
end
end EV

/-! comprehensions that only make objects: what the new list holds -/
namespace EV
open PySem PySem.Spec PyProof.Rows L2
/-- what the first i turns leave in the new list -/
def gath (f : Nat → Option V) : Nat → List V
  | 0 => []
  | i + 1 => gath f i ++ (f i).toList
theorem gath_le (f : Nat → Option V) : ∀ i, (gath f i).length ≤ i
  | 0 => Nat.le_refl _
  | i + 1 => by
    have := gath_le f i
    show (gath f i ++ (f i).toList).length ≤ i + 1
    rw [List.length_append]
    have : (f i).toList.length ≤ 1 := by cases f i <;> simp
    omega
theorem gath_fm {α : Type} (xs : List α) (f : α → Option V) : ∀ i, i ≤ xs.length → gath (fun j : Nat => xs[j]?.bind f) i = (xs.take i).filterMap f
  | 0, _ => by rw [List.take_zero]; rfl
  | i + 1, h => by
    have hi : i < xs.length := h
    show gath _ i ++ (xs[i]?.bind f).toList = _
    rw [gath_fm xs f i (Nat.le_of_lt hi), List.take_succ, List.filterMap_append, List.getElem?_eq_getElem hi]
    cases e : f xs[i] <;> simp [e]
theorem gath_map {α : Type} (xs : List α) (f : α → V) {n : Nat} (hn : n = xs.length) : gath (fun j : Nat => xs[j]?.map f) n = xs.map f := by
  have e : (fun j : Nat => xs[j]?.map f) = fun j : Nat => xs[j]?.bind fun x => some (f x) := by
    funext j
    cases xs[j]? <;> rfl
  subst hn
  rw [e, gath_fm xs _ _ (Nat.le_refl _), List.take_length]
  induction xs with
  | nil => rfl
  | cons x xs ih => simp
theorem gath_filter {α : Type} (xs : List α) (p : α → Bool) (f : α → V) {n : Nat} (hn : n = xs.length) : gath (fun j : Nat => xs[j]?.bind fun x => if p x = true then some (f x) else none) n = (xs.filter p).map f := by
  subst hn
  rw [gath_fm xs _ _ (Nat.le_refl _), List.take_length]
  induction xs with
  | nil => rfl
  | cons x xs ih =>
    by_cases h : p x = true
    · simp [h, ih]
    · simp [h, ih]
section
variable {J : It} {n : Nat} {G : Hp → Prop} {Y : Nat → Hp → V → Hp → Prop} {g : TG} {tt : TT} {te : TE} {vs : List Nat} {σ : L2.St} {H1 : Hp} {D : Addr} {Qd : Hp → Prop}
theorem lc_fm (w : Walk J n G Y) (f : Nat → Option V) (nD : H1 D = none) (hz : n ≤ 1000000) (hG : ∀ H, Same H1 H → G H)
    (hs : ∀ i x H H' (NT : Hp → Prop) (NE : V → Hp → Prop), i < n → Same H1 H → Y i H x H' → (f i = none → ∀ H3, Same H H3 → NT H3) → (∀ y H4, f i = some y → Same H H4 → NE y H4) →
      g x (wipe σ vs) H' fun σ2 H2 => wipe σ2 vs = wipe σ vs ∧ tt σ2 H2 fun b H3 => if b = true then te σ2 H3 NE else NT H3)
    (hd : ∀ H, Same H1 H → H D = some (.lst (gath f n)) → Qd H) :
    ∃ W : Nat → Nat → Hp → Prop, (∃ m, W 0 m (upd H1 D (.lst []))) ∧ ∀ i m H, W i m H →
      (J.stop i H ∧ Qd H) ∨ (J.go i H ∧ ∃ Nx : Hp → Prop, (∀ H', Nx H' → ∃ m', m' < m ∧ W (i + 1) m' H') ∧ ∀ x H', J.yld i H x H' → g x (wipe σ vs) H' fun σ2 H2 => wipe σ2 vs = wipe σ vs ∧ tt σ2 H2 fun b H3 =>
        if b = true then te σ2 H3 fun y H4 => ∃ acc, H4 D = some (.lst acc) ∧ acc.length < sizeLine ∧ Nx (upd H4 D (.lst (acc ++ [y]))) else Nx H3) := by
  refine lc_it w (fun i H => Same H1 H ∧ H D = some (.lst (gath f i))) ⟨same_upd nD, upd_same⟩ (fun i H _ q => hG H q.1) ?_ fun H q => hd H q.1 q.2
  intro i x H H' hi q y
  refine hs i x H H' _ _ hi q.1 y (fun e H3 s3 => ⟨q.1.trans s3, ?_⟩) (fun y H4 e s4 => ⟨gath f i, s4 _ _ q.2, Nat.lt_of_le_of_lt (gath_le f i) (by rw [sizeLine_eq]; omega), ?_, ?_⟩)
  · show H3 D = some (.lst (gath f i ++ (f i).toList))
    rw [e]
    simpa using s3 _ _ q.2
  · exact same_upd' (q.1.trans s4) nD
  · show upd H4 D _ D = some (.lst (gath f i ++ (f i).toList))
    rw [upd_same, e]
    rfl
end
/-- for a, b in ..: two slots (K told, so that a block's own state does not come into the reading) -/
theorem pg_pair {X : Cx} {K : Fg} {x y : Str} {p1 p2 pos : Pos} {k : Nat} (i j : Nat) (hc : X.calm = true) (hN : X.N.Nodup) (hi : X.N[i]? = some x) (hj : X.N[j]? = some y) (lx : X.env.scope.names.lookup x = some .local)
    (ly : X.env.scope.names.lookup y = some .local) (hK : X.K = K := by rfl) : PG X (.Tuple [.Name x p1, .Name y p2] k pos) (gTup K 2 (gCons (gName i) (gCons (gName j) gNil))) := by
  subst hK
  exact pg_tup hc (pgs_cons (pg_name hN hi (Or.inl lx) (.inr lx)) (pgs_cons (pg_name hN hj (Or.inl ly) (.inr ly)) pgs_nil))
theorem pg_three {X : Cx} {K : Fg} {x y z : Str} {p1 p2 p3 pos : Pos} {k : Nat} (i j l : Nat) (hc : X.calm = true) (hN : X.N.Nodup) (hi : X.N[i]? = some x) (hj : X.N[j]? = some y) (hl : X.N[l]? = some z) (lx : X.env.scope.names.lookup x = some .local)
    (ly : X.env.scope.names.lookup y = some .local) (lz : X.env.scope.names.lookup z = some .local) (hK : X.K = K := by rfl) : PG X (.Tuple [.Name x p1, .Name y p2, .Name z p3] k pos) (gTup K 3 (gCons (gName i) (gCons (gName j) (gCons (gName l) gNil)))) := by
  subst hK
  exact pg_tup hc (pgs_cons (pg_name hN hi (Or.inl lx) (.inr lx)) (pgs_cons (pg_name hN hj (Or.inl ly) (.inr ly)) (pgs_cons (pg_name hN hl (Or.inl lz) (.inr lz)) pgs_nil)))
/-- f'..' of two parts or more, its reading as one word -/
def tJoin (ts : List TE) : TE := fun σ H Q => tJs ts Str.empty σ H fun out H1 => Q (.str out) H1
theorem pe_joinedT {X : Cx} {v1 v2 : Expr} {rest : List Expr} {ts : List TE} {pos : Pos} (h : PJ X (v1 :: v2 :: rest) ts) : PE X (.JoinedStr (v1 :: v2 :: rest) pos) (tJoin ts) := pe_joined h
/-- a value's truth as a test, K told -/
theorem pt_truthK {X : Cx} {K : Fg} {a : Expr} {ta : TE} (ha : PE X a ta) (he : ∀ whole, isTrue a X.env whole = (do let v ← whole; standAt a.pos; holding [v] (truthy v))) (hK : X.K = K := by rfl) :
    PT X a (fun σ H Q => ta σ H fun x H' => ∃ k, TruV K x H' k ∧ Q k H') := by
  subst hK
  exact pt_truth ha he
/-- xs.pop() where K is told -/
theorem pe_popK {X : Cx} {K : Fg} {o : Expr} {to : TE} {apos cpos : Pos} (ho : PE X o to) (hbase : attributeBase o "pop" X.env (eval o X.env) = eval o X.env := by rfl)
    (hline : (apos.endLine == cpos.line) = true := by rfl) (hK : X.K = K := by rfl) : PE X (.Call (.Attribute o "pop" apos) [] [] cpos) (tBM0 K "list" rPop to) := by
  subst hK
  exact pe_bm0 PySem.F.plainAttrs_list PySem.F.slot_list_pop PySem.F.type_list_pop mt_pop ho hbase hline
end EV

/-! a dict made by a comprehension, its keys unlike texts -/
namespace EV
open PySem PySem.Spec PyProof.Rows L2
theorem valV_none {kvs : List (Key × V)} {k : Key} (h : k ∉ kvs.map (·.1)) : valV kvs k = none := by
  unfold valV
  rw [List.find?_eq_none.mpr]
  · rfl
  · intro p hp e
    exact h (List.mem_map.mpr ⟨p, hp, of_decide_eq_true e⟩)
section
variable {J : It} {n : Nat} {G : Hp → Prop} {Y : Nat → Hp → V → Hp → Prop} {g : TG} {tk tv : TE} {vs : List Nat} {σ : L2.St} {H1 : Hp} {D : Addr} {Qd : Hp → Prop}
theorem dc_strs (w : Walk J n G Y) (ks : List Str) (R : Nat → V → Prop) (hn : ks.length = n) (nd : ks.Nodup) (hz : n ≤ 1000000) (nD : H1 D = none) (hG : ∀ H, Same H1 H → G H)
    (hs : ∀ i x H H' (NE : V → V → Hp → Prop), i < n → Same H1 H → Y i H x H' → (∀ k z H5, ks[i]? = some k → R i z → Same H H5 → NE (.str k) z H5) →
      g x (wipe σ vs) H' fun σ2 H2 => wipe σ2 vs = wipe σ vs ∧ tk σ2 H2 fun y H4 => tv σ2 H4 fun z H5 => NE y z H5)
    (hd : ∀ H kvs, Same H1 H → H D = some (.dK kvs) → kvs.map (·.1) = ks.map Sum.inr → (∀ j p, kvs[j]? = some p → R j p.2) → Qd H) :
    ∃ W : Nat → Nat → Hp → Prop, (∃ m, W 0 m (upd H1 D (.dK []))) ∧ ∀ i m H, W i m H →
      (J.stop i H ∧ Qd H) ∨ (J.go i H ∧ ∃ Nx : Hp → Prop, (∀ H', Nx H' → ∃ m', m' < m ∧ W (i + 1) m' H') ∧ ∀ x H', J.yld i H x H' → g x (wipe σ vs) H' fun σ2 H2 => wipe σ2 vs = wipe σ vs ∧ tYes σ2 H2 fun b H3 =>
        if b = true then tk σ2 H3 fun y H4 => tv σ2 H4 fun z H5 => ∃ kvs k, y = kV k ∧ H5 D = some (.dK kvs) ∧ kvs.length < sizeLine ∧ Nx (upd H5 D (.dK (putK kvs k z))) else Nx H3) := by
  let Pv : Nat → Hp → Prop := fun i H => Same H1 H ∧ ∃ kvs : List (Key × V), H D = some (.dK kvs) ∧ kvs.map (·.1) = (ks.take i).map Sum.inr ∧ ∀ j p, kvs[j]? = some p → R j p.2
  refine ⟨fun i m H => m = n - i ∧ i ≤ n ∧ Pv i H, ⟨n, by simp, Nat.zero_le _, same_upd nD, [], upd_same, rfl, fun j p e => by simp at e⟩, ?_⟩
  rintro i m H ⟨rfl, hi, s1, kvs, hD, hk, hR⟩
  have q := hG H s1
  have lk : kvs.length = i := by
    have := congrArg List.length hk
    rw [List.length_map, List.length_map, List.length_take, hn] at this
    omega
  by_cases hlt : i < n
  · refine .inr ⟨w.goes i H hlt q, Pv (i + 1), fun H' p' => ⟨n - (i + 1), by omega, rfl, hlt, p'⟩, fun x H' y => ?_⟩
    refine hs i x H H' _ hlt s1 (w.yields i H x H' hlt q y) fun k z H5 ek rz s5 => ⟨kvs, .inr k, rfl, s5 _ _ hD, by rw [lk, sizeLine_eq]; omega, ?_⟩
    have hnew : (Sum.inr k : Key) ∉ kvs.map (·.1) := by
      rw [hk]
      intro hm
      obtain ⟨z', hz', e⟩ := List.mem_map.mp hm
      injection e with e
      subst e
      obtain ⟨j, hj⟩ := List.mem_iff_getElem?.mp hz'
      have hji : j < i := by
        have := (List.getElem?_eq_some_iff.mp hj).1
        rw [List.length_take] at this
        omega
      rw [List.getElem?_take_of_lt hji] at hj
      have := (List.getElem?_inj (by rw [hn]; omega) nd).mp (hj.trans ek.symm)
      omega
    rw [L2.putK_new z (valV_none hnew)]
    refine ⟨same_upd' (s1.trans s5) nD, _, upd_same, ?_, fun j p e => ?_⟩
    · rw [List.map_append, hk, List.take_succ, ek, List.map_append]
      rfl
    · by_cases hj : j < kvs.length
      · rw [List.getElem?_append_left hj] at e
        exact hR j p e
      · rw [List.getElem?_append_right (Nat.le_of_not_lt hj)] at e
        have e0 : j - kvs.length = 0 := by
          cases q : j - kvs.length with
          | zero => rfl
          | succ m => rw [q] at e; simp at e
        rw [e0] at e
        obtain rfl : (Sum.inr k, z) = p := by simpa using e
        have : j = i := by omega
        rw [this]
        exact rz
  · have e : i = n := by omega
    subst e
    exact .inl ⟨w.stops H q, hd H kvs s1 hD (by rw [hk, List.take_of_length_le (by omega)]) hR⟩
end
end EV

/-! a field of the own error that an except suite holds -/
namespace EV
open PySem PySem.Spec PyProof.Rows L2
def tByX (C : Addr) (f : Str) (a : Addr) (cls : Value) (d : Option Addr) (te : TE) : TE := fun σ H Q => te σ H fun x H1 => x = .ref a ∧ cls = .ref C ∧ ∃ (dd : Addr) (fs : List (Str × V)) (v : V), d = some dd ∧ H1 dd = some (.xd fs) ∧ fs.lookup f = some v ∧ Q v H1
theorem pe_byX {X : Cx} {C a : Addr} {f : Str} {oe : Obj} {cls : Value} {d : Option Addr} {pn : List (Addr × Obj)} {e : Expr} {te : TE} {pos : Pos} (T : XCls X.K C) (no : NoAttr X.K C f) (hz : Zc cls d oe) (hf : ∃ vs, oe.data = .fields vs)
    (he : PE (X.suite a ((a, oe) :: pn)) e te) (hb : attributeBase e f X.env (eval e X.env) = eval e X.env := by rfl) : PE (X.suite a ((a, oe) :: pn)) (.Attribute e f pos) (tByX C f a cls d te) := by
  constructor
  intro pins s σ H Q I h
  refine attr_of hb (thn (he.run pins s σ H _ I h) fun u s1 told => ?_)
  obtain ⟨x, H1, I1, rx, ex, ec, dd, fs, v, ed, ea, l, q⟩ := told
  subst ex ec ed
  obtain rfl : u = Value.ref a := rx
  have ha := (I1.pin (a, oe) (List.mem_append_left _ List.mem_cons_self)).1
  obtain ⟨vs, hd⟩ := hf
  obtain ⟨mA, hns, hr⟩ := (I1.hok dd _ ea : ObjOk X.prog X.w H1 s1.heap dd (.xd fs))
  obtain ⟨od, ho, hl⟩ := lookIn_ns hns
  obtain ⟨u, hu, ru⟩ := RelO.some_of (v := v) (o := mA f) (by rw [← l]; exact hr f)
  have J : PySem.W.InstAt s1.heap a oe C (some od) := ⟨ha, hz.1, by unfold PySem.W.notCls; rw [hd] <;> rfl, by rw [hz.2]; exact ho⟩
  exact HandSPX.exc_get I1.kIn J T.ex.hg T.ex.hk T.ex.hs (PySem.W.findObj_own T.ex.hd no rfl (by rw [hl, hu])) (handed_of ru) ⟨v, H1, I1.tok _, ru, q⟩
end EV

/-! several except clauses, each with a name -/
namespace EV
open PySem PySem.Spec PyProof.Rows L2
/-- a clause: the class, the name's slot, the suite -/
structure Cl where
  c : Value
  i : Nat
  ts : Addr → Value → Option Addr → TS
/-- where the suite ends, the name goes -/
def goneE (i : Nat) (D : Ends) : Ends := { nx := fun σ' H' => D.nx (σ'.set i none) H', rt := D.rt, bk := fun σ' H' => D.bk (σ'.set i none) H', ct := fun σ' H' => D.ct (σ'.set i none) H' }
def wAsMany (K : PySem.W.Frag) (Wout : WX) (D : Ends) : List Cl → WX
  | [] => Wout
  | k :: r => fun cls d σ H => ∃ b, PySem.W.exmOne K cls k.c = some b ∧ (b = true → ∀ a, H a = none → k.ts a cls d (goneE k.i D) (σ.set k.i (some (.ref a))) H) ∧ (b = false → wAsMany K Wout D r cls d σ H)
inductive ClsOk (X : Cx) : List ExceptHandler → List Cl → Prop
  | nil : ClsOk X [] []
  | cons {x n : Str} {i : Nat} {c : Value} {ts : Addr → Value → Option Addr → TS} {b₀ : Stmt} {suite : List Stmt} {np pos' : Pos} {hds : List ExceptHandler} {l : List Cl}
      (hi : X.N[i]? = some n) (hln : X.env.kindOf n = some .local) (hc : Names X x c)
      (hsu : ∀ (a : Addr) (oe : Obj) (cls : Value) (d : Option Addr) (pn : List (Addr × Obj)), Zc cls d oe → (∃ vs, oe.data = .fields vs) → PSs (X.suite a ((a, oe) :: pn)) (b₀ :: suite) (ts a cls d)) (r : ClsOk X hds l) :
      ClsOk X (.ExceptHandler (some (.Name x np)) (some n) (b₀ :: suite) pos' :: hds) (⟨c, i, ts⟩ :: l)
/-- an exception that has come down to this frame: B the ground, sI the state without it, s the state with it -/
structure Down (X : Cx) (pins : List (Addr × Obj)) (B : Heap) (sI s : Shared) (σ : L2.St) (H : Hp) (a : Addr) (cls : Value) (d : Option Addr) : Prop where
  stk : X.stack = X.env :: X.outer
  frm : X.env.frame = some X.env.locals
  inv : Inv X pins σ H sI
  bare : ∀ b o, sI.heap.get? b = some o → b ∉ frs X.stack → B.get? b = some o
  up : sI.heap.UpToSlots s.heap
  fl : HandSPX.FlyingZ B (X.env :: X.outer) a (Zc cls d) s.heap
  na : H a = none
  os : s.os = sI.os
  ag : AllBare s.gens
section
variable {X : Cx} {pins : List (Addr × Obj)} {B : Heap} {sI s : Shared} {σ : L2.St} {H : Hp} {a : Addr} {cls : Value} {d : Option Addr}
/-- a suite begins on it -/
theorem Down.enter (w : Down X pins B sI s σ H a cls d) : ∃ oe vs, Zc cls d oe ∧ oe.data = .fields vs ∧ s.heap.get? a = some oe ∧ Inv X pins σ H s ∧ Inv (X.suite a ((a, oe) :: (X.pn ++ pins))) [] σ H s := by
  have J : Inv X pins σ H s := w.inv.landed w.bare w.fl.1 w.up w.os w.ag
  obtain ⟨oe, vs, he, hz, hd⟩ := w.fl.there
  have out : a ∉ frs (X.env :: X.outer) := fun hm => by
    have ff : s.heap.FunFrames B (X.env :: X.outer) := w.fl.2.2.1
    obtain ⟨_, o', e', no⟩ := ff.mem hm
    rw [he] at e'
    injection e' with e'
    exact no vs (e' ▸ hd)
  have mem : ∀ e ∈ X.env :: X.outer, ∀ b, e.frame = some b → b ≠ a := fun e he' b q z => out (List.mem_filterMap.mpr ⟨e, he', z ▸ q⟩)
  refine ⟨oe, vs, hz, hd, he, J, J.suite he hd w.na (fun z => mem X.env List.mem_cons_self _ w.frm z.symm) fun hm => ?_⟩
  obtain ⟨e, h1, h2⟩ := List.mem_filterMap.mp hm
  exact mem e (List.mem_cons_of_mem _ h1) a h2 rfl
/-- it is taken up anew -/
theorem Down.anew (w : Down X pins B sI s σ H a cls d) {h : Heap} (fl : HandSPX.FlyingZ B (X.env :: X.outer) a (Zc cls d) h) (up : s.heap.UpToSlots h) : Down X pins B sI { s with heap := h } σ H a cls d :=
  ⟨w.stk, w.frm, w.inv, w.bare, w.up.trans up, fl, w.na, w.os, w.ag⟩
/-- no clause is left: it flies on -/
theorem Down.on {W : WX} {Q : Flow → Shared → Prop} (w : Down X pins B sI s σ H a cls d) (tk : Takes X W) (hW : W cls d σ H) : wpAny (model X.prog X.w) X.A (handleBy (.ref a) X.env []) Q X.xe s := by
  refine wpAny_handleBy_nil ?_
  obtain ⟨_, _, _, oe, vs, T, oT, ts', he, hz, hd, hT, hr⟩ := id w.fl
  unfold PySem.passOn
  refine wpAny_bind (wpAny_field he hd hT ?_)
  rw [if_neg (fun e : (Value.ref T == Value.none) = true => by simp at e)]
  have q : wpAny (model X.prog X.w) X.A (setFlight (.ref a) X.env.frame) (fun _ s4 => wpAny (model X.prog X.w) X.A (throw (.ref a) : Sem Flow) Q X.xe s4) X.xe s := by
    rw [w.frm]
    exact HandSPX.setFlight_upZ w.fl fun h4 hh4 up4 => wpAny_throw (tk _ _ ⟨a, B, sI, pins, σ, H, cls, d, rfl, w.inv, w.bare, w.up.trans up4, .inr (.inr (by rw [w.stk]; exact hh4)), w.na, w.os, w.ag, hW⟩)
  first
    | exact wpAny_bind (wpAny_pure (wpAny_bind q))
    | exact wpAny_bind q
/-- one clause, with a name -/
theorem Down.clause {x n : Str} {i : Nat} {c : Value} {ts : Addr → Value → Option Addr → TS} {b₀ : Stmt} {suite : List Stmt} {np pos' : Pos} {hds : List ExceptHandler} {D : Ends} {b : Bool}
    (w : Down X pins B sI s σ H a cls d) (hN : X.N.Nodup) (hi : X.N[i]? = some n) (hln : X.env.kindOf n = some .local) (hc : Names X x c)
    (hsu : ∀ (a : Addr) (oe : Obj) (cls : Value) (d : Option Addr) (pn : List (Addr × Obj)), Zc cls d oe → (∃ vs, oe.data = .fields vs) → PSs (X.suite a ((a, oe) :: pn)) (b₀ :: suite) (ts a cls d))
    (hb : PySem.W.exmOne X.K cls c = some b) (yes : b = true → ts a cls d (goneE i D) (σ.set i (some (.ref a))) H)
    (no : b = false → wpAny (model X.prog X.w) X.A (handleBy (.ref a) X.env hds) (SP X pins D) X.xe s) :
    wpAny (model X.prog X.w) X.A (handleBy (.ref a) X.env (.ExceptHandler (some (.Name x np)) (some n) (b₀ :: suite) pos' :: hds)) (SP X pins D) X.xe s := by
  obtain ⟨oe, vs, hz, hd, he, J, S⟩ := w.enter
  refine wpAny_handleBy_cons (codeAny_handlers_test ?_) (fun q => by cases q)
  have looks := PySem.W.exm_one (M := model X.prog X.w) J.kIn (fun A Q E s k q => wpAny_typeOf_ref (k _ _ he) (by rw [hz.1]; exact q)) hb
  have named : ∀ {Q E : Value → Shared → Prop}, Q c s → wpAny (model X.prog X.w) (X.A.mark (some (.ref a))) (eval (.Name x np) X.env) Q E s := fun q => by
    obtain ⟨gl, dbg, hm | ⟨hm, hv, hnn⟩⟩ := hc
    · exact ld_glob S gl hm q dbg
    · exact ld_blt S gl hm hv q hnn dbg
  refine named (looks.here ?_)
  cases b with
  | false => exact no rfl
  | true =>
    refine codeAny_handlers_suite_as (HandSPX.lands_againZ w.fl fun h4 fl4 up4 => ?_)
    obtain ⟨oe4, vs4, hz4, hd4, _, _, S4⟩ := (w.anew fl4 up4).enter
    refine store_ok (X := X.suite a ((a, oe4) :: (X.pn ++ pins))) (v := .ref a) S4 hN hi (.inl hln) rfl (fun s5 S5 => ?_) (.inr hln)
    refine wpAny_mono ((hsu a oe4 cls d (X.pn ++ pins) hz4 ⟨_, hd4⟩).run [] s5 _ H _ S5 (yes rfl)) (fun f s6 hsp => ?_) fun _ _ z => False.elim z
    have out : ∀ {σ6 : L2.St} {H6 : Hp} {Q : Shared → Prop}, Inv (X.suite a ((a, oe4) :: (X.pn ++ pins))) [] σ6 H6 s6 → (∀ s7, Inv X pins (σ6.set i none) H6 s7 → Q s7) →
        wpAny (model X.prog X.w) X.A (do bindName X.env n .none; unbindBehindTheSuite X.env n pos') (fun _ s7 => Q s7) X.xe s6 := fun S6 hq => gone_ok (S6.unsuite w.inv.ok) hN hi hln hq
    match f, hsp with
    | .next, ⟨σ6, H6, S6, q6⟩ => exact out S6 fun s7 J7 => ⟨_, _, J7, q6⟩
    | .brk, ⟨σ6, H6, S6, q6⟩ => exact out S6 fun s7 J7 => ⟨_, _, J7, q6⟩
    | .cont, ⟨σ6, H6, S6, q6⟩ => exact out S6 fun s7 J7 => ⟨_, _, J7, q6⟩
    | .ret u, ⟨v6, σ6, H6, S6, r6, q6⟩ => exact out S6 fun s7 J7 => ⟨_, _, _, J7, r6, q6⟩
/-- clauses with names, one after the other -/
theorem Down.clauses {W : WX} {D : Ends} (tk : Takes X W) (hN : X.N.Nodup) (w : Down X pins B sI s σ H a cls d) : ∀ {hds : List ExceptHandler} {l : List Cl}, ClsOk X hds l → wAsMany X.K W D l cls d σ H →
    wpAny (model X.prog X.w) X.A (handleBy (.ref a) X.env hds) (SP X pins D) X.xe s
  | _, _, .nil, q => w.on tk q
  | _, _, .cons hi hln hc hsu r, ⟨_, hb, yes, no⟩ => w.clause hN hi hln hc hsu hb (fun e => yes e a w.na) fun e => Down.clauses tk hN w r (no e)
end
section
variable {X : Cx} {body : List Stmt} {h₀ : ExceptHandler} {hds : List ExceptHandler} {l : List Cl} {pos : Pos} {tb : WX → TS} {Wout : WX}
theorem ps_try_asMany (hs : X.stack = X.env :: X.outer) (hf : X.env.frame = some X.env.locals) (hN : X.N.Nodup) (tk : Takes X Wout)
    (hb : ∀ (W : WX) (pins : List (Addr × Obj)) (ex : Value → Shared → Prop), Takes (X.tr pins ex) W → PassesOwn (model X.prog X.w) X.A X.env ex → PSs (X.tr pins ex) body (tb W))
    (hh : ClsOk X (h₀ :: hds) l) : PS X (.Try body (h₀ :: hds) [] [] pos) (fun D σ H => tb (wAsMany X.K Wout D l) D σ H) := by
  refine ⟨fun pins s σ H D I h => ?_⟩
  have ok := I.ok
  refine wpAny_Try_except ?_
  have run := (hb (wAsMany X.K Wout D l) (X.pn ++ pins) (fun e s₁ => wpAny (model X.prog X.w) X.A (noteFrame e X.env) (fun _ s₂ => wpAny (model X.prog X.w) X.A (setFlight e none) (fun _ s₃ =>
    wpAny (model X.prog X.w) X.A (handleBy e X.env (h₀ :: hds)) (SP X pins D) X.xe s₃) X.xe s₂) X.xe s₁) (fun u s' xx => by
      obtain ⟨a, B, sI, pins', σ', H', cls, d, rfl, J', nb, up, sky, na, os, ag, q⟩ := xx
      exact Sky.land Zc.steady (ok.frames.trans (by rw [hs])) hf (by rw [← hs]; exact sky) fun h3 fl3 up3 =>
        Down.clauses tk hN (s := { s' with heap := h3 }) ⟨hs, hf, J'.ofTry ok, nb, up.trans up3, fl3, na, os, ag⟩ hh q) PassesOwn.looking).run [] s σ H D (I.toTry _) h
  refine wpAny_mono run (fun f s1 hsp => ?_) (fun e s1 he => he)
  match f, hsp with
  | .next, ⟨σ', H', J', q⟩ => exact wpAny_execs_nil ⟨σ', H', J'.ofTry ok, q⟩
  | .brk, ⟨σ', H', J', q⟩ => exact ⟨σ', H', J'.ofTry ok, q⟩
  | .cont, ⟨σ', H', J', q⟩ => exact ⟨σ', H', J'.ofTry ok, q⟩
  | .ret u, ⟨v, σ', H', J', r, q⟩ => exact ⟨v, σ', H', J'.ofTry ok, r, q⟩
end
end EV

/-! names, signs, makers and texts of libraries, as plain functions -/
namespace LM
open PySem TL L2
abbrev Rw := List Str
structure Op where
  sign : Str
  changed : List Str
  maker : Str
deriving DecidableEq
structure Lib where
  name : Str
  ps : List Str
  kept : List (Str × Str)
  hook : Option Str
  ops : List Op
deriving DecidableEq
def noFields : List Str := ["by", "changes", "name", "of", "to", "world"]
def binary : List Str := ["+", "-", "*", "//", "&", "|", "^", "<<", ">>"]
def unary : List Str := ["neg", "pos", "abs", "invert"]
def rootHooks : List Str := ["named", "call", "names", "renew", "copy", "bare"]
def makers0 : List Str := ["named", "call own", "names own", "bare own"]
def makers1 : List Str := ["named", "call own", "names own", "renew own", "copy own", "bare own", "hook"]
def makers2 : List Str := ["named", "call own", "call other", "call deeper", "call common", "names own", "names other", "names deeper", "names common", "renew own", "renew other", "renew deeper",
  "copy own", "copy other", "copy deeper", "bare own", "hook"]
def makersOf : Nat → List Str
  | 0 => makers0
  | 1 => makers1
  | _ => makers2
def within (lo hi : Nat) (l : List Nat) : Bool := l.all fun c => decide (lo ≤ c) && decide (c ≤ hi)
def small (w : Str) : Bool := decide (1 ≤ w.length) && decide (w.length ≤ 8) && within 97 122 (tl w)
def className (w : Str) : Bool := decide (1 ≤ w.length) && decide (w.length ≤ 8) && within 65 90 ((tl w).take 1) && within 97 122 ((tl w).drop 1)
def fieldName (w : Str) : Bool := small w && !noFields.contains w
def request (w : Str) : Bool := small w && !unary.contains w
def arity (w : Str) : Nat := if binary.contains w then 2 else if unary.contains w then 1 else 0
def firstRow (r : Rw) : Bool := match r with
  | [a, n] => a == "library" && className n
  | _ => false
def hookRow (r : Rw) : Bool := match r with
  | [a, w] => a == "hook" && rootHooks.contains w
  | _ => false
/-- one right `needs` row -/
def needsRow (r : Rw) (found : List Str) : Option Str := match r with
  | [a, f] => if a == "needs" && fieldName f && !found.contains f then some f else none
  | _ => none
def paramsM : List Rw → List Str → List Str
  | [], found => found
  | r :: rs, found => match needsRow r found with
    | some f => paramsM rs (found ++ [f])
    | none => found
def keepsRow (r : Rw) (known : List Str) : Option (Str × Str) := match r with
  | [a, f, o, s] => if a == "keeps" && o == "of" && fieldName f && !known.contains f && known.contains s then some (f, s) else none
  | _ => none
def keptM : List Rw → List Str → List (Str × Str) → List (Str × Str)
  | [], _, found => found
  | r :: rs, known, found => match keepsRow r known with
    | some p => keptM rs (known ++ [p.1]) (found ++ [p])
    | none => found
def selection (ws ps : List Str) : Bool := match ws with
  | [] => true
  | a :: chosen => a == "changes" && !chosen.isEmpty && decide (chosen = ps.filter fun f => chosen.contains f)
def requestM (r : Rw) (ps : List Str) : Option Op := match r with
  | a :: w :: b :: rest => if b == "by" && request w && makers0.contains (Str.join " " rest) then some ⟨w, ps, Str.join " " rest⟩ else none
  | _ => none
def opM (r : Rw) (ps : List Str) : Option Op := match r with
  | [] => none
  | s :: rest =>
    if s == "make" then requestM r ps
    else if (!binary.contains s && !unary.contains s) || !rest.contains "by" then none
    else
      let e := rest.findIdx (· == ("by" : Str))
      let maker := Str.join " " (rest.drop (e + 1))
      if !(makersOf (arity s)).contains maker || !selection (rest.take e) ps then none
      else some ⟨s, (rest.take e).drop 1, maker⟩
/-- from row k on: the operations, or the number of the first wrong row -/
def opsM (ps : List Str) (hook : Option Str) : Nat → List Rw → List Op → Except Nat (List Op)
  | _, [], found => .ok found
  | k, r :: rs, found => match opM r ps with
    | none => .error k
    | some o => if found.length = 6 || (found.map (·.sign)).contains o.sign || (o.maker == "hook" && hook.isNone) then .error k else opsM ps hook (k + 1) rs (found ++ [o])
def opsOf (rows : List Rw) (at_ : Nat) (ps : List Str) (hook : Option Str) : Except Nat (List Op) :=
  if at_ = rows.length then .error at_ else opsM ps hook at_ (rows.drop at_) []
def rowsM (z : Str) : List Rw := (Txt.split z "\n").map fun l => Txt.split l " "
def hookAt (rows : List Rw) (k : Nat) : Option Str := match rows[k]? with
  | some r => if hookRow r then some (r.getD 1 "") else none
  | none => none
def readRows (rows : List Rw) : Except Nat Lib :=
  if !firstRow (rows.headD []) then .error 0 else
  let ps := paramsM ((rows.drop 1).take 3) []
  if ps.isEmpty then .error 1 else
  let at1 := 1 + ps.length
  let kept := keptM ((rows.drop at1).take 2) ps []
  let at2 := at1 + kept.length
  let hk := hookAt rows at2
  let at3 := if hk.isSome then at2 + 1 else at2
  match opsOf rows at3 ps hk with
  | .error k => .error k
  | .ok ops => .ok ⟨(rows.headD []).getD 1 "", ps, kept, hk, ops⟩
def readM (z : Str) : Except Nat Lib := readRows (rowsM z)
def opLine (o : Op) : Str :=
  if arity o.sign = 0 then ("make " : Str) ++ o.sign ++ (" by " : Str) ++ o.maker
  else if o.changed = [] then o.sign ++ (" by " : Str) ++ o.maker
  else o.sign ++ (" changes " : Str) ++ Str.join " " o.changed ++ (" by " : Str) ++ o.maker
def rootLines (n : Str) (ps : List Str) (kept : List (Str × Str)) (hook : Option Str) : List Str :=
  [("library " : Str) ++ n] ++ ps.map (fun p => ("needs " : Str) ++ p) ++ kept.map (fun p => ("keeps " : Str) ++ p.1 ++ (" of " : Str) ++ p.2) ++ (match hook with | some h => [("hook " : Str) ++ h] | none => [])
def linesM (L : Lib) : List Str := rootLines L.name L.ps L.kept L.hook ++ L.ops.map opLine
def textM (L : Lib) : Str := Str.join "\n" (linesM L)
end LM

/-! the text of a library, cut into rows and read back -/
namespace LM
open PySem TL L2
/-! ### cutting at one sign -/
theorem pre1_self (s : Nat) (q : List Nat) : pre [s] (s :: q) = true := pre_self [s] q
theorem pre1_ne {s c : Nat} (q : List Nat) (h : c ≠ s) : pre [s] (c :: q) = false := pre_of_head [] q h
theorem spl1_app (s : Nat) : ∀ (p acc q : List Nat), spl [s] 0 acc (p ++ s :: q) = spl [s] 0 acc p ++ spl [s] 0 [] q
  | [], acc, q => by
    rw [List.nil_append, spl_hit (pre1_self s q), spl_nil]
    rfl
  | c :: p, acc, q => by
    by_cases h : c = s
    · subst h
      rw [List.cons_append, spl_hit (pre1_self _ _), spl_hit (pre1_self _ _)]
      show acc :: spl [c] 0 [] (p ++ c :: q) = acc :: spl [c] 0 [] p ++ spl [c] 0 [] q
      rw [spl1_app c p [] q]
      rfl
    · rw [List.cons_append, spl_miss (pre1_ne _ h), spl_miss (pre1_ne _ h), spl1_app s p _ q]
theorem spl1_join (s : Nat) : ∀ (p acc : List Nat), joinL [s] (spl [s] 0 acc p) = acc ++ p
  | [], acc => by
    rw [spl_nil, List.append_nil]
    rfl
  | c :: p, acc => by
    by_cases h : c = s
    · subst h
      rw [spl_hit (pre1_self _ _)]
      show joinL [c] (acc :: spl [c] 0 [] p) = _
      cases e : spl [c] 0 [] p with
      | nil =>
        have z := spl1_join c p []
        cases p with
        | nil => rw [spl_nil] at e; cases e
        | cons d r =>
          by_cases hd : d = c
          · subst hd; rw [spl_hit (pre1_self _ _)] at e; cases e
          · rw [e] at z; cases z
      | cons a r =>
        show acc ++ ([c] ++ joinL [c] (a :: r)) = _
        rw [← e, spl1_join c p []]
        rfl
    · rw [spl_miss (pre1_ne _ h), spl1_join s p _, List.append_assoc]
      rfl
theorem spl1_ne (s : Nat) (p acc : List Nat) : spl [s] 0 acc p ≠ [] := by
  cases p with
  | nil => rw [spl_nil]; simp
  | cons c p =>
    intro e
    induction p generalizing c acc with
    | nil =>
      by_cases h : c = s
      · subst h; rw [spl_hit (pre1_self _ _)] at e; cases e
      · rw [spl_miss (pre1_ne _ h), spl_nil] at e; cases e
    | cons d p ih =>
      by_cases h : c = s
      · subst h; rw [spl_hit (pre1_self _ _)] at e; cases e
      · rw [spl_miss (pre1_ne _ h)] at e
        exact ih _ _ e
theorem tl_sp : tl (" " : Str) = [32] := by decide +kernel
theorem tl_nl : tl ("\n" : Str) = [10] := by decide +kernel
theorem sp_all : ((" " : Str)).cps.all (· < 256) = true := by decide +kernel
theorem nl_all : (("\n" : Str)).cps.all (· < 256) = true := by decide +kernel
theorem split_sp (x : Str) : (Txt.split x " ").map tl = spl [32] 0 [] (tl x) := by
  rw [split_spl x " " (by rw [tl_sp]; simp) (kind_ok sp_all), tl_sp]
theorem split_app (x y : Str) : Txt.split (x ++ (" " : Str) ++ y) " " = Txt.split x " " ++ Txt.split y " " := by
  refine map_tl_inj ?_
  rw [List.map_append, split_sp, split_sp, split_sp, tl_append, tl_append, tl_sp, List.append_assoc]
  exact spl1_app 32 (tl x) [] (tl y)
theorem split_one {x : Str} (h : 32 ∉ tl x) : Txt.split x " " = [x] := by
  refine map_tl_inj ?_
  rw [split_sp, spl_last1 h]
  rfl
theorem join_split (x : Str) : Str.join " " (Txt.split x " ") = x := by
  refine ext_tl ?_
  rw [tl_join, split_sp, tl_sp, spl1_join 32 (tl x) [], List.nil_append]
theorem split_ne (x : Str) : Txt.split x " " ≠ [] := fun e => by
  have z := split_sp x
  rw [e] at z
  exact spl1_ne 32 (tl x) [] z.symm
theorem split_nl_ne (x : Str) : Txt.split x "\n" ≠ [] := fun e => by
  have z := split_spl x "\n" (by rw [tl_nl]; simp) (kind_ok nl_all)
  rw [e, tl_nl] at z
  exact spl1_ne 10 (tl x) [] z.symm
/-! ### words without blanks -/
def Plain (w : Str) : Prop := 32 ∉ tl w ∧ 10 ∉ tl w
def NoNl (w : Str) : Prop := 10 ∉ tl w
instance (w : Str) : Decidable (Plain w) := inferInstanceAs (Decidable (_ ∧ _))
instance (w : Str) : Decidable (NoNl w) := inferInstanceAs (Decidable (_ ∉ _))
theorem NoNl.app {x y : Str} (h : NoNl x) (k : NoNl y) : NoNl (x ++ y) := by
  unfold NoNl at *
  rw [tl_append, List.mem_append]
  exact fun z => z.elim h k
theorem join_cons2 (s x y : Str) (r : List Str) : Str.join s (x :: y :: r) = x ++ s ++ Str.join s (y :: r) := rfl
theorem split_joinP {ws : List Str} (hne : ws ≠ []) (h : ∀ w ∈ ws, Plain w) : Txt.split (Str.join " " ws) " " = ws := by
  have := split_join (y := (" " : Str)) (s := 32) (S := []) tl_sp sp_all hne (fun p hp => (h p hp).1)
  rwa [join_eq] at this
theorem nonl_join {s : Str} (hs : NoNl s) : ∀ {ws : List Str}, (∀ w ∈ ws, NoNl w) → NoNl (Str.join s ws)
  | [], _ => fun z => by cases z
  | [x], h => h x (List.mem_singleton.mpr rfl)
  | x :: y :: r, h => ((h x (List.mem_cons_self ..)).app hs).app (nonl_join hs fun w hw => h w (List.mem_cons_of_mem _ hw))
theorem within_ne {lo hi c : Nat} {l : List Nat} (h : within lo hi l = true) (hc : c < lo ∨ hi < c) : c ∉ l := fun hm => by
  have := List.all_eq_true.mp h c hm
  simp only [Bool.and_eq_true, decide_eq_true_eq] at this
  omega
theorem plain_small {w : Str} (h : small w = true) : Plain w := by
  unfold small at h
  rw [Bool.and_eq_true] at h
  exact ⟨within_ne h.2 (by omega), within_ne h.2 (by omega)⟩
theorem plain_class {w : Str} (h : className w = true) : Plain w := by
  unfold className at h
  rw [Bool.and_eq_true, Bool.and_eq_true] at h
  have e : tl w = (tl w).take 1 ++ (tl w).drop 1 := (List.take_append_drop 1 _).symm
  constructor
  · rw [e, List.mem_append]
    exact fun z => z.elim (within_ne h.1.2 (by omega)) (within_ne h.2 (by omega))
  · rw [e, List.mem_append]
    exact fun z => z.elim (within_ne h.1.2 (by omega)) (within_ne h.2 (by omega))
theorem plain_field {w : Str} (h : fieldName w = true) : Plain w := by
  unfold fieldName at h
  rw [Bool.and_eq_true] at h
  exact plain_small h.1
theorem plain_of {l : List Str} (h : ∀ w ∈ l, Plain w) {w : Str} (k : l.contains w = true) : Plain w := h w (List.contains_iff_mem.mp k)
/-! ### the rows of a library -/
def opRow (o : Op) : Rw :=
  if arity o.sign = 0 then ([("make" : Str), o.sign, ("by" : Str)] : Rw) ++ Txt.split o.maker " "
  else if o.changed = [] then ([o.sign, ("by" : Str)] : Rw) ++ Txt.split o.maker " "
  else ([o.sign, ("changes" : Str)] : Rw) ++ o.changed ++ ([("by" : Str)] : Rw) ++ Txt.split o.maker " "
def rootRows (n : Str) (ps : List Str) (kept : List (Str × Str)) (hook : Option Str) : List Rw :=
  ([[("library" : Str), n]] : List Rw) ++ ps.map (fun p => [("needs" : Str), p]) ++ kept.map (fun p => [("keeps" : Str), p.1, ("of" : Str), p.2]) ++ (match hook with | some h => [[("hook" : Str), h]] | none => [])
def rowsOf (L : Lib) : List Rw := rootRows L.name L.ps L.kept L.hook ++ L.ops.map opRow
/-- names that make no trouble in a text -/
structure Clean (L : Lib) : Prop where
  name : Plain L.name
  ps : ∀ p ∈ L.ps, Plain p
  kept : ∀ p ∈ L.kept, Plain p.1 ∧ Plain p.2
  hook : ∀ h, L.hook = some h → Plain h
  ops : ∀ o ∈ L.ops, Plain o.sign ∧ (∀ p ∈ o.changed, Plain p) ∧ NoNl o.maker
theorem split_two {x y : Str} (hx : Plain x) (hy : Plain y) : Txt.split (x ++ (" " : Str) ++ y) " " = [x, y] := by
  rw [split_app, split_one hx.1, split_one hy.1]
  rfl
theorem app_assoc (x y z : Str) : x ++ y ++ z = x ++ (y ++ z) := ext_tl (by simp only [tl_append, List.append_assoc])
theorem opLine_row {o : Op} (h : Plain o.sign) (hc : ∀ p ∈ o.changed, Plain p) : Txt.split (opLine o) " " = opRow o := by
  unfold opLine opRow
  have e1 : ("make " : Str) = ("make" : Str) ++ (" " : Str) := by decide +kernel
  have e2 : (" by " : Str) = (" " : Str) ++ ("by" : Str) ++ (" " : Str) := by decide +kernel
  have e3 : (" changes " : Str) = (" " : Str) ++ ("changes" : Str) ++ (" " : Str) := by decide +kernel
  have b : Txt.split ("by" : Str) " " = [("by" : Str)] := split_one (x := ("by" : Str)) (by decide +kernel)
  have m : Txt.split ("make" : Str) " " = [("make" : Str)] := split_one (x := ("make" : Str)) (by decide +kernel)
  have c : Txt.split ("changes" : Str) " " = [("changes" : Str)] := split_one (x := ("changes" : Str)) (by decide +kernel)
  by_cases h0 : arity o.sign = 0
  · rw [if_pos h0, if_pos h0, e1, e2]
    have e : ("make" : Str) ++ (" " : Str) ++ o.sign ++ ((" " : Str) ++ ("by" : Str) ++ (" " : Str)) ++ o.maker = ("make" : Str) ++ (" " : Str) ++ (o.sign ++ (" " : Str) ++ (("by" : Str) ++ (" " : Str) ++ o.maker)) := by
      simp only [app_assoc]
    rw [e, split_app, split_app, split_app, m, b, split_one h.1]
    rfl
  · rw [if_neg h0, if_neg h0]
    by_cases h1 : o.changed = []
    · rw [if_pos h1, if_pos h1, e2]
      have e : o.sign ++ ((" " : Str) ++ ("by" : Str) ++ (" " : Str)) ++ o.maker = o.sign ++ (" " : Str) ++ (("by" : Str) ++ (" " : Str) ++ o.maker) := by simp only [app_assoc]
      rw [e, split_app, split_app, b, split_one h.1]
      rfl
    · rw [if_neg h1, if_neg h1, e2, e3]
      have e : o.sign ++ ((" " : Str) ++ ("changes" : Str) ++ (" " : Str)) ++ Str.join " " o.changed ++ ((" " : Str) ++ ("by" : Str) ++ (" " : Str)) ++ o.maker
          = o.sign ++ (" " : Str) ++ (("changes" : Str) ++ (" " : Str) ++ (Str.join " " o.changed ++ (" " : Str) ++ (("by" : Str) ++ (" " : Str) ++ o.maker))) := by simp only [app_assoc]
      rw [e, split_app, split_app, split_app, split_app, b, c, split_one h.1, split_joinP h1 hc]
      simp only [List.append_assoc, List.cons_append, List.nil_append]
theorem lines_rows {L : Lib} (C : Clean L) : (linesM L).map (fun l => Txt.split l " ") = rowsOf L := by
  unfold linesM rowsOf rootLines rootRows
  have k2 : ∀ {w : Str} (x : Str), Plain w → Plain x → Txt.split (w ++ (" " : Str) ++ x) " " = [w, x] := fun x hw hx => split_two hw hx
  have e1 : ("library " : Str) = ("library" : Str) ++ (" " : Str) := by decide +kernel
  have e2 : ("needs " : Str) = ("needs" : Str) ++ (" " : Str) := by decide +kernel
  have e3 : ("keeps " : Str) = ("keeps" : Str) ++ (" " : Str) := by decide +kernel
  have e4 : (" of " : Str) = (" " : Str) ++ ("of" : Str) ++ (" " : Str) := by decide +kernel
  have e5 : ("hook " : Str) = ("hook" : Str) ++ (" " : Str) := by decide +kernel
  simp only [List.map_append, List.map_map]
  congr 1
  · congr 1
    · congr 1
      · congr 1
        · show [Txt.split (("library " : Str) ++ L.name) " "] = _
          rw [e1, k2 _ (by decide +kernel) C.name]
        · refine List.map_congr_left fun p hp => ?_
          show Txt.split (("needs " : Str) ++ p) " " = _
          rw [e2, k2 _ (by decide +kernel) (C.ps p hp)]
      · refine List.map_congr_left fun p hp => ?_
        show Txt.split (("keeps " : Str) ++ p.1 ++ (" of " : Str) ++ p.2) " " = _
        have e : ("keeps" : Str) ++ (" " : Str) ++ p.1 ++ ((" " : Str) ++ ("of" : Str) ++ (" " : Str)) ++ p.2 = ("keeps" : Str) ++ (" " : Str) ++ (p.1 ++ (" " : Str) ++ (("of" : Str) ++ (" " : Str) ++ p.2)) := by simp only [app_assoc]
        rw [e3, e4, e, split_app, split_app, split_app, split_one (by decide +kernel), split_one (C.kept p hp).1.1, split_one (by decide +kernel), split_one (C.kept p hp).2.1]
        rfl
    · cases e : L.hook with
      | none => rfl
      | some h =>
        show [Txt.split (("hook " : Str) ++ h) " "] = _
        rw [e5, k2 _ (by decide +kernel) (C.hook h e)]
  · refine List.map_congr_left fun o ho => ?_
    exact opLine_row (C.ops o ho).1 (C.ops o ho).2.1
theorem lines_ne (L : Lib) : linesM L ≠ [] := by
  unfold linesM rootLines
  simp
theorem nonl_lit {z : Str} (h : (tl z).contains 10 = false) : NoNl z := fun k => by
  rw [List.contains_iff_mem.mpr k] at h
  cases h
theorem lines_nl {L : Lib} (C : Clean L) : ∀ l ∈ linesM L, NoNl l := by
  intro l hl
  unfold linesM rootLines at hl
  simp only [List.mem_append, List.mem_map] at hl
  have a1 : NoNl ("library " : Str) := nonl_lit (by decide +kernel)
  have a2 : NoNl ("needs " : Str) := nonl_lit (by decide +kernel)
  have a3 : NoNl ("keeps " : Str) := nonl_lit (by decide +kernel)
  have a4 : NoNl (" of " : Str) := nonl_lit (by decide +kernel)
  have a5 : NoNl ("hook " : Str) := nonl_lit (by decide +kernel)
  have a6 : NoNl ("make " : Str) := nonl_lit (by decide +kernel)
  have a7 : NoNl (" by " : Str) := nonl_lit (by decide +kernel)
  have a8 : NoNl (" changes " : Str) := nonl_lit (by decide +kernel)
  have a9 : NoNl (" " : Str) := nonl_lit (by decide +kernel)
  rcases hl with (((hl | ⟨p, hp, rfl⟩) | ⟨p, hp, rfl⟩) | hl) | ⟨o, ho, rfl⟩
  · rw [List.mem_singleton.mp hl]
    exact a1.app C.name.2
  · exact a2.app (C.ps p hp).2
  · exact ((a3.app (C.kept p hp).1.2).app a4).app (C.kept p hp).2.2
  · cases e : L.hook with
    | none => rw [e] at hl; cases hl
    | some h =>
      rw [e] at hl
      rw [List.mem_singleton.mp hl]
      exact a5.app (C.hook h e).2
  · obtain ⟨h1, h2, h3⟩ := C.ops o ho
    unfold opLine
    split
    · exact ((a6.app h1.2).app a7).app h3
    · split
      · exact (NoNl.app (x := o.sign) h1.2 a7).app h3
      · exact (((NoNl.app (x := o.sign) h1.2 a8).app (nonl_join a9 fun w hw => (h2 w hw).2)).app a7).app h3
theorem rows_text {L : Lib} (C : Clean L) : rowsM (textM L) = rowsOf L := by
  unfold rowsM textM
  have := split_join (y := ("\n" : Str)) (s := 10) (S := []) tl_nl nl_all (lines_ne L) (fun p hp => lines_nl C p hp)
  rw [join_eq] at this
  rw [this]
  exact lines_rows C
end LM

/-! the rows of a right library, read -/
namespace LM
open PySem TL L2
def KeptOk : List Str → List (Str × Str) → Prop
  | _, [] => True
  | known, p :: r => fieldName p.1 = true ∧ p.1 ∉ known ∧ p.2 ∈ known ∧ KeptOk (known ++ [p.1]) r
structure RootOk (n : Str) (ps : List Str) (kept : List (Str × Str)) (hook : Option Str) : Prop where
  name : className n = true
  ps0 : ps ≠ []
  ps3 : ps.length ≤ 3
  pf : ∀ p ∈ ps, fieldName p = true
  nd : ps.Nodup
  kept2 : kept.length ≤ 2
  ko : KeptOk ps kept
  hk : ∀ h, hook = some h → h ∈ rootHooks
def needsR (p : Str) : Rw := [("needs" : Str), p]
def keepsR (p : Str × Str) : Rw := [("keeps" : Str), p.1, ("of" : Str), p.2]
theorem needs_none {a : Str} {t : List Str} {found : List Str} (h : a ≠ "needs") : needsRow (a :: t) found = none := by
  unfold needsRow
  split
  · rename_i x f e
    have e1 : a = x := by injection e
    have : (x == ("needs" : Str)) = false := by rw [← e1]; simpa using h
    rw [this]
    rfl
  · rfl
theorem keeps_none {a : Str} {t : List Str} {known : List Str} (h : a ≠ "keeps") : keepsRow (a :: t) known = none := by
  unfold keepsRow
  split
  · rename_i x f o s e
    have e1 : a = x := by injection e
    have : (x == ("keeps" : Str)) = false := by rw [← e1]; simpa using h
    rw [this]
    rfl
  · rfl
theorem hook_none {a : Str} {t : List Str} (h : a ≠ "hook") : hookRow (a :: t) = false := by
  unfold hookRow
  split
  · rename_i x f e
    have e1 : a = x := by injection e
    have : (x == ("hook" : Str)) = false := by rw [← e1]; simpa using h
    rw [this]
    rfl
  · rfl
theorem params_stop {rest : List Rw} {found : List Str} (h : ∀ r ∈ rest.head?, needsRow r found = none) : paramsM rest found = found := by
  cases rest with
  | nil => rfl
  | cons r rs =>
    unfold paramsM
    rw [h r rfl]
theorem params_run : ∀ (ps found : List Str) (rest : List Rw), (∀ p ∈ ps, fieldName p = true) → (found ++ ps).Nodup → (∀ r ∈ rest.head?, needsRow r (found ++ ps) = none) → paramsM (ps.map needsR ++ rest) found = found ++ ps
  | [], found, rest, _, _, h => by
    rw [List.append_nil] at h ⊢
    exact params_stop h
  | p :: ps, found, rest, hf, nd, h => by
    have e : found ++ p :: ps = (found ++ [p]) ++ ps := by rw [List.append_assoc]; rfl
    have np : p ∉ found := by
      intro hm
      rw [List.nodup_append] at nd
      exact nd.2.2 p hm p (List.mem_cons_self ..) rfl
    have q : needsRow (needsR p) found = some p := by
      show (if (("needs" : Str) == "needs") && fieldName p && !found.contains p then some p else none) = some p
      rw [hf p (List.mem_cons_self ..), show found.contains p = false by simpa using np]
      rfl
    show paramsM (needsR p :: (ps.map needsR ++ rest)) found = _
    unfold paramsM
    rw [q]
    rw [e] at nd h ⊢
    exact params_run ps (found ++ [p]) rest (fun z hz => hf z (List.mem_cons_of_mem _ hz)) nd h
theorem kept_stop {rest : List Rw} {known : List Str} {found : List (Str × Str)} (h : ∀ r ∈ rest.head?, ∀ kn, keepsRow r kn = none) : keptM rest known found = found := by
  cases rest with
  | nil => rfl
  | cons r rs =>
    unfold keptM
    rw [h r rfl]
theorem kept_run : ∀ (kept : List (Str × Str)) (known : List Str) (found : List (Str × Str)) (rest : List Rw), KeptOk known kept → (∀ r ∈ rest.head?, ∀ kn, keepsRow r kn = none) → keptM (kept.map keepsR ++ rest) known found = found ++ kept
  | [], known, found, rest, _, h => by
    rw [List.append_nil]
    exact kept_stop h
  | p :: r, known, found, rest, ko, h => by
    obtain ⟨k1, k2, k3, k4⟩ := ko
    have q : keepsRow (keepsR p) known = some p := by
      show (if (("keeps" : Str) == "keeps") && (("of" : Str) == "of") && fieldName p.1 && !known.contains p.1 && known.contains p.2 then some (p.1, p.2) else none) = some p
      rw [k1, show known.contains p.1 = false by simpa using k2, show known.contains p.2 = true by simpa using k3]
      rfl
    show keptM (keepsR p :: (r.map keepsR ++ rest)) known found = _
    unfold keptM
    rw [q]
    have e : found ++ p :: r = (found ++ [p]) ++ r := by rw [List.append_assoc]; rfl
    rw [e]
    exact kept_run r _ _ rest k4 h
/-- rows that begin no root line -/
def Free (R : List Rw) : Prop := ∀ r ∈ R, ∃ a t, r = a :: t ∧ a ≠ ("needs" : Str) ∧ a ≠ ("keeps" : Str) ∧ a ≠ ("hook" : Str)
def hookRows (hook : Option Str) : List Rw := match hook with | some h => [[("hook" : Str), h]] | none => []
theorem read_root {n : Str} {ps : List Str} {kept : List (Str × Str)} {hook : Option Str} {R : List Rw} (C : RootOk n ps kept hook) (F : Free R) :
    readRows (rootRows n ps kept hook ++ R) = match opsOf (rootRows n ps kept hook ++ R) (rootRows n ps kept hook).length ps hook with
      | .error k => .error k
      | .ok ops => .ok ⟨n, ps, kept, hook, ops⟩ := by
  have er : rootRows n ps kept hook ++ R = [("library" : Str), n] :: (ps.map needsR ++ (kept.map keepsR ++ (hookRows hook ++ R))) := by
    unfold rootRows hookRows
    simp only [List.append_assoc, List.cons_append, List.nil_append]
    rfl
  have el : (rootRows n ps kept hook).length = 1 + ps.length + kept.length + (hookRows hook).length := by
    unfold rootRows hookRows
    first
      | (simp only [List.length_append, List.length_map, List.length_cons, List.length_nil, Nat.zero_add]; cases hook <;> rfl)
      | simp only [List.length_append, List.length_map, List.length_cons, List.length_nil, Nat.zero_add]
  rw [er, el]
  generalize hrows : [("library" : Str), n] :: (ps.map needsR ++ (kept.map keepsR ++ (hookRows hook ++ R))) = rows
  have h1 : rows.headD [] = [("library" : Str), n] := by rw [← hrows]; rfl
  have d1 : rows.drop 1 = ps.map needsR ++ (kept.map keepsR ++ (hookRows hook ++ R)) := by rw [← hrows]; rfl
  have hdF : ∀ r ∈ (hookRows hook ++ R).head?, (∀ kn, keepsRow r kn = none) ∧ ∀ f, needsRow r f = none := by
    intro r hr
    cases hook with
    | some h =>
      obtain rfl : [("hook" : Str), h] = r := by simpa [hookRows] using hr
      exact ⟨fun kn => keeps_none (by decide +kernel), fun f => needs_none (by decide +kernel)⟩
    | none =>
      cases R with
      | nil => cases hr
      | cons x xs =>
        obtain rfl : x = r := by simpa [hookRows] using hr
        obtain ⟨a, t, rfl, a1, a2, a3⟩ := F _ (List.mem_cons_self ..)
        exact ⟨fun kn => keeps_none a2, fun f => needs_none a1⟩
  have hP : paramsM ((rows.drop 1).take 3) [] = ps := by
    rw [d1, List.take_append, List.take_of_length_le (by rw [List.length_map]; exact C.ps3)]
    rw [params_run ps [] _ C.pf (by simpa using C.nd) ?_]
    · rfl
    · intro r hr
      have hr2 : r ∈ (kept.map keepsR ++ (hookRows hook ++ R)).head? := by
        rw [List.length_map] at hr
        cases e : 3 - ps.length with
        | zero => rw [e, List.take_zero] at hr; cases hr
        | succ j =>
          rw [e] at hr
          cases z : kept.map keepsR ++ (hookRows hook ++ R) with
          | nil => rw [z] at hr; cases hr
          | cons x xs => rw [z] at hr; exact hr
      cases kept with
      | nil => exact (hdF r hr2).2 _
      | cons p q =>
        obtain rfl : keepsR p = r := by simpa using hr2
        exact needs_none (by decide +kernel)
  have d2 : rows.drop (1 + ps.length) = kept.map keepsR ++ (hookRows hook ++ R) := by
    rw [← List.drop_drop, d1]
    exact List.drop_left' (by rw [List.length_map])
  have hK : keptM ((rows.drop (1 + ps.length)).take 2) ps [] = kept := by
    rw [d2, List.take_append, List.take_of_length_le (by rw [List.length_map]; exact C.kept2)]
    rw [kept_run kept ps [] _ C.ko ?_]
    · rfl
    · intro r hr
      have hr2 : r ∈ (hookRows hook ++ R).head? := by
        rw [List.length_map] at hr
        cases e : 2 - kept.length with
        | zero => rw [e, List.take_zero] at hr; cases hr
        | succ j =>
          rw [e] at hr
          cases z : hookRows hook ++ R with
          | nil => rw [z] at hr; cases hr
          | cons x xs => rw [z] at hr; exact hr
      exact (hdF r hr2).1
  have d3 : rows.drop (1 + ps.length + kept.length) = hookRows hook ++ R := by
    rw [← List.drop_drop, d2]
    exact List.drop_left' (by rw [List.length_map])
  have g3 : rows[1 + ps.length + kept.length]? = (hookRows hook ++ R).head? := by
    rw [← d3, List.head?_drop]
  have hH : hookAt rows (1 + ps.length + kept.length) = hook := by
    unfold hookAt
    rw [g3]
    cases hook with
    | some h =>
      have q : hookRow [("hook" : Str), h] = true := by
        show ((("hook" : Str) == "hook") && rootHooks.contains h) = true
        rw [show rootHooks.contains h = true by simpa using C.hk h rfl]
        rfl
      show (if hookRow [("hook" : Str), h] then some h else none) = some h
      rw [q]
      rfl
    | none =>
      cases R with
      | nil => rfl
      | cons x xs =>
        obtain ⟨a, t, rfl, a1, a2, a3⟩ := F _ (List.mem_cons_self ..)
        show (if hookRow (a :: t) then some ((a :: t).getD 1 "") else none) = none
        rw [hook_none a3]
        rfl
  have hE : ps.isEmpty = false := by
    cases ps with
    | nil => exact absurd rfl C.ps0
    | cons _ _ => rfl
  have hF : firstRow [("library" : Str), n] = true := by
    show ((("library" : Str) == "library") && className n) = true
    rw [C.name]
    rfl
  unfold readRows
  simp only [h1, hF, hP, hE, hK, hH, Bool.not_true, Bool.false_eq_true, if_false]
  have h3 : (if hook.isSome = true then 1 + ps.length + kept.length + 1 else 1 + ps.length + kept.length) = 1 + ps.length + kept.length + (hookRows hook).length := by
    cases hook <;> rfl
  rw [h3]
  rfl
theorem opsOf_root {n : Str} {ps : List Str} {kept : List (Str × Str)} {hook : Option Str} {R : List Rw} (h : R ≠ []) :
    opsOf (rootRows n ps kept hook ++ R) (rootRows n ps kept hook).length ps hook = opsM ps hook (rootRows n ps kept hook).length R [] := by
  unfold opsOf
  rw [if_neg ?_, List.drop_left]
  rw [List.length_append]
  have := List.length_pos_iff.mpr h
  omega
/-! ### operations -/
/-- sign and changed parameters are right; a request changes all -/
structure OpForm (ps : List Str) (o : Op) : Prop where
  sg : binary.contains o.sign = true ∨ unary.contains o.sign = true ∨ (request o.sign = true ∧ o.changed = ps)
  ch : o.changed = ps.filter fun f => o.changed.contains f
  nb : ∀ p ∈ o.changed, p ≠ ("by" : Str)
theorem free_op {ps : List Str} {o : Op} (h : OpForm ps o) (hr : arity o.sign = 0 ∨ binary.contains o.sign = true ∨ unary.contains o.sign = true) : ∃ a t, opRow o = a :: t ∧ a ≠ ("needs" : Str) ∧ a ≠ ("keeps" : Str) ∧ a ≠ ("hook" : Str) := by
  unfold opRow
  by_cases h0 : arity o.sign = 0
  · rw [if_pos h0]
    exact ⟨("make" : Str), _, rfl, by decide +kernel, by decide +kernel, by decide +kernel⟩
  · rw [if_neg h0]
    have hb : o.sign ∈ binary ∨ o.sign ∈ unary := by
      rcases hr with hr | hr | hr
      · exact absurd hr h0
      · exact .inl (List.contains_iff_mem.mp hr)
      · exact .inr (List.contains_iff_mem.mp hr)
    have key : ∀ s ∈ binary ++ unary, s ≠ ("needs" : Str) ∧ s ≠ ("keeps" : Str) ∧ s ≠ ("hook" : Str) := by decide +kernel
    have k := key o.sign (List.mem_append.mpr hb)
    split
    · exact ⟨o.sign, _, rfl, k.1, k.2.1, k.2.2⟩
    · exact ⟨o.sign, _, rfl, k.1, k.2.1, k.2.2⟩
theorem arity_bin {s : Str} (h : binary.contains s = true) : arity s = 2 := by
  unfold arity
  rw [if_pos h]
theorem arity_un {s : Str} (h : binary.contains s = false) (h2 : unary.contains s = true) : arity s = 1 := by
  unfold arity
  rw [h, h2]
  rfl
theorem bin_not_small : ∀ s ∈ binary, small s = false := by decide +kernel
theorem arity_req {s : Str} (h : request s = true) : arity s = 0 ∧ binary.contains s = false ∧ unary.contains s = false := by
  unfold request at h
  rw [Bool.and_eq_true, Bool.not_eq_true'] at h
  have hb : binary.contains s = false := by
    cases e : binary.contains s with
    | false => rfl
    | true =>
      have z := bin_not_small s (List.contains_iff_mem.mp e)
      rw [h.1] at z
      cases z
  refine ⟨?_, hb, h.2⟩
  unfold arity
  rw [hb, h.2]
  rfl
theorem findIdx_by {pre : List Str} {rest : List Str} (h : ∀ p ∈ pre, p ≠ ("by" : Str)) : (pre ++ ("by" : Str) :: rest).findIdx (· == ("by" : Str)) = pre.length := by
  rw [List.findIdx_append]
  have : pre.findIdx (· == ("by" : Str)) = pre.length := List.findIdx_eq_length.mpr fun x hx => by simpa using h x hx
  rw [this]
  simp [List.findIdx_cons]
theorem opM_row {ps : List Str} {o : Op} (h : OpForm ps o) (hps : ps ≠ []) : opM (opRow o) ps = if (makersOf (arity o.sign)).contains o.maker then some o else none := by
  by_cases hr : request o.sign = true ∧ binary.contains o.sign = false ∧ unary.contains o.sign = false
  · obtain ⟨hq, hb, hu⟩ := hr
    have ec : o.changed = ps := by
      rcases h.sg with z | z | z
      · rw [z] at hb; cases hb
      · rw [z] at hu; cases hu
      · exact z.2
    obtain ⟨a0, _, _⟩ := arity_req hq
    have e : opRow o = ("make" : Str) :: o.sign :: ("by" : Str) :: Txt.split o.maker " " := by
      unfold opRow
      rw [if_pos a0]
      rfl
    rw [e, a0]
    show requestM (("make" : Str) :: o.sign :: ("by" : Str) :: Txt.split o.maker " ") ps = _
    unfold requestM
    simp only [join_split]
    show (if (("by" : Str) == "by") && request o.sign && makers0.contains o.maker then some (⟨o.sign, ps, o.maker⟩ : Op) else none) = if makers0.contains o.maker then some o else none
    rw [hq, ← ec]
    rfl
  · have hs : binary.contains o.sign = true ∨ unary.contains o.sign = true := by
      rcases h.sg with z | z | z
      · exact .inl z
      · exact .inr z
      · exact absurd ⟨z.1, (arity_req z.1).2⟩ hr
    have a0 : arity o.sign ≠ 0 := by
      rcases hs with z | z
      · rw [arity_bin z]; decide
      · cases e : binary.contains o.sign with
        | true => rw [arity_bin e]; decide
        | false => rw [arity_un e z]; decide
    have nm : o.sign ≠ ("make" : Str) := by
      have key : ∀ s ∈ binary ++ unary, s ≠ ("make" : Str) := by decide +kernel
      exact key o.sign (List.mem_append.mpr (hs.imp (fun z => List.contains_iff_mem.mp z) fun z => List.contains_iff_mem.mp z))
    have hpre : ∃ pre : List Str, opRow o = o.sign :: (pre ++ ("by" : Str) :: Txt.split o.maker " ") ∧ (∀ p ∈ pre, p ≠ ("by" : Str)) ∧ selection pre ps = true ∧ pre.drop 1 = o.changed := by
      unfold opRow
      rw [if_neg a0]
      by_cases hc : o.changed = []
      · rw [if_pos hc]
        exact ⟨[], rfl, (fun p hp => by cases hp), rfl, by rw [hc]; rfl⟩
      · rw [if_neg hc]
        refine ⟨("changes" : Str) :: o.changed, by simp, ?_, ?_, rfl⟩
        · intro p hp
          rcases List.mem_cons.mp hp with rfl | hp
          · decide +kernel
          · exact h.nb p hp
        · have e1 : o.changed.isEmpty = false := by
            cases e : o.changed with
            | nil => exact absurd e hc
            | cons _ _ => rfl
          show ((("changes" : Str) == "changes") && !o.changed.isEmpty && decide (o.changed = ps.filter fun f => o.changed.contains f)) = true
          rw [e1, decide_eq_true h.ch]
          rfl
    obtain ⟨pre, e, hb, hsel, hd⟩ := hpre
    rw [e]
    unfold opM
    have n1 : (o.sign == ("make" : Str)) = false := by simpa using nm
    have n2 : (!binary.contains o.sign && !unary.contains o.sign) = false := by
      rcases hs with z | z <;> rw [z] <;> simp
    have n3 : (pre ++ ("by" : Str) :: Txt.split o.maker " ").contains "by" = true := by simp
    have ft : (pre ++ ("by" : Str) :: Txt.split o.maker " ").take pre.length = pre := List.take_left
    have fd : (pre ++ ("by" : Str) :: Txt.split o.maker " ").drop (pre.length + 1) = Txt.split o.maker " " := by
      rw [← List.drop_drop, List.drop_left]
      rfl
    simp only [n1, n2, n3, findIdx_by hb, ft, fd, join_split, hsel, hd, Bool.not_true, Bool.or_false, Bool.false_eq_true, if_false]
    cases (makersOf (arity o.sign)).contains o.maker <;> rfl
/-- the maker is allowed -/
def mkOk (hook : Option Str) (o : Op) : Bool := (makersOf (arity o.sign)).contains o.maker && !(o.maker == "hook" && hook.isNone)
theorem ops_run {ps : List Str} {hook : Option Str} (hps : ps ≠ []) : ∀ (ops : List Op) (k : Nat) (found : List Op), (∀ o ∈ ops, OpForm ps o) → found.length + ops.length ≤ 6 → ((found ++ ops).map (·.sign)).Nodup →
    (ops.all (mkOk hook) = true → opsM ps hook k (ops.map opRow) found = .ok (found ++ ops)) ∧ (ops.all (mkOk hook) = false → ∃ i, opsM ps hook k (ops.map opRow) found = .error i)
  | [], k, found, _, _, _ => ⟨fun _ => by rw [List.append_nil]; rfl, fun h => by cases h⟩
  | o :: ops, k, found, hf, hl, nd => by
    have e : found ++ o :: ops = (found ++ [o]) ++ ops := by rw [List.append_assoc]; rfl
    have hl' : found.length + 1 + ops.length ≤ 6 := by
      rw [List.length_cons] at hl
      omega
    have nn : (found.map (·.sign)).contains o.sign = false := by
      rw [List.map_append, List.nodup_append] at nd
      cases z : (found.map (·.sign)).contains o.sign with
      | false => rfl
      | true => exact absurd rfl (nd.2.2 o.sign (List.contains_iff_mem.mp z) o.sign (List.mem_cons_self ..))
    have ih := ops_run (hook := hook) hps ops (k + 1) (found ++ [o]) (fun z hz => hf z (List.mem_cons_of_mem _ hz)) (by rw [List.length_append]; exact hl') (by rw [← e]; exact nd)
    have step : opsM ps hook k (opRow o :: ops.map opRow) found = if mkOk hook o = true then opsM ps hook (k + 1) (ops.map opRow) (found ++ [o]) else .error k := by
      show (match opM (opRow o) ps with
        | none => Except.error k
        | some (o : Op) => if found.length = 6 || (found.map (fun z : Op => z.sign)).contains o.sign || (o.maker == "hook" && hook.isNone) then .error k else opsM ps hook (k + 1) (ops.map opRow) (found ++ [o])) = _
      rw [opM_row (hf o (List.mem_cons_self ..)) hps]
      unfold mkOk
      cases (makersOf (arity o.sign)).contains o.maker with
      | false => rfl
      | true =>
        show (if decide (found.length = 6) || (found.map (fun z : Op => z.sign)).contains o.sign || (o.maker == "hook" && hook.isNone) then Except.error k else opsM ps hook (k + 1) (ops.map opRow) (found ++ [o])) = _
        rw [nn, show decide (found.length = 6) = false from decide_eq_false (by omega)]
        cases (o.maker == ("hook" : Str) && hook.isNone) <;> rfl
    show (_ → opsM ps hook k (opRow o :: ops.map opRow) found = _) ∧ (_ → ∃ i, opsM ps hook k (opRow o :: ops.map opRow) found = _)
    rw [step, e]
    cases hm : mkOk hook o with
    | true =>
      refine ⟨fun h => ?_, fun h => ?_⟩
      · rw [if_pos rfl]
        rw [List.all_cons, hm, Bool.true_and] at h
        exact ih.1 h
      · rw [if_pos rfl]
        rw [List.all_cons, hm, Bool.true_and] at h
        exact ih.2 h
    | false =>
      refine ⟨fun h => ?_, fun _ => ⟨k, rfl⟩⟩
      rw [List.all_cons, hm] at h
      cases h
/-- a library whose makers may be any words -/
structure LibOk (L : Lib) : Prop where
  root : RootOk L.name L.ps L.kept L.hook
  ops0 : L.ops ≠ []
  ops6 : L.ops.length ≤ 6
  nd : (L.ops.map (·.sign)).Nodup
  form : ∀ o ∈ L.ops, OpForm L.ps o
  nl : ∀ o ∈ L.ops, NoNl o.maker
theorem kept_plain : ∀ {kept : List (Str × Str)} {known : List Str}, KeptOk known kept → (∀ p ∈ known, Plain p) → ∀ p ∈ kept, Plain p.1 ∧ Plain p.2
  | [], _, _, _, p, hp => by cases hp
  | q :: r, known, ko, hk, p, hp => by
    obtain ⟨k1, k2, k3, k4⟩ := ko
    rcases List.mem_cons.mp hp with rfl | hp
    · exact ⟨plain_field k1, hk _ k3⟩
    · refine kept_plain k4 (fun z hz => ?_) p hp
      rcases List.mem_append.mp hz with hz | hz
      · exact hk z hz
      · rw [List.mem_singleton.mp hz]
        exact plain_field k1
theorem LibOk.clean {L : Lib} (h : LibOk L) : Clean L := by
  have hp : ∀ p ∈ L.ps, Plain p := fun p hp => plain_field (h.root.pf p hp)
  refine ⟨plain_class h.root.name, hp, kept_plain h.root.ko hp, fun w hw => ?_, fun o ho => ⟨?_, fun p hq => ?_, h.nl o ho⟩⟩
  · have key : ∀ s ∈ rootHooks, Plain s := by decide +kernel
    exact key w (h.root.hk w hw)
  · have key : ∀ s ∈ binary ++ unary, Plain s := by decide +kernel
    rcases (h.form o ho).sg with z | z | z
    · exact key _ (List.mem_append.mpr (.inl (List.contains_iff_mem.mp z)))
    · exact key _ (List.mem_append.mpr (.inr (List.contains_iff_mem.mp z)))
    · unfold request at z
      rw [Bool.and_eq_true] at z
      exact plain_small z.1.1
  · rw [(h.form o ho).ch] at hq
    exact hp p (List.mem_filter.mp hq).1
theorem LibOk.free {L : Lib} (h : LibOk L) : Free (L.ops.map opRow) := by
  intro r hr
  obtain ⟨o, ho, rfl⟩ := List.mem_map.mp hr
  refine free_op (h.form o ho) ?_
  rcases (h.form o ho).sg with z | z | z
  · exact .inr (.inl z)
  · exact .inr (.inr z)
  · exact .inl (arity_req z.1).1
/-- THE TEXT IS READ BACK, if and only if its makers are allowed -/
theorem read_text {L : Lib} (h : LibOk L) : (L.ops.all (mkOk L.hook) = true → readM (textM L) = .ok L) ∧ (L.ops.all (mkOk L.hook) = false → ∃ i, readM (textM L) = .error i) := by
  have hne : L.ops.map opRow ≠ [] := fun e => h.ops0 (List.map_eq_nil_iff.mp e)
  have e : readM (textM L) = match opsM L.ps L.hook (rootRows L.name L.ps L.kept L.hook).length (L.ops.map opRow) [] with
      | .error k => .error k
      | .ok ops => .ok ⟨L.name, L.ps, L.kept, L.hook, ops⟩ := by
    unfold readM
    rw [rows_text h.clean]
    unfold rowsOf
    rw [read_root h.root h.free, opsOf_root hne]
  have r := ops_run (hook := L.hook) h.root.ps0 L.ops (rootRows L.name L.ps L.kept L.hook).length [] h.form (by simpa using h.ops6) (by simpa using h.nd)
  refine ⟨fun k => ?_, fun k => ?_⟩
  · rw [e, r.1 k]
    rfl
  · obtain ⟨i, hi⟩ := r.2 k
    exact ⟨i, by rw [e, hi]⟩
end LM

/-! what a library that was read is like: short names, few of them, signs unlike -/
namespace LM
open PySem TL L2
def Sh (w : Str) : Prop := w.length ≤ 1000
theorem sh_small {w : Str} (h : small w = true) : Sh w := by
  unfold small at h
  rw [Bool.and_eq_true, Bool.and_eq_true] at h
  have := of_decide_eq_true h.1.2
  show w.length ≤ 1000
  omega
theorem sh_field {w : Str} (h : fieldName w = true) : Sh w := by
  unfold fieldName at h
  rw [Bool.and_eq_true] at h
  exact sh_small h.1
theorem sh_class {w : Str} (h : className w = true) : Sh w := by
  unfold className at h
  rw [Bool.and_eq_true, Bool.and_eq_true, Bool.and_eq_true] at h
  have := of_decide_eq_true h.1.1.2
  show w.length ≤ 1000
  omega
instance (w : Str) : Decidable (Sh w) := inferInstanceAs (Decidable (_ ≤ _))
theorem sh_hooks : ∀ w ∈ rootHooks, Sh w := by decide +kernel
theorem sh_signs : ∀ w ∈ binary ++ unary, Sh w := by decide +kernel
theorem sh_makers : ∀ w ∈ makers0 ++ makers1 ++ makers2, Sh w := by decide +kernel
theorem sh_maker {n : Nat} {w : Str} (h : (makersOf n).contains w = true) : Sh w := by
  have hm := List.contains_iff_mem.mp h
  refine sh_makers w ?_
  match n, hm with
  | 0, hm => exact List.mem_append_left _ (List.mem_append_left _ hm)
  | 1, hm => exact List.mem_append_left _ (List.mem_append_right _ hm)
  | _ + 2, hm => exact List.mem_append_right _ hm
theorem strOk_small {w : Str} (h : small w = true) : PySem.PyData.strOk w = true := by
  unfold small at h
  rw [Bool.and_eq_true] at h
  unfold PySem.PyData.strOk
  rw [Array.all_eq_true_iff_forall_mem]
  intro c hc
  have := List.all_eq_true.mp h.2 c (Array.mem_toList_iff.mpr hc)
  simp only [Bool.and_eq_true, decide_eq_true_eq] at this
  exact decide_eq_true (by omega)
theorem strOk_field {w : Str} (h : fieldName w = true) : PySem.PyData.strOk w = true := by
  unfold fieldName at h
  rw [Bool.and_eq_true] at h
  exact strOk_small h.1
theorem needs_some {r : Rw} {found : List Str} {f : Str} (h : needsRow r found = some f) : fieldName f = true := by
  unfold needsRow at h
  split at h
  · split at h
    · rename_i c
      injection h with h
      subst h
      simp only [Bool.and_eq_true] at c
      exact c.1.2
    · cases h
  · cases h
theorem params_good : ∀ (rs : List Rw) (found : List Str), (∀ f ∈ found, fieldName f = true) → (∀ f ∈ paramsM rs found, fieldName f = true) ∧ (paramsM rs found).length ≤ found.length + rs.length
  | [], found, h => ⟨h, Nat.le_refl _⟩
  | r :: rs, found, h => by
    unfold paramsM
    cases e : needsRow r found with
    | none => exact ⟨h, by show found.length ≤ _; omega⟩
    | some f =>
      have ih := params_good rs (found ++ [f]) fun z hz => by
        rcases List.mem_append.mp hz with hz | hz
        · exact h z hz
        · rw [List.mem_singleton.mp hz]
          exact needs_some e
      refine ⟨ih.1, ?_⟩
      have := ih.2
      rw [List.length_append] at this
      show (paramsM rs (found ++ [f])).length ≤ found.length + (rs.length + 1)
      simp at this
      omega
theorem keeps_some {r : Rw} {known : List Str} {p : Str × Str} (h : keepsRow r known = some p) : fieldName p.1 = true ∧ p.2 ∈ known := by
  unfold keepsRow at h
  split at h
  · split at h
    · rename_i c
      injection h with h
      subst h
      simp only [Bool.and_eq_true] at c
      exact ⟨c.1.1.2, List.contains_iff_mem.mp c.2⟩
    · cases h
  · cases h
theorem kept_good : ∀ (rs : List Rw) (known : List Str) (found : List (Str × Str)), (∀ f ∈ known, Sh f) → (∀ p ∈ found, Sh p.1 ∧ Sh p.2) → (∀ p ∈ keptM rs known found, Sh p.1 ∧ Sh p.2) ∧ (keptM rs known found).length ≤ found.length + rs.length
  | [], known, found, _, h => ⟨h, Nat.le_refl _⟩
  | r :: rs, known, found, hk, h => by
    unfold keptM
    cases e : keepsRow r known with
    | none => exact ⟨h, by show found.length ≤ _; omega⟩
    | some p =>
      obtain ⟨e1, e2⟩ := keeps_some e
      have ih := kept_good rs (known ++ [p.1]) (found ++ [p]) (fun z hz => by
        rcases List.mem_append.mp hz with hz | hz
        · exact hk z hz
        · rw [List.mem_singleton.mp hz]
          exact sh_field e1) fun z hz => by
        rcases List.mem_append.mp hz with hz | hz
        · exact h z hz
        · rw [List.mem_singleton.mp hz]
          exact ⟨sh_field e1, hk _ e2⟩
      refine ⟨ih.1, ?_⟩
      have := ih.2
      rw [List.length_append] at this
      show (keptM rs (known ++ [p.1]) (found ++ [p])).length ≤ found.length + (rs.length + 1)
      simp at this
      omega
structure OpGood (ps : List Str) (o : Op) : Prop where
  sign : Sh o.sign
  maker : Sh o.maker
  sub : ∀ p ∈ o.changed, p ∈ ps
  len : o.changed.length ≤ ps.length
theorem op_good {r : Rw} {ps : List Str} {o : Op} (h : opM r ps = some o) : OpGood ps o := by
  unfold opM at h
  split at h
  · cases h
  · rename_i s rest
    split at h
    · unfold requestM at h
      split at h
      · split at h
        · rename_i c
          injection h with h
          subst h
          simp only [Bool.and_eq_true] at c
          refine ⟨?_, sh_maker (n := 0) c.2, fun p hp => hp, Nat.le_refl _⟩
          have q := c.1.2
          unfold request at q
          rw [Bool.and_eq_true] at q
          exact sh_small q.1
        · cases h
      · cases h
    · split at h
      · cases h
      · rename_i c1
        dsimp only at h
        split at h
        · cases h
        · rename_i c2
          injection h with h
          subst h
          rw [Bool.or_eq_true, not_or] at c1 c2
          have hs : s ∈ binary ++ unary := by
            cases hb : binary.contains s with
            | true => exact List.mem_append_left _ (List.contains_iff_mem.mp hb)
            | false =>
              cases hu : unary.contains s with
              | true => exact List.mem_append_right _ (List.contains_iff_mem.mp hu)
              | false => exact absurd (by rw [hb, hu]; rfl) c1.1
          have hm := c2.1
          have hsel := c2.2
          rw [Bool.not_eq_true', Bool.not_eq_false] at hm hsel
          refine ⟨sh_signs s hs, sh_maker hm, ?_, ?_⟩
          · show ∀ p ∈ (rest.take _).drop 1, _
            generalize rest.take _ = ws at hsel
            cases ws with
            | nil => intro p hp; cases hp
            | cons a ch =>
              intro p hp
              unfold selection at hsel
              simp only [Bool.and_eq_true] at hsel
              have e := of_decide_eq_true hsel.2
              have hp' : p ∈ ch := hp
              rw [e] at hp'
              exact (List.mem_filter.mp hp').1
          · show ((rest.take _).drop 1).length ≤ _
            generalize rest.take _ = ws at hsel
            cases ws with
            | nil => exact Nat.zero_le _
            | cons a ch =>
              unfold selection at hsel
              simp only [Bool.and_eq_true] at hsel
              have e := of_decide_eq_true hsel.2
              show ch.length ≤ _
              rw [e]
              exact List.length_filter_le _ _
theorem ops_good {ps : List Str} {hk : Option Str} : ∀ (rs : List Rw) (k : Nat) (found ops : List Op), opsM ps hk k rs found = .ok ops → (∀ o ∈ found, OpGood ps o) → (found.map (·.sign)).Nodup → found.length ≤ 6 →
    (∀ o ∈ ops, OpGood ps o) ∧ (ops.map (·.sign)).Nodup ∧ ops.length ≤ 6
  | [], k, found, ops, h, g, nd, l => by
    injection h with h
    subst h
    exact ⟨g, nd, l⟩
  | r :: rs, k, found, ops, h, g, nd, l => by
    unfold opsM at h
    cases e : opM r ps with
    | none => rw [e] at h; cases h
    | some o =>
      rw [e] at h
      dsimp only at h
      split at h
      · cases h
      · rename_i c
        rw [Bool.or_eq_true, not_or, Bool.or_eq_true, not_or] at c
        have n6 : found.length ≠ 6 := fun z => c.1.1 (decide_eq_true z)
        have ns : o.sign ∉ found.map (·.sign) := fun z => c.1.2 (List.contains_iff_mem.mpr z)
        refine ops_good rs (k + 1) (found ++ [o]) ops h (fun z hz => ?_) ?_ ?_
        · rcases List.mem_append.mp hz with hz | hz
          · exact g z hz
          · rw [List.mem_singleton.mp hz]
            exact op_good e
        · rw [List.map_append, List.nodup_append]
          refine ⟨nd, by simp, fun a ha b hb => ?_⟩
          rw [List.mem_singleton.mp hb]
          exact fun e => ns (by have e' : a = o.sign := e; rw [← e']; exact ha)
        · rw [List.length_append]
          show found.length + 1 ≤ 6
          omega
end LM

/-! sizes of the parts of a text -/
namespace LM
open PySem TL L2
theorem len_joinL (s : Nat) : ∀ ps : List (List Nat), ps ≠ [] → (joinL [s] ps).length + 1 = (ps.map List.length).sum + ps.length
  | [], h => absurd rfl h
  | [p], _ => by simp [joinL]
  | p :: q :: r, _ => by
    have ih := len_joinL s (q :: r) (by simp)
    show (p ++ ([s] ++ joinL [s] (q :: r))).length + 1 = _
    simp only [List.length_append, List.map_cons, List.sum_cons, List.length_cons, List.length_nil] at ih ⊢
    omega
theorem mem_joinL (s : Nat) : ∀ (ps : List (List Nat)) (p : List Nat) (c : Nat), p ∈ ps → c ∈ p → c ∈ joinL [s] ps
  | [], _, _, h, _ => by cases h
  | [q], p, c, h, hc => by
    rw [List.mem_singleton.mp h] at hc
    exact hc
  | q :: q' :: r, p, c, h, hc => by
    show c ∈ q ++ ([s] ++ joinL [s] (q' :: r))
    rcases List.mem_cons.mp h with rfl | h
    · exact List.mem_append_left _ hc
    · exact List.mem_append_right _ (List.mem_append_right _ (mem_joinL s (q' :: r) p c h hc))
theorem split_by {y : Str} {s : Nat} (ey : tl y = [s]) (hy : y.cps.all (· < 256) = true) (x : Str) : (Txt.split x y).map tl = spl [s] 0 [] (tl x) := by
  rw [split_spl x y (by rw [ey]; simp) (kind_ok hy), ey]
theorem split_len {y : Str} {s : Nat} (ey : tl y = [s]) (hy : y.cps.all (· < 256) = true) (x : Str) : ((Txt.split x y).map (·.length)).sum + (Txt.split x y).length = x.length + 1 := by
  have e := split_by ey hy x
  have q := len_joinL s (spl [s] 0 [] (tl x)) (spl1_ne s _ _)
  rw [spl1_join, List.nil_append, ← e, List.map_map, List.length_map, ← len_tl] at q
  have e2 : ((Txt.split x y).map (List.length ∘ tl)) = (Txt.split x y).map (·.length) := List.map_congr_left fun w _ => (len_tl w).symm
  rw [e2] at q
  exact q.symm
theorem split_mem {y : Str} {s : Nat} (ey : tl y = [s]) (hy : y.cps.all (· < 256) = true) {x w : Str} (h : w ∈ Txt.split x y) {c : Nat} (hc : c ∈ tl w) : c ∈ tl x := by
  have e := split_by ey hy x
  have q := mem_joinL s (spl [s] 0 [] (tl x)) (tl w) c (by rw [← e]; exact List.mem_map_of_mem h) hc
  rw [spl1_join, List.nil_append] at q
  exact q
theorem le_sum : ∀ (ws : List Str) (w : Str), w ∈ ws → w.length ≤ (ws.map (·.length)).sum
  | [], _, h => by cases h
  | x :: ws, w, h => by
    rw [List.map_cons, List.sum_cons]
    rcases List.mem_cons.mp h with rfl | h
    · omega
    · have := le_sum ws w h
      omega
theorem strOk_iff (x : Str) : PySem.PyData.strOk x = true ↔ ∀ c ∈ tl x, c < 0x110000 := by
  unfold PySem.PyData.strOk
  rw [Array.all_eq_true_iff_forall_mem]
  constructor
  · intro h c hc
    exact of_decide_eq_true (h c (Array.mem_toList_iff.mp hc))
  · intro h c hc
    exact decide_eq_true (h c (Array.mem_toList_iff.mpr hc))
/-- every row of a text: its words short and fine, few of them -/
theorem rows_ok {z : Str} (hz : z.length ≤ 1000000) (ho : PySem.PyData.strOk z = true) : (∀ r ∈ rowsM z, (∀ w ∈ r, w.length ≤ 1000000 ∧ PySem.PyData.strOk w = true) ∧ (r.map (·.length)).sum + r.length ≤ 2000000 ∧ r ≠ []) ∧ (rowsM z).length ≤ 1000001 ∧ rowsM z ≠ [] := by
  have q1 := split_len tl_nl nl_all z
  refine ⟨fun r hr => ?_, ?_, ?_⟩
  · obtain ⟨l, hl, rfl⟩ := List.mem_map.mp hr
    have q2 := split_len tl_sp sp_all l
    have q3 := le_sum _ l hl
    refine ⟨fun w hw => ⟨?_, ?_⟩, by omega, split_ne l⟩
    · have q4 := le_sum _ w hw
      have c1 := List.length_pos_iff.mpr (split_ne l)
      have c2 := List.length_pos_iff.mpr (split_nl_ne z)
      omega
    · rw [strOk_iff] at ho ⊢
      exact fun c hc => ho c (split_mem tl_nl nl_all hl (split_mem tl_sp sp_all hw hc))
  · unfold rowsM
    rw [List.length_map]
    omega
  · unfold rowsM
    exact fun e => split_nl_ne z (List.map_eq_nil_iff.mp e)
end LM

/-! sizes and signs of a right library's text; its makers exchanged -/
namespace LM
open PySem TL L2
/-- signs below 128 -/
def Asc (w : Str) : Prop := ∀ c ∈ tl w, c < 128
instance (w : Str) : Decidable (Asc w) := inferInstanceAs (Decidable (∀ c ∈ tl w, c < 128))
theorem Asc.ok {w : Str} (h : Asc w) : PySem.PyData.strOk w = true := (strOk_iff w).mpr fun c hc => Nat.lt_trans (h c hc) (by decide)
theorem Asc.app {x y : Str} (h : Asc x) (k : Asc y) : Asc (x ++ y) := fun c hc => by
  rw [tl_append, List.mem_append] at hc
  exact hc.elim (h c) (k c)
theorem asc_join {s : Str} (hs : Asc s) : ∀ {ws : List Str}, (∀ w ∈ ws, Asc w) → Asc (Str.join s ws)
  | [], _ => fun c hc => by cases hc
  | [x], h => h x (List.mem_singleton.mpr rfl)
  | x :: y :: r, h => by
    rw [join_cons2]
    exact ((h x (List.mem_cons_self ..)).app hs).app (asc_join hs fun w hw => h w (List.mem_cons_of_mem _ hw))
theorem asc_within {lo hi : Nat} {l : List Nat} (h : within lo hi l = true) (hh : hi < 128) : ∀ c ∈ l, c < 128 := fun c hc => by
  have := List.all_eq_true.mp h c hc
  simp only [Bool.and_eq_true, decide_eq_true_eq] at this
  omega
theorem asc_small {w : Str} (h : small w = true) : Asc w := by
  unfold small at h
  rw [Bool.and_eq_true] at h
  exact asc_within h.2 (by decide)
theorem asc_field {w : Str} (h : fieldName w = true) : Asc w := by
  unfold fieldName at h
  rw [Bool.and_eq_true] at h
  exact asc_small h.1
theorem asc_class {w : Str} (h : className w = true) : Asc w := by
  unfold className at h
  rw [Bool.and_eq_true, Bool.and_eq_true] at h
  have e : tl w = (tl w).take 1 ++ (tl w).drop 1 := (List.take_append_drop 1 _).symm
  intro c hc
  rw [e, List.mem_append] at hc
  exact hc.elim (asc_within h.1.2 (by decide) c) (asc_within h.2 (by decide) c)
theorem le8_small {w : Str} (h : small w = true) : w.length ≤ 8 := by
  unfold small at h
  rw [Bool.and_eq_true, Bool.and_eq_true] at h
  exact of_decide_eq_true h.1.2
theorem le8_field {w : Str} (h : fieldName w = true) : w.length ≤ 8 := by
  unfold fieldName at h
  rw [Bool.and_eq_true] at h
  exact le8_small h.1
theorem le8_class {w : Str} (h : className w = true) : w.length ≤ 8 := by
  unfold className at h
  rw [Bool.and_eq_true, Bool.and_eq_true, Bool.and_eq_true] at h
  exact of_decide_eq_true h.1.1.2
theorem len_cat (x y : Str) : (x ++ y).length = x.length + y.length := by rw [len_tl, len_tl, len_tl, tl_append, List.length_append]
theorem len_joined (s : Str) : ∀ (ws : List Str) (b : Nat), (∀ w ∈ ws, w.length ≤ b) → (Str.join s ws).length ≤ ws.length * (b + s.length)
  | [], _, _ => by show 0 ≤ _; omega
  | [x], b, h => by
    have := h x (List.mem_singleton.mpr rfl)
    show x.length ≤ 1 * _
    omega
  | x :: y :: r, b, h => by
    have q := len_joined s (y :: r) b fun w hw => h w (List.mem_cons_of_mem _ hw)
    have h1 := h x (List.mem_cons_self ..)
    rw [join_cons2, len_cat, len_cat]
    rw [List.length_cons, Nat.add_mul]
    omega
/-- what a maker in a text may be -/
structure MkFine (m : Str) : Prop where
  len : m.length ≤ 100
  asc : Asc m
  nl : NoNl m
theorem mk_fine : ∀ m ∈ makers0 ++ makers1 ++ makers2, m.length ≤ 100 ∧ Asc m ∧ 10 ∉ tl m := by decide +kernel
theorem maker_fine {n : Nat} {m : Str} (h : m ∈ makersOf n) : MkFine m := by
  have : m ∈ makers0 ++ makers1 ++ makers2 := by
    match n with
    | 0 => exact List.mem_append_left _ (List.mem_append_left _ h)
    | 1 => exact List.mem_append_left _ (List.mem_append_right _ h)
    | _ + 2 => exact List.mem_append_right _ h
  obtain ⟨h1, h2, h3⟩ := mk_fine m this
  exact ⟨h1, h2, h3⟩
theorem hook_fine : ∀ h ∈ rootHooks, h.length ≤ 8 ∧ Asc h := by decide +kernel
theorem sign_fine : ∀ s ∈ binary ++ unary, s.length ≤ 8 ∧ Asc s ∧ PySem.PyData.strOk s = true := by decide +kernel
theorem n_lib : ("library " : Str).length = 8 ∧ ("needs " : Str).length = 6 ∧ ("keeps " : Str).length = 6 ∧ (" of " : Str).length = 4 ∧ ("hook " : Str).length = 5 ∧ ("make " : Str).length = 5 ∧ (" by " : Str).length = 4 ∧ (" changes " : Str).length = 9 ∧ (" " : Str).length = 1 ∧ ("\n" : Str).length = 1 := by decide +kernel
theorem a_lib : Asc "library " ∧ Asc "needs " ∧ Asc "keeps " ∧ Asc " of " ∧ Asc "hook " ∧ Asc "make " ∧ Asc " by " ∧ Asc " changes " ∧ Asc " " ∧ Asc "\n" := by decide +kernel
theorem kept_fields : ∀ {kept : List (Str × Str)} {known : List Str}, KeptOk known kept → (∀ p ∈ known, fieldName p = true) → ∀ p ∈ kept, fieldName p.1 = true ∧ fieldName p.2 = true
  | [], _, _, _, p, hp => by cases hp
  | q :: r, known, ko, hk, p, hp => by
    obtain ⟨k1, k2, k3, k4⟩ := ko
    rcases List.mem_cons.mp hp with e | hp
    · subst e
      exact ⟨k1, hk _ k3⟩
    · refine kept_fields k4 (fun z hz => ?_) p hp
      rcases List.mem_append.mp hz with hz | hz
      · exact hk z hz
      · rw [List.mem_singleton.mp hz]
        exact k1
theorem LibOk.sign {L : Lib} (h : LibOk L) {o : Op} (ho : o ∈ L.ops) : o.sign.length ≤ 8 ∧ Asc o.sign := by
  rcases (h.form o ho).sg with z | z | z
  · have := sign_fine o.sign (List.mem_append_left _ (List.contains_iff_mem.mp z))
    exact ⟨this.1, this.2.1⟩
  · have := sign_fine o.sign (List.mem_append_right _ (List.contains_iff_mem.mp z))
    exact ⟨this.1, this.2.1⟩
  · have q := z.1
    unfold request at q
    rw [Bool.and_eq_true] at q
    exact ⟨le8_small q.1, asc_small q.1⟩
theorem LibOk.sub {L : Lib} (h : LibOk L) {o : Op} (ho : o ∈ L.ops) : (∀ p ∈ o.changed, p ∈ L.ps) ∧ o.changed.length ≤ 3 := by
  have e := (h.form o ho).ch
  constructor
  · intro p hp
    rw [e] at hp
    exact (List.mem_filter.mp hp).1
  · rw [e]
    exact Nat.le_trans (List.length_filter_le ..) h.root.ps3
theorem LibOk.line {L : Lib} (h : LibOk L) {o : Op} (ho : o ∈ L.ops) (hm : MkFine o.maker) : (opLine o).length ≤ 200 ∧ Asc (opLine o) := by
  obtain ⟨s1, s2⟩ := h.sign ho
  obtain ⟨c1, c2⟩ := h.sub ho
  obtain ⟨n1, n2, n3, n4, n5, n6, n7, n8, n9, n10⟩ := n_lib
  obtain ⟨a1, a2, a3, a4, a5, a6, a7, a8, a9, a10⟩ := a_lib
  have m1 := hm.len
  have q := len_joined " " o.changed 8 fun w hw => le8_field (h.root.pf w (c1 w hw))
  rw [n9] at q
  have q2 : o.changed.length * (8 + 1) ≤ 3 * (8 + 1) := Nat.mul_le_mul_right _ c2
  have aj : Asc (Str.join " " o.changed) := asc_join a9 fun w hw => asc_field (h.root.pf w (c1 w hw))
  unfold opLine
  split
  · exact ⟨by simp only [len_cat, n6, n7]; omega, ((a6.app s2).app a7).app hm.asc⟩
  · split
    · exact ⟨by simp only [len_cat, n7]; omega, (s2.app a7).app hm.asc⟩
    · exact ⟨by simp only [len_cat, n7, n8]; omega, (((s2.app a8).app aj).app a7).app hm.asc⟩
theorem LibOk.rootLine {L : Lib} (h : LibOk L) : (∀ l ∈ rootLines L.name L.ps L.kept L.hook, l.length ≤ 200 ∧ Asc l) ∧ (rootLines L.name L.ps L.kept L.hook).length ≤ 7 := by
  obtain ⟨n1, n2, n3, n4, n5, n6, n7, n8, n9, n10⟩ := n_lib
  obtain ⟨a1, a2, a3, a4, a5, a6, a7, a8, a9, a10⟩ := a_lib
  have kf := kept_fields h.root.ko h.root.pf
  constructor
  · intro l hl
    unfold rootLines at hl
    simp only [List.mem_append, List.mem_map] at hl
    rcases hl with ((hl | ⟨p, hp, rfl⟩) | ⟨p, hp, rfl⟩) | hl
    · rw [List.mem_singleton.mp hl, len_cat, n1]
      have := le8_class h.root.name
      exact ⟨by omega, a1.app (asc_class h.root.name)⟩
    · have := le8_field (h.root.pf p hp)
      rw [len_cat, n2]
      exact ⟨by omega, a2.app (asc_field (h.root.pf p hp))⟩
    · obtain ⟨f1, f2⟩ := kf p hp
      have := le8_field f1
      have := le8_field f2
      rw [len_cat, len_cat, len_cat, n3, n4]
      exact ⟨by omega, ((a3.app (asc_field f1)).app a4).app (asc_field f2)⟩
    · cases e : L.hook with
      | none => rw [e] at hl; cases hl
      | some z =>
        have := hook_fine z (h.root.hk z e)
        rw [e] at hl
        rw [List.mem_singleton.mp hl, len_cat, n5]
        exact ⟨by omega, a5.app this.2⟩
  · have := h.root.ps3
    have := h.root.kept2
    unfold rootLines
    simp only [List.length_append, List.length_map, List.length_cons, List.length_nil]
    cases L.hook <;> simp <;> omega
theorem LibOk.lines {L : Lib} (h : LibOk L) (hm : ∀ o ∈ L.ops, MkFine o.maker) : (∀ l ∈ linesM L, l.length ≤ 200 ∧ Asc l) ∧ (linesM L).length ≤ 13 := by
  obtain ⟨r1, r2⟩ := h.rootLine
  constructor
  · intro l hl
    unfold linesM at hl
    rcases List.mem_append.mp hl with hl | hl
    · exact r1 l hl
    · obtain ⟨o, ho, rfl⟩ := List.mem_map.mp hl
      exact h.line ho (hm o ho)
  · have := h.ops6
    unfold linesM
    rw [List.length_append, List.length_map]
    omega
theorem LibOk.text {L : Lib} (h : LibOk L) (hm : ∀ o ∈ L.ops, MkFine o.maker) : (textM L).length ≤ 1000000 ∧ PySem.PyData.strOk (textM L) = true := by
  obtain ⟨r1, r2⟩ := h.lines hm
  have q := len_joined "\n" (linesM L) 200 fun w hw => (r1 w hw).1
  rw [n_lib.2.2.2.2.2.2.2.2.2] at q
  have : (linesM L).length * (200 + 1) ≤ 13 * (200 + 1) := Nat.mul_le_mul_right _ r2
  refine ⟨?_, (asc_join a_lib.2.2.2.2.2.2.2.2.2 fun w hw => (r1 w hw).2).ok⟩
  show (Str.join "\n" (linesM L)).length ≤ _
  omega
/-- the makers of an operation, with or without the hook -/
def allow (n : Nat) (hk : Bool) : List Str := (makersOf n).filter fun m => hk || !(m == ("hook" : Str))
theorem allow_mk (hk : Option Str) (o : Op) : (allow (arity o.sign) hk.isSome).contains o.maker = mkOk hk o := by
  unfold allow mkOk
  have key : ∀ (l : List Str) (p : Str → Bool) (m : Str), (l.filter p).contains m = (l.contains m && p m) := fun l p m => by
    rw [Bool.eq_iff_iff, List.contains_iff_mem, List.mem_filter, Bool.and_eq_true, List.contains_iff_mem]
  rw [key]
  cases hk <;> simp
/-- operation j has another maker -/
def setMk (L : Lib) (j : Nat) (m : Str) : Lib := ⟨L.name, L.ps, L.kept, L.hook, L.ops.set j ⟨(L.ops.getD j ⟨"", [], ""⟩).sign, (L.ops.getD j ⟨"", [], ""⟩).changed, m⟩⟩
theorem set_ops {L : Lib} {j : Nat} {m : Str} {o : Op} (e : L.ops[j]? = some o) : (setMk L j m).ops = L.ops.set j ⟨o.sign, o.changed, m⟩ := by
  unfold setMk
  rw [List.getD_eq_getElem?_getD, e]
  rfl
theorem set_ok {L : Lib} (h : LibOk L) {j : Nat} {m : Str} {o : Op} (e : L.ops[j]? = some o) (hm : NoNl m) : LibOk (setMk L j m) := by
  have eo := set_ops (m := m) e
  have hj : j < L.ops.length := (List.getElem?_eq_some_iff.mp e).1
  have ho := List.mem_of_getElem? e
  have hs : (setMk L j m).ops.map (·.sign) = L.ops.map (·.sign) := by
    rw [eo, List.map_set]
    refine List.ext_getElem? fun i => ?_
    rw [List.getElem?_set]
    split
    · rename_i hi
      subst hi
      rw [List.length_map, if_pos hj, List.getElem?_map, e]
      rfl
    · rfl
  refine ⟨h.root, fun q => ?_, ?_, by rw [hs]; exact h.nd, fun z hz => ?_, fun z hz => ?_⟩
  · rw [eo] at q
    have := congrArg List.length q
    rw [List.length_set] at this
    exact h.ops0 (List.length_eq_zero_iff.mp this)
  · rw [eo, List.length_set]
    exact h.ops6
  · rw [eo] at hz
    rcases List.mem_or_eq_of_mem_set hz with hz | hz
    · exact h.form z hz
    · subst hz
      exact ⟨(h.form o ho).sg, (h.form o ho).ch, (h.form o ho).nb⟩
  · rw [eo] at hz
    rcases List.mem_or_eq_of_mem_set hz with hz | hz
    · exact h.nl z hz
    · subst hz
      exact hm
theorem set_all {L : Lib} {j : Nat} {m : Str} {o : Op} (e : L.ops[j]? = some o) (hall : L.ops.all (mkOk L.hook) = true) : (setMk L j m).ops.all (mkOk (setMk L j m).hook) = mkOk L.hook ⟨o.sign, o.changed, m⟩ := by
  have hj : j < L.ops.length := (List.getElem?_eq_some_iff.mp e).1
  show (setMk L j m).ops.all (mkOk L.hook) = _
  rw [set_ops e, Bool.eq_iff_iff, List.all_eq_true]
  constructor
  · intro k
    exact k _ (List.mem_set hj _)
  · intro k z hz
    rcases List.mem_or_eq_of_mem_set hz with hz | hz
    · exact List.all_eq_true.mp hall z hz
    · rw [hz]
      exact k
end LM

namespace K04
open PySem PySem.Spec PyProof.Rows L2 EV
def top (i : Nat) : Stmt := PySem.Challenge.pw_heirsback_k04_makers_exchanged.main.body.getD i (.Pass ⟨0, 0, 0, 0⟩)

abbrev s_own_copy : Stmt := top 1
theorem sc_own_copy : FnScope ["thing", "part"] ["thing"] (defScope s_own_copy) :=
  ⟨rfl, rfl, rfl, by decide +kernel, rfl, by decide +kernel, by decide +kernel⟩
abbrev s_BadLibrary___init__ : Stmt := inClass (top 3) 0
theorem sc_BadLibrary___init__ : FnScope ["self", "at"] ["self", "at"] (defScope s_BadLibrary___init__) :=
  ⟨rfl, rfl, rfl, by decide +kernel, rfl, by decide +kernel, by decide +kernel⟩
abbrev s_BadMaker___init__ : Stmt := inClass (top 4) 0
theorem sc_BadMaker___init__ : FnScope ["self", "maker"] ["self", "maker"] (defScope s_BadMaker___init__) :=
  ⟨rfl, rfl, rfl, by decide +kernel, rfl, by decide +kernel, by decide +kernel⟩
abbrev s_NoSign___init__ : Stmt := inClass (top 5) 0
theorem sc_NoSign___init__ : FnScope ["self", "sign"] ["self", "sign"] (defScope s_NoSign___init__) :=
  ⟨rfl, rfl, rfl, by decide +kernel, rfl, by decide +kernel, by decide +kernel⟩
abbrev s_is_within : Stmt := top 13
theorem sc_is_within : FnScope ["word", "low", "high", "letter"] ["word", "low", "high"] (defScope s_is_within) :=
  ⟨rfl, rfl, rfl, by decide +kernel, rfl, by decide +kernel, by decide +kernel⟩
abbrev s_is_small_word : Stmt := top 14
theorem sc_is_small_word : FnScope ["word"] ["word"] (defScope s_is_small_word) :=
  ⟨rfl, rfl, rfl, by decide +kernel, rfl, by decide +kernel, by decide +kernel⟩
abbrev s_is_class_name : Stmt := top 15
theorem sc_is_class_name : FnScope ["word"] ["word"] (defScope s_is_class_name) :=
  ⟨rfl, rfl, rfl, by decide +kernel, rfl, by decide +kernel, by decide +kernel⟩
abbrev s_is_field_name : Stmt := top 16
theorem sc_is_field_name : FnScope ["word"] ["word"] (defScope s_is_field_name) :=
  ⟨rfl, rfl, rfl, by decide +kernel, rfl, by decide +kernel, by decide +kernel⟩
abbrev s_is_request : Stmt := top 17
theorem sc_is_request : FnScope ["word"] ["word"] (defScope s_is_request) :=
  ⟨rfl, rfl, rfl, by decide +kernel, rfl, by decide +kernel, by decide +kernel⟩
abbrev s_arity_of : Stmt := top 18
theorem sc_arity_of : FnScope ["sign"] ["sign"] (defScope s_arity_of) :=
  ⟨rfl, rfl, rfl, by decide +kernel, rfl, by decide +kernel, by decide +kernel⟩
abbrev s_Library___init__ : Stmt := inClass (top 23) 0
theorem sc_Library___init__ : FnScope ["self", "name", "root_parameters", "kept", "root_hook", "operations", "lines", "operation", "sign", "changed", "_", "maker"] ["self", "name", "root_parameters", "kept", "root_hook", "operations"] (defScope s_Library___init__) :=
  ⟨rfl, rfl, rfl, by decide +kernel, rfl, by decide +kernel, by decide +kernel⟩
abbrev s_Library_read : Stmt := inClass (top 23) 1
theorem sc_Library_read : FnScope ["cls", "text", "rows", "parameters", "at", "kept", "root_hook", "line"] ["cls", "text"] (defScope s_Library_read) :=
  ⟨rfl, rfl, rfl, by decide +kernel, rfl, by decide +kernel, by decide +kernel⟩
abbrev s_Library_makers : Stmt := inClass (top 23) 2
theorem sc_Library_makers : FnScope ["arity", "hook", "maker"] ["arity", "hook"] (defScope s_Library_makers) :=
  ⟨rfl, rfl, rfl, by decide +kernel, rfl, by decide +kernel, by decide +kernel⟩
abbrev s_Library_signs : Stmt := inClass (top 23) 3
theorem sc_Library_signs : FnScope ["self"] ["self"] (defScope s_Library_signs) :=
  ⟨rfl, rfl, rfl, by decide +kernel, rfl, by decide +kernel, by decide +kernel⟩
abbrev s_Library_arity : Stmt := inClass (top 23) 4
theorem sc_Library_arity : FnScope ["self", "sign"] ["self", "sign"] (defScope s_Library_arity) :=
  ⟨rfl, rfl, rfl, by decide +kernel, rfl, by decide +kernel, by decide +kernel⟩
abbrev s_Library_changed : Stmt := inClass (top 23) 5
theorem sc_Library_changed : FnScope ["self", "sign"] ["self", "sign"] (defScope s_Library_changed) :=
  ⟨rfl, rfl, rfl, by decide +kernel, rfl, by decide +kernel, by decide +kernel⟩
abbrev s_Library_maker_of : Stmt := inClass (top 23) 6
theorem sc_Library_maker_of : FnScope ["self", "sign"] ["self", "sign"] (defScope s_Library_maker_of) :=
  ⟨rfl, rfl, rfl, by decide +kernel, rfl, by decide +kernel, by decide +kernel⟩
abbrev s_Library_with_maker : Stmt := inClass (top 23) 7
theorem sc_Library_with_maker : FnScope ["self", "sign", "maker", "operations", "told", "changed", "before"] ["self", "sign", "maker"] (defScope s_Library_with_maker) :=
  ⟨rfl, rfl, rfl, by decide +kernel, rfl, by decide +kernel, by decide +kernel⟩
abbrev s_Library__check : Stmt := inClass (top 23) 8
theorem sc_Library__check : FnScope ["self", "sign"] ["self", "sign"] (defScope s_Library__check) :=
  ⟨rfl, rfl, rfl, by decide +kernel, rfl, by decide +kernel, by decide +kernel⟩
abbrev s_Library___contains__ : Stmt := inClass (top 23) 9
theorem sc_Library___contains__ : FnScope ["self", "x"] ["self", "x"] (defScope s_Library___contains__) :=
  ⟨rfl, rfl, rfl, by decide +kernel, rfl, by decide +kernel, by decide +kernel⟩
abbrev s_Library___iter__ : Stmt := inClass (top 23) 10
theorem sc_Library___iter__ : FnScope ["self"] ["self"] (defScope s_Library___iter__) :=
  ⟨rfl, rfl, rfl, by decide +kernel, rfl, by decide +kernel, by decide +kernel⟩
abbrev s_Library___len__ : Stmt := inClass (top 23) 11
theorem sc_Library___len__ : FnScope ["self"] ["self"] (defScope s_Library___len__) :=
  ⟨rfl, rfl, rfl, by decide +kernel, rfl, by decide +kernel, by decide +kernel⟩
abbrev s_Library___str__ : Stmt := inClass (top 23) 12
theorem sc_Library___str__ : FnScope ["self"] ["self"] (defScope s_Library___str__) :=
  ⟨rfl, rfl, rfl, by decide +kernel, rfl, by decide +kernel, by decide +kernel⟩
abbrev s_Library___eq__ : Stmt := inClass (top 23) 13
theorem sc_Library___eq__ : FnScope ["self", "other"] ["self", "other"] (defScope s_Library___eq__) :=
  ⟨rfl, rfl, rfl, by decide +kernel, rfl, by decide +kernel, by decide +kernel⟩
abbrev s_root_lines : Stmt := top 24
theorem sc_root_lines : FnScope ["name", "parameters", "kept", "hook", "lines", "field", "source"] ["name", "parameters", "kept", "hook"] (defScope s_root_lines) :=
  ⟨rfl, rfl, rfl, by decide +kernel, rfl, by decide +kernel, by decide +kernel⟩
abbrev s_operation_line : Stmt := top 25
theorem sc_operation_line : FnScope ["sign", "changed", "maker", "words"] ["sign", "changed", "maker"] (defScope s_operation_line) :=
  ⟨rfl, rfl, rfl, by decide +kernel, rfl, by decide +kernel, by decide +kernel⟩
abbrev s_is_first_row : Stmt := top 26
theorem sc_is_first_row : FnScope ["row"] ["row"] (defScope s_is_first_row) :=
  ⟨rfl, rfl, rfl, by decide +kernel, rfl, by decide +kernel, by decide +kernel⟩
abbrev s_is_hook_row : Stmt := top 27
theorem sc_is_hook_row : FnScope ["row"] ["row"] (defScope s_is_hook_row) :=
  ⟨rfl, rfl, rfl, by decide +kernel, rfl, by decide +kernel, by decide +kernel⟩
abbrev s_parameters_of : Stmt := top 28
theorem sc_parameters_of : FnScope ["rows", "found", "row"] ["rows"] (defScope s_parameters_of) :=
  ⟨rfl, rfl, rfl, by decide +kernel, rfl, by decide +kernel, by decide +kernel⟩
abbrev s_kept_of : Stmt := top 29
theorem sc_kept_of : FnScope ["rows", "parameters", "known", "found", "row"] ["rows", "parameters"] (defScope s_kept_of) :=
  ⟨rfl, rfl, rfl, by decide +kernel, rfl, by decide +kernel, by decide +kernel⟩
abbrev s_operations_of : Stmt := top 30
theorem sc_operations_of : FnScope ["rows", "start", "parameters", "root_hook", "found", "at", "operation", "sign", "_", "maker", "known"] ["rows", "start", "parameters", "root_hook"] (defScope s_operations_of) :=
  ⟨rfl, rfl, rfl, by decide +kernel, rfl, by decide +kernel, by decide +kernel⟩
abbrev s_operation_of : Stmt := top 31
theorem sc_operation_of : FnScope ["row", "parameters", "end", "maker", "changed"] ["row", "parameters"] (defScope s_operation_of) :=
  ⟨rfl, rfl, rfl, by decide +kernel, rfl, by decide +kernel, by decide +kernel⟩
abbrev s_request_of : Stmt := top 32
theorem sc_request_of : FnScope ["row", "parameters", "maker"] ["row", "parameters"] (defScope s_request_of) :=
  ⟨rfl, rfl, rfl, by decide +kernel, rfl, by decide +kernel, by decide +kernel⟩
abbrev s_is_selection : Stmt := top 33
theorem sc_is_selection : FnScope ["words", "parameters", "chosen", "field"] ["words", "parameters"] (defScope s_is_selection) :=
  ⟨rfl, rfl, rfl, by decide +kernel, rfl, by decide +kernel, by decide +kernel⟩
abbrev s_law_bag : Stmt := top 35
theorem sc_law_bag : FnScope ["script", "at", "salt", "cell", "mixed", "k", "each"] ["script", "at", "salt"] (defScope s_law_bag) :=
  ⟨rfl, rfl, rfl, by decide +kernel, rfl, by decide +kernel, by decide +kernel⟩
abbrev s_law_take : Stmt := top 36
theorem sc_law_take : FnScope ["bag", "many", "digit"] ["bag", "many"] (defScope s_law_take) :=
  ⟨rfl, rfl, rfl, by decide +kernel, rfl, by decide +kernel, by decide +kernel⟩
abbrev s_law_of : Stmt := top 37
theorem sc_law_of : FnScope ["bag", "some"] ["bag", "some"] (defScope s_law_of) :=
  ⟨rfl, rfl, rfl, by decide +kernel, rfl, by decide +kernel, by decide +kernel⟩
abbrev s_law_words : Stmt := top 38
theorem sc_law_words : FnScope ["bag", "many", "left", "found", "stem", "turn", "is_ahead", "sign", "word"] ["bag", "many"] (defScope s_law_words) :=
  ⟨rfl, rfl, rfl, by decide +kernel, rfl, by decide +kernel, by decide +kernel⟩
abbrev s_law_titles : Stmt := top 39
theorem sc_law_titles : FnScope ["bag", "many", "left", "found", "stem", "turn", "is_ahead", "sign"] ["bag", "many"] (defScope s_law_titles) :=
  ⟨rfl, rfl, rfl, by decide +kernel, rfl, by decide +kernel, by decide +kernel⟩
abbrev s_law_makers : Stmt := top 40
theorem sc_law_makers : FnScope ["arity", "hooked", "found", "way"] ["arity", "hooked"] (defScope s_law_makers) :=
  ⟨rfl, rfl, rfl, by decide +kernel, rfl, by decide +kernel, by decide +kernel⟩
abbrev s_law_library : Stmt := top 41
theorem sc_law_library : FnScope ["bag", "fields", "name", "most", "parts", "kept", "rows", "turn", "hooked", "asks", "left", "sign", "arity", "changed", "row", "part"] ["bag", "fields", "name", "most"] (defScope s_law_library) :=
  ⟨rfl, rfl, rfl, by decide +kernel, rfl, by decide +kernel, by decide +kernel⟩
abbrev s_law_lines : Stmt := top 42
theorem sc_law_lines : FnScope ["lib", "found", "sign", "changed", "maker", "arity", "part", "row"] ["lib"] (defScope s_law_lines) :=
  ⟨rfl, rfl, rfl, by decide +kernel, rfl, by decide +kernel, by decide +kernel⟩
abbrev s_law_exchanged : Stmt := top 43
theorem sc_law_exchanged : FnScope ["made", "sign", "maker", "told"] ["made", "sign", "maker"] (defScope s_law_exchanged) :=
  ⟨rfl, rfl, rfl, by decide +kernel, rfl, by decide +kernel, by decide +kernel⟩
abbrev s_law_has : Stmt := top 44
theorem sc_law_has : FnScope ["told", "lib", "own", "changed", "means", "arity"] ["told", "lib"] (defScope s_law_has) :=
  ⟨rfl, rfl, rfl, by decide +kernel, rfl, by decide +kernel, by decide +kernel⟩
abbrev s_law : Stmt := top 45
theorem sc_law : FnScope ["script", "at", "bag", "lib", "made", "turn", "signs", "before", "sign", "odd", "maker", "told", "row", "text"] ["script"] (defScope s_law) :=
  ⟨rfl, rfl, rfl, by decide +kernel, rfl, by decide +kernel, by decide +kernel⟩
structure Txt (K : Fg) (mg : Str → Option Value) : Prop where
  n_isinstance : mg "isinstance" = none
  n_list : mg "list" = none
  n_tuple : mg "tuple" = none
  n_int : mg "int" = none
  n_str : mg "str" = none
  n_bool : mg "bool" = none
  n_len : mg "len" = none
  n_abs : mg "abs" = none
  n_max : mg "max" = none
  n_min : mg "min" = none
  n_range : mg "range" = none
  n_enumerate : mg "enumerate" = none
  n_all : mg "all" = none
  n_ValueError : mg "ValueError" = none
  n_LookupError : mg "LookupError" = none
  n_KeyError : mg "KeyError" = none
  n_IndexError : mg "IndexError" = none
end K04

namespace K04
open PySem PySem.Spec PyProof.Rows L2 EV TL LM
/-- a tuple of the written part -/
def TupK (K : Fg) (a : Addr) (xs : List V) : Prop := ∃ (o : Obj) (its : Array Value) (n : Nat), K.lookup a = some o ∧ o.cls = .type "tuple" ∧ o.data = .seq its n ∧ its.size ≤ sizeLine ∧ Vals xs its.toList
theorem TupK.sq {K : Fg} {a : Addr} {xs : List V} {H : Hp} (h : TupK K a xs) : SqT K H a xs := .inr h
/-- the constants of the modules -/
structure Cst (K : Fg) (mg : Str → Option Value) : Prop extends Txt K mg where
  g_LONGEST_NAME : ∃ u, mg "LONGEST_NAME" = some u ∧ RelV (.int 8) u
  g_MOST_PARAMETERS : ∃ u, mg "MOST_PARAMETERS" = some u ∧ RelV (.int 3) u
  g_MOST_KEPT : ∃ u, mg "MOST_KEPT" = some u ∧ RelV (.int 2) u
  g_MOST_OPERATIONS : ∃ u, mg "MOST_OPERATIONS" = some u ∧ RelV (.int 6) u
  g_NO_FIELDS : ∃ a, mg "NO_FIELDS" = some (.ref a) ∧ TupK K a (noFields.map V.str)
  g_BINARY_SIGNS : ∃ a, mg "BINARY_SIGNS" = some (.ref a) ∧ TupK K a (binary.map V.str)
  g_UNARY_SIGNS : ∃ a, mg "UNARY_SIGNS" = some (.ref a) ∧ TupK K a (unary.map V.str)
  g_ROOT_HOOKS : ∃ a, mg "ROOT_HOOKS" = some (.ref a) ∧ TupK K a (rootHooks.map V.str)
  g_MAKERS : ∃ a a0 a1 a2, mg "MAKERS" = some (.ref a) ∧ TupK K a [.ref a0, .ref a1, .ref a2] ∧ TupK K a0 (makers0.map V.str) ∧ TupK K a1 (makers1.map V.str) ∧ TupK K a2 (makers2.map V.str)
theorem inV_strs (w : Str) (l : List Str) : inV (.str w) (l.map V.str) = l.contains w := by
  unfold inV
  induction l with
  | nil => rfl
  | cons x l ih =>
    rw [List.map_cons, List.any_cons, ih, List.contains_cons]
    congr 1
    show (x == w) = (w == x)
    exact Bool.beq_comm
theorem flat_strs (l : List Str) : (l.map V.str).all flatV = true := by
  induction l with
  | nil => rfl
  | cons x l ih => rw [List.map_cons, List.all_cons, ih]; rfl
theorem lt_one (a b : Nat) : decide ([a] < [b]) = decide (a < b) := by
  by_cases h : a < b
  · rw [decide_eq_true h, decide_eq_true (List.cons_lt_cons_iff.mpr (.inl h))]
  · rw [decide_eq_false h, decide_eq_false]
    intro z
    rcases List.cons_lt_cons_iff.mp z with z | ⟨_, z⟩
    · exact h z
    · exact absurd z (by simp)
theorem le_one (a b : Nat) : (!decide ([b] < [a])) = decide (a ≤ b) := by
  rw [lt_one]
  by_cases h : a ≤ b
  · rw [decide_eq_true h, decide_eq_false (by omega)]
    rfl
  · rw [decide_eq_false h, decide_eq_true (by omega)]
    rfl
section
variable {P : Program} {w : World} {K : Fg} {mg : Str → Option Value} {base : Heap}
def spWithin : Sp := fun vs H Q _ => ∃ (z : Str) (lo hi : Nat), vs = [.str z, .str ⟨#[lo]⟩, .str ⟨#[hi]⟩] ∧ z.length ≤ 1000000 ∧ ∀ H', Same H H' → Q (.bl (within lo hi (tl z))) H'
theorem ok_is_within {f : Addr} {fd : FuncData} (F : Fun K "_is_within" "_is_within" s_is_within f fd) (T : Cst K mg) : FnOk P w K mg base CX0 1 f fd ["word", "low", "high"] spWithin := by
  refine F.ok sc_is_within (fun vs H Q E h => ?_) (fun cdv A outer s H vs Q E hr h => ?_)
  · obtain ⟨z, lo, hi, rfl, _⟩ := h
    rfl
  · obtain ⟨z, lo, hi, rfl, hz, k⟩ := h
    refine ⟨_, (pss_one (ps_ret (pe_callB (cr_all rfl) (by rfl) T.n_all (by decide +kernel) (pa_cons (pe_lc (own := [("letter", 3)]) rfl sc_is_within.nd (pi_str (pv 0)) (blkOk_by (own := [("letter", 3)]) (N := ["word", "low", "high", "letter"]) (sc := defScope s_is_within) (by decide +kernel)) (fun _ _ _ _ _ => (pg_name (i := 3) sc_is_within.nd rfl (Or.inl rfl))) (fun _ _ _ _ _ => pts_nil) (fun _ _ _ _ _ => (pe_chain op_le_str op_le_str (pv 1) (pv 3) (pv 2)))) pa_nil)))), ?_⟩
    refine ⟨_, rfl, z, rfl, fun D nD => ?_⟩
    refine lc_fm walk_str (fun i => (tl z)[i]?.map fun c => V.bl (decide (lo ≤ c) && decide (c ≤ hi))) nD hz (fun _ _ => trivial) ?_ ?_
    · rintro i x H1 H2 NT NE hi' s1 ⟨rfl, c, hc, rfl⟩ h0 h1
      have ec : (tl z)[i]? = some c := by rw [← hc]; exact (Array.getElem?_toList).symm ▸ rfl
      refine ⟨rfl, _, rfl, _, rfl, _, _, rfl, rfl, _, rfl, ite2 (fun hd => ?_) (fun hd => ?_)⟩
      · refine ⟨_, rfl, _, _, rfl, rfl, h1 _ _ ?_ (Same.refl _)⟩
        show (tl z)[i]?.map _ = _
        rw [ec]
        have hd' : decide (lo ≤ c) = true := by rw [← le_one]; exact hd
        show some (V.bl (decide (lo ≤ c) && decide (c ≤ hi))) = some (V.bl (!decide ([hi] < [c])))
        rw [hd', Bool.true_and, le_one]
      · refine h1 _ _ ?_ (Same.refl _)
        show (tl z)[i]?.map _ = _
        rw [ec]
        have hd' : decide (lo ≤ c) = false := by rw [← le_one]; exact Bool.eq_false_iff.mpr hd
        show some (V.bl (decide (lo ≤ c) && decide (c ≤ hi))) = some (V.bl false)
        rw [hd', Bool.false_and]
    · intro H1 s1 hD
      refine ⟨_, (tl z).map fun c => decide (lo ≤ c) && decide (c ≤ hi), rfl, SqL.of ?_, ?_⟩
      · rw [hD, gath_map (tl z) _ (by exact len_tl z), List.map_map]
        rfl
      · have q := k H1 s1
        unfold within at q
        rw [List.all_map]
        exact q
theorem s_a : ("a" : Str) = ⟨#[97]⟩ := by decide +kernel
theorem s_z : ("z" : Str) = ⟨#[122]⟩ := by decide +kernel
theorem s_A : ("A" : Str) = ⟨#[65]⟩ := by decide +kernel
theorem s_Z : ("Z" : Str) = ⟨#[90]⟩ := by decide +kernel
theorem s_0 : ("0" : Str) = ⟨#[48]⟩ := by decide +kernel
theorem s_9 : ("9" : Str) = ⟨#[57]⟩ := by decide +kernel
theorem dec_int_le {a b : Nat} : decide ((a : Int) ≤ (b : Int)) = decide (a ≤ b) := by
  by_cases h : a ≤ b
  · rw [decide_eq_true h, decide_eq_true (by omega)]
  · rw [decide_eq_false h, decide_eq_false (by omega)]
def spW1 (g : Str → Bool) : Sp := fun vs H Q _ => ∃ z : Str, vs = [.str z] ∧ z.length ≤ 1000000 ∧ ∀ H', Same H H' → Q (.bl (g z)) H'
theorem ok_is_small_word {f : Addr} {fd : FuncData} (F : Fun K "is_small_word" "is_small_word" s_is_small_word f fd) (T : Cst K mg) (O_is_within : Ok P w K mg base 1 "_is_within" ["word", "low", "high"] spWithin) :
    FnOk P w K mg base CX0 2 f fd ["word"] (spW1 small) := by
  refine F.ok sc_is_small_word (fun vs H Q E h => ?_) (fun cdv A outer s H vs Q E hr h => ?_)
  · obtain ⟨z, rfl, _⟩ := h
    rfl
  · obtain ⟨z, rfl, hz, k⟩ := h
    refine ⟨_, (pss_one (ps_ret (pe_and (pe_chain op_le op_le pe_int (pe_callB call_len_str (by rfl) T.n_len (by decide +kernel) (pa_cons (pv 0) pa_nil)) (pe_gv T.g_LONGEST_NAME)) (pe_one (pe_callO O_is_within (hr.mono (by decide)) (pa_cons (pv 0) (pa_cons pe_str (pa_cons pe_str pa_nil)))))))), ?_⟩
    have hz2 : z.length ≤ sizeLine := Nat.le_trans hz (by decide)
    refine ⟨_, rfl, z, rfl, hz2, _, _, rfl, rfl, _, rfl, ite2 (fun h1 => ?_) (fun h1 => ?_)⟩
    · have h1' : 1 ≤ z.length := by
        have := of_decide_eq_true h1
        omega
      refine ⟨_, _, rfl, rfl, _, rfl, ite2 (fun h2 => ?_) (fun h2 => ?_)⟩
      · have h2' : z.length ≤ 8 := by
          have := of_decide_eq_true h2
          omega
        refine ⟨_, rfl, z, 97, 122, by rw [s_a, s_z]; rfl, hz, fun H' s1 => ?_⟩
        have q := k H' s1
        unfold small at q
        rw [decide_eq_true h1', decide_eq_true h2'] at q
        exact q
      · have h2' : ¬ z.length ≤ 8 := fun z => h2 (decide_eq_true (by omega))
        have q := k H (Same.refl _)
        unfold small at q
        rw [decide_eq_false h2', Bool.and_false, Bool.false_and] at q
        exact q
    · have h1' : ¬ 1 ≤ z.length := fun z => h1 (decide_eq_true (by omega))
      have q := k H (Same.refl _)
      unfold small at q
      rw [decide_eq_false h1', Bool.false_and, Bool.false_and] at q
      exact ⟨_, rfl, iteF q⟩
theorem tl_cut1 (z : Str) : tl (cutS z (some 1) none) = (tl z).drop 1 := by
  show ((tl z).drop (HT.sIx z.length 0 (some 1))).take (HT.sIx z.length z.length none - HT.sIx z.length 0 (some 1)) = _
  have hz := len_tl z
  have e2 : HT.sIx z.length z.length none = z.length := rfl
  have e1 : HT.sIx z.length 0 (some 1) = min 1 z.length := by
    unfold HT.sIx
    simp
    try omega
  rw [e1, e2]
  rcases Nat.lt_or_ge z.length 1 with h | h
  · have : tl z = [] := List.length_eq_zero_iff.mp (by omega)
    rw [this]
    simp
  · rw [Nat.min_eq_left h, List.take_of_length_le (by rw [List.length_drop]; omega)]
theorem ok_is_class_name {f : Addr} {fd : FuncData} (F : Fun K "is_class_name" "is_class_name" s_is_class_name f fd) (T : Cst K mg) (O_is_within : Ok P w K mg base 1 "_is_within" ["word", "low", "high"] spWithin) :
    FnOk P w K mg base CX0 2 f fd ["word"] (spW1 className) := by
  refine F.ok sc_is_class_name (fun vs H Q E h => ?_) (fun cdv A outer s H vs Q E hr h => ?_)
  · obtain ⟨z, rfl, _⟩ := h
    rfl
  · obtain ⟨z, rfl, hz, k⟩ := h
    refine ⟨_, (pss_one (ps_ret (pe_and (pe_chain op_le op_le pe_int (pe_callB call_len_str (by rfl) T.n_len (by decide +kernel) (pa_cons (pv 0) pa_nil)) (pe_gv T.g_LONGEST_NAME)) (pe_and (pe_chain op_le_str op_le_str pe_str (pe_ix ix_str (pv 0) pe_int (fun _ _ => rfl)) pe_str) (pe_one (pe_callO O_is_within (hr.mono (by decide)) (pa_cons (pe_slice sl_str (pv 0) (po_some pe_int) po_none) (pa_cons pe_str (pa_cons pe_str pa_nil))))))))), ?_⟩
    have hz2 : z.length ≤ sizeLine := Nat.le_trans hz (by decide)
    have hl := len_tl z
    refine ⟨_, rfl, z, rfl, hz2, _, _, rfl, rfl, _, rfl, ite2 (fun h1 => ?_) (fun h1 => ?_)⟩
    · have h1' : 1 ≤ z.length := by
        have := of_decide_eq_true h1
        omega
      refine ⟨_, _, rfl, rfl, _, rfl, ite2 (fun h2 => ?_) (fun h2 => ?_)⟩
      · have h2' : z.length ≤ 8 := by
          have := of_decide_eq_true h2
          omega
        obtain ⟨c, r, ez⟩ : ∃ c r, tl z = c :: r := by
          cases e : tl z with
          | nil => rw [e] at hl; simp at hl; omega
          | cons c r => exact ⟨c, r, rfl⟩
        have e0 : atI z.cps.toList 0 = some c := by
          show atI (tl z) 0 = _
          rw [ez]
          exact atI_nat (j := 0) rfl
        have ek : className z = (decide (65 ≤ c) && decide (c ≤ 90) && within 97 122 r) := by
          unfold className
          rw [decide_eq_true h1', decide_eq_true h2', ez]
          simp [within]
        rw [ek] at k
        refine ⟨_, rfl, z, 0, c, rfl, rfl, hz2, e0, _, _, rfl, rfl, _, rfl, ite2 (fun h3 => ?_) (fun h3 => ?_)⟩
        · rw [s_A] at h3
          have h3' : decide (65 ≤ c) = true := by rw [← le_one]; exact h3
          refine ⟨_, _, rfl, rfl, _, rfl, ite2 (fun h4 => ?_) (fun h4 => ?_)⟩
          · rw [s_Z] at h4
            have h4' : decide (c ≤ 90) = true := by rw [← le_one]; exact h4
            refine ⟨_, rfl, 1, rfl, z, rfl, hz2, cutS z (some 1) none, 97, 122, by rw [s_a, s_z]; rfl, ?_, fun H' s1 => ?_⟩
            · have e := tl_cut1 z
              have l2 := len_tl (cutS z (some 1) none)
              rw [e, List.length_drop] at l2
              omega
            · have q := k H' s1
              rw [h3', h4'] at q
              rw [tl_cut1, ez]
              exact q
          · rw [s_Z] at h4
            have h4' : decide (c ≤ 90) = false := by rw [← le_one]; exact Bool.eq_false_iff.mpr h4
            have q := k H (Same.refl _)
            rw [h4', Bool.and_false, Bool.false_and] at q
            exact q
        · rw [s_A] at h3
          have h3' : decide (65 ≤ c) = false := by rw [← le_one]; exact Bool.eq_false_iff.mpr h3
          have q := k H (Same.refl _)
          rw [h3', Bool.false_and, Bool.false_and] at q
          exact ⟨_, rfl, iteF q⟩
      · have h2' : ¬ z.length ≤ 8 := fun z => h2 (decide_eq_true (by omega))
        have q := k H (Same.refl _)
        unfold className at q
        rw [decide_eq_false h2', Bool.and_false, Bool.false_and, Bool.false_and] at q
        exact q
    · have h1' : ¬ 1 ≤ z.length := fun z => h1 (decide_eq_true (by omega))
      have q := k H (Same.refl _)
      unfold className at q
      rw [decide_eq_false h1', Bool.false_and, Bool.false_and, Bool.false_and] at q
      exact ⟨_, rfl, iteF q⟩
theorem ok_is_field_name {f : Addr} {fd : FuncData} (F : Fun K "is_field_name" "is_field_name" s_is_field_name f fd) (T : Cst K mg) (O_is_small_word : Ok P w K mg base 2 "is_small_word" ["word"] (spW1 small)) :
    FnOk P w K mg base CX0 3 f fd ["word"] (spW1 fieldName) := by
  obtain ⟨aN, m_NO_FIELDS, tN⟩ := T.g_NO_FIELDS
  refine F.ok sc_is_field_name (fun vs H Q E h => ?_) (fun cdv A outer s H vs Q E hr h => ?_)
  · obtain ⟨z, rfl, _⟩ := h
    rfl
  · obtain ⟨z, rfl, hz, k⟩ := h
    refine ⟨_, (pss_one (ps_ret (pe_and (pe_callO O_is_small_word (hr.mono (by decide)) (pa_cons (pv 0) pa_nil)) (pe_one (pe_cmpR op_notIn_seq (pv 0) (pe_glob (v := .ref _) rfl m_NO_FIELDS rfl) (by rfl)))))), ?_⟩
    refine ⟨_, rfl, z, rfl, hz, fun H' s1 => ⟨_, rfl, ?_⟩⟩
    have q := k H' s1
    unfold fieldName at q
    cases e : small z with
    | false =>
      rw [e, Bool.false_and] at q
      exact iteF q
    | true =>
      rw [e, Bool.true_and] at q
      refine iteT ⟨_, rfl, aN, _, rfl, .inr tN.sq, rfl, flat_strs _, ?_⟩
      rw [inV_strs]
      exact q
theorem ok_is_request {f : Addr} {fd : FuncData} (F : Fun K "is_request" "is_request" s_is_request f fd) (T : Cst K mg) (O_is_small_word : Ok P w K mg base 2 "is_small_word" ["word"] (spW1 small)) :
    FnOk P w K mg base CX0 3 f fd ["word"] (spW1 request) := by
  obtain ⟨aN, m_UNARY_SIGNS, tN⟩ := T.g_UNARY_SIGNS
  refine F.ok sc_is_request (fun vs H Q E h => ?_) (fun cdv A outer s H vs Q E hr h => ?_)
  · obtain ⟨z, rfl, _⟩ := h
    rfl
  · obtain ⟨z, rfl, hz, k⟩ := h
    refine ⟨_, (pss_one (ps_ret (pe_and (pe_callO O_is_small_word (hr.mono (by decide)) (pa_cons (pv 0) pa_nil)) (pe_one (pe_cmpR op_notIn_seq (pv 0) (pe_glob (v := .ref _) rfl m_UNARY_SIGNS rfl) (by rfl)))))), ?_⟩
    refine ⟨_, rfl, z, rfl, hz, fun H' s1 => ⟨_, rfl, ?_⟩⟩
    have q := k H' s1
    unfold request at q
    cases e : small z with
    | false =>
      rw [e, Bool.false_and] at q
      exact iteF q
    | true =>
      rw [e, Bool.true_and] at q
      refine iteT ⟨_, rfl, aN, _, rfl, .inr tN.sq, rfl, flat_strs _, ?_⟩
      rw [inV_strs]
      exact q
def spArity : Sp := fun vs H Q _ => ∃ z : Str, vs = [.str z] ∧ Q (.int (arity z : Nat)) H
theorem ok_arity_of {f : Addr} {fd : FuncData} (F : Fun K "arity_of" "arity_of" s_arity_of f fd) (T : Cst K mg) : FnOk P w K mg base CX0 1 f fd ["sign"] spArity := by
  obtain ⟨aB, m_BINARY_SIGNS, tB⟩ := T.g_BINARY_SIGNS
  obtain ⟨aU, m_UNARY_SIGNS, tU⟩ := T.g_UNARY_SIGNS
  refine F.ok sc_arity_of (fun vs H Q E h => ?_) (fun cdv A outer s H vs Q E hr h => ?_)
  · obtain ⟨z, rfl, _⟩ := h
    rfl
  · obtain ⟨z, rfl, q⟩ := h
    refine ⟨_, (pss_cons (ps_if (pt_cmpR op_in_seq (pv 0) (pe_glob (v := .ref _) rfl m_BINARY_SIGNS rfl) (by rfl)) (pss_one (ps_ret pe_int)) pss_nil)
    (pss_cons (ps_if (pt_cmpR op_in_seq (pv 0) (pe_glob (v := .ref _) rfl m_UNARY_SIGNS rfl) (by rfl)) (pss_one (ps_ret pe_int)) pss_nil)
    (pss_one (ps_ret pe_int)))), ?_⟩
    refine ⟨_, rfl, aB, _, rfl, .inr tB.sq, rfl, flat_strs _, _, rfl, ?_⟩
    rw [inV_strs]
    unfold arity at q
    cases e : binary.contains z with
    | true =>
      rw [e] at q
      exact iteT q
    | false =>
      rw [e] at q
      refine iteF ⟨_, rfl, aU, _, rfl, .inr tU.sq, rfl, flat_strs _, _, rfl, ?_⟩
      rw [inV_strs]
      cases e2 : unary.contains z with
      | true =>
        rw [e2] at q
        exact iteT q
      | false =>
        rw [e2] at q
        exact iteF q
end
end K04

namespace K04
open PySem PySem.Spec PyProof.Rows L2 EV TL LM
/-! ### rows in the heap -/
def RowB (r : Rw) : Prop := ∀ w ∈ r, w.length ≤ 1000000 ∧ PySem.PyData.strOk w = true
def StrsAt (H : Hp) (a : Addr) (r : List Str) : Prop := H a = some (.lst (r.map V.str))
structure RowsAt (H : Hp) (vs : List V) (rs : List Rw) : Prop where
  len : vs.length = rs.length
  row : ∀ (i : Nat) (r : Rw), rs[i]? = some r → ∃ a, vs[i]? = some (.ref a) ∧ StrsAt H a r
theorem RowsAt.same {H H' : Hp} {vs : List V} {rs : List Rw} (h : RowsAt H vs rs) (s : Same H H') : RowsAt H' vs rs :=
  ⟨h.len, fun i r e => let ⟨a, z1, z2⟩ := h.row i r e; ⟨a, z1, s _ _ z2⟩⟩
theorem RowsAt.drop {H : Hp} {vs : List V} {rs : List Rw} (h : RowsAt H vs rs) (k : Nat) : RowsAt H (vs.drop k) (rs.drop k) :=
  ⟨by rw [List.length_drop, List.length_drop, h.len], fun i r e => by
    rw [List.getElem?_drop] at e ⊢
    exact h.row _ r e⟩
theorem RowsAt.take {H : Hp} {vs : List V} {rs : List Rw} (h : RowsAt H vs rs) (k : Nat) : RowsAt H (vs.take k) (rs.take k) :=
  ⟨by rw [List.length_take, List.length_take, h.len], fun i r e => by
    by_cases hi : i < k
    · rw [List.getElem?_take_of_lt hi] at e ⊢
      exact h.row _ r e
    · rw [List.getElem?_take, if_neg hi] at e
      cases e⟩
theorem at_str {r : Rw} {i : Nat} {w : Str} (h : r[i]? = some w) : atI (r.map V.str) (i : Int) = some (V.str w) := atI_nat (by rw [List.getElem?_map, h]; rfl)
theorem eq_str {x y : Str} : decide (V.str x = V.str y) = (x == y) := by
  by_cases h : x = y
  · subst h
    simp
  · rw [decide_eq_false (fun z => h (by injection z))]
    exact (beq_eq_false_iff_ne.mpr h).symm
theorem len_is {n k : Nat} : decide (V.int (n : Nat) = V.int (k : Nat)) = decide (n = k) := by
  by_cases h : n = k
  · subst h
    simp
  · rw [decide_eq_false h, decide_eq_false]
    intro z
    injection z with z
    exact h (by omega)
section
variable {P : Program} {w : World} {K : Fg} {mg : Str → Option Value} {base : Heap}
def spRowB (g : Rw → Bool) : Sp := fun vs H Q _ => ∃ (a : Addr) (r : Rw), vs = [.ref a] ∧ StrsAt H a r ∧ RowB r ∧ ∀ H', Same H H' → Q (.bl (g r)) H'
theorem ok_is_first_row {f : Addr} {fd : FuncData} (F : Fun K "_is_first_row" "_is_first_row" s_is_first_row f fd) (T : Cst K mg) (O_is_class_name : Ok P w K mg base 2 "is_class_name" ["word"] (spW1 className)) :
    FnOk P w K mg base CX0 3 f fd ["row"] (spRowB firstRow) := by
  refine F.ok sc_is_first_row (fun vs H Q E h => ?_) (fun cdv A outer s H vs Q E hr h => ?_)
  · obtain ⟨a, r, rfl, _⟩ := h
    rfl
  · obtain ⟨a, r, rfl, ha, hb, k⟩ := h
    refine ⟨_, (pss_one (ps_ret (pe_and (pe_cmpR op_eq (pe_callB call_len_seq (by rfl) T.n_len (by decide +kernel) (pa_cons (pv 0) pa_nil)) pe_int (nomark _)) (pe_and (pe_cmpR op_eq (pe_ix ix_list (pv 0) pe_int (fun _ _ => rfl)) pe_str (nomark _)) (pe_one (pe_callO O_is_class_name (hr.mono (by decide)) (pa_cons (pe_ix ix_list (pv 0) pe_int (fun _ _ => rfl)) pa_nil))))))), ?_⟩
    refine ⟨_, rfl, a, _, rfl, .inl (SqL.of ha), rfl, _, rfl, ?_⟩
    rw [List.length_map, show (V.int 2 : V) = V.int ((2 : Nat) : Int) from rfl, len_is]
    refine ite2 (fun h2 => ?_) (fun h2 => ?_)
    · have h2' : r.length = 2 := of_decide_eq_true h2
      obtain ⟨x, y, rfl⟩ : ∃ x y, r = [x, y] := by
        match r, h2' with
        | [x, y], _ => exact ⟨x, y, rfl⟩
      refine ⟨_, rfl, a, _, ((0 : Nat) : Int), _, rfl, rfl, SqL.of ha, at_str (i := 0) rfl, rfl, _, rfl, ?_⟩
      rw [eq_str]
      have q : ∀ H', Same H H' → Q (.bl (x == ("library" : Str) && className y)) H' := k
      cases e : (x == ("library" : Str)) with
      | false =>
        rw [e] at q
        exact iteF (q H (Same.refl _))
      | true =>
        rw [e, Bool.true_and] at q
        exact iteT ⟨_, rfl, a, _, ((1 : Nat) : Int), _, rfl, rfl, SqL.of ha, at_str (i := 1) rfl, y, rfl, (hb y (by simp)).1, q⟩
    · have h2' : r.length ≠ 2 := fun z => h2 (decide_eq_true z)
      have e : firstRow r = false := by
        unfold firstRow
        split
        · exact absurd rfl h2'
        · rfl
      rw [e] at k
      exact k H (Same.refl _)
theorem ok_is_hook_row {f : Addr} {fd : FuncData} (F : Fun K "_is_hook_row" "_is_hook_row" s_is_hook_row f fd) (T : Cst K mg) :
    FnOk P w K mg base CX0 1 f fd ["row"] (spRowB hookRow) := by
  obtain ⟨aN, m_ROOT_HOOKS, tN⟩ := T.g_ROOT_HOOKS
  refine F.ok sc_is_hook_row (fun vs H Q E h => ?_) (fun cdv A outer s H vs Q E hr h => ?_)
  · obtain ⟨a, r, rfl, _⟩ := h
    rfl
  · obtain ⟨a, r, rfl, ha, hb, k⟩ := h
    refine ⟨_, (pss_one (ps_ret (pe_and (pe_cmpR op_eq (pe_callB call_len_seq (by rfl) T.n_len (by decide +kernel) (pa_cons (pv 0) pa_nil)) pe_int (nomark _)) (pe_and (pe_cmpR op_eq (pe_ix ix_list (pv 0) pe_int (fun _ _ => rfl)) pe_str (nomark _)) (pe_one (pe_cmpR op_in_seq (pe_ix ix_list (pv 0) pe_int (fun _ _ => rfl)) (pe_glob (v := .ref _) rfl m_ROOT_HOOKS rfl) (by rfl))))))), ?_⟩
    refine ⟨_, rfl, a, _, rfl, .inl (SqL.of ha), rfl, _, rfl, ?_⟩
    rw [List.length_map, show (V.int 2 : V) = V.int ((2 : Nat) : Int) from rfl, len_is]
    refine ite2 (fun h2 => ?_) (fun h2 => ?_)
    · have h2' : r.length = 2 := of_decide_eq_true h2
      obtain ⟨x, y, rfl⟩ : ∃ x y, r = [x, y] := by
        match r, h2' with
        | [x, y], _ => exact ⟨x, y, rfl⟩
      refine ⟨_, rfl, a, _, ((0 : Nat) : Int), _, rfl, rfl, SqL.of ha, at_str (i := 0) rfl, rfl, _, rfl, ?_⟩
      rw [eq_str]
      have q : ∀ H', Same H H' → Q (.bl (x == ("hook" : Str) && rootHooks.contains y)) H' := k
      cases e : (x == ("hook" : Str)) with
      | false =>
        rw [e] at q
        exact iteF (q H (Same.refl _))
      | true =>
        rw [e, Bool.true_and] at q
        refine iteT ⟨_, rfl, a, _, ((1 : Nat) : Int), _, rfl, rfl, SqL.of ha, at_str (i := 1) rfl, aN, _, rfl, .inr tN.sq, rfl, flat_strs _, ?_⟩
        rw [inV_strs]
        exact q H (Same.refl _)
    · have h2' : r.length ≠ 2 := fun z => h2 (decide_eq_true z)
      have e : hookRow r = false := by
        unfold hookRow
        split
        · exact absurd rfl h2'
        · rfl
      rw [e] at k
      exact k H (Same.refl _)
def spParams : Sp := fun vs H Q _ => ∃ (l : Addr) (us : List V) (rs : List Rw), vs = [.ref l] ∧ H l = some (.lst us) ∧ RowsAt H us rs ∧ (∀ r ∈ rs, RowB r) ∧ rs.length ≤ 1000 ∧
  ∀ (p : Addr) (H' : Hp), Same H H' → H p = none → StrsAt H' p (paramsM rs []) → Q (.ref p) H'
theorem ok_parameters_of {f : Addr} {fd : FuncData} (F : Fun K "_parameters_of" "_parameters_of" s_parameters_of f fd) (T : Cst K mg) (O_is_field_name : Ok P w K mg base 3 "is_field_name" ["word"] (spW1 fieldName)) :
    FnOk P w K mg base CX0 4 f fd ["rows"] spParams := by
  refine F.ok sc_parameters_of (fun vs H Q E h => ?_) (fun cdv A outer s H vs Q E hr h => ?_)
  · obtain ⟨l, us, rs, rfl, _⟩ := h
    rfl
  · obtain ⟨l, us, rs, rfl, hl, hR, hB, h1000, k⟩ := h
    refine ⟨_, (pss_cons (ps_set (i := 1) sc_parameters_of.nd rfl (Or.inl rfl) (pe_lst pa_nil))
    (pss_cons (ps_for PassesOwn.never rfl (pi_list (pv 0)) (pg_name (i := 2) sc_parameters_of.nd rfl (Or.inl rfl)) (pss_cons (ps_if (PW.pt (pw_or (pt_cmpR op_ne (pe_callB call_len_seq (by rfl) T.n_len (by decide +kernel) (pa_cons (pv 2) pa_nil)) pe_int (nomark _)) (pw_or (pt_cmpR op_ne (pe_ix ix_list (pv 2) pe_int (fun _ _ => rfl)) pe_str (nomark _)) (pw_or (pt_not (pt_val (pe_callO O_is_field_name (hr.mono (by decide)) (pa_cons (pe_ix ix_list (pv 2) pe_int (fun _ _ => rfl)) pa_nil)))) (pw_or1 (pt_cmpR op_in_seq (pe_ix ix_list (pv 2) pe_int (fun _ _ => rfl)) (pv 1) (by rfl))))))) (pss_one ps_break) pss_nil)
    (pss_one (ps_expr (pe_bm PySem.F.plainAttrs_list PySem.F.slot_list_append PySem.F.type_list_append mt_append (pv 1) (pa_cons (pe_ix ix_list (pv 2) pe_int (fun _ _ => rfl)) pa_nil))))))
    (pss_one (ps_ret (pv 1))))), ?_⟩
    refine ⟨by show 0 ≤ sizeLine; decide, fun p np => ?_⟩
    refine ⟨_, rfl, l, rfl, ⟨us, SqL.of (same_upd np _ _ hl)⟩, ?_⟩
    refine for_list (xs := us) (fun i σ G => ∃ (found : List Str) (u : Option V), σ = [some (.ref l), some (.ref p), u] ∧ Same H G ∧ StrsAt G p found ∧ found.length ≤ i ∧ paramsM rs [] = paramsM (rs.drop i) found)
      ⟨[], none, rfl, same_upd np, upd_same, Nat.le_refl _, rfl⟩ (fun i σ G _ q => by
        obtain ⟨_, _, _, s1, _⟩ := q
        exact SqL.of (s1 _ _ hl)) ?_ ?_
    · rintro i x σ G hx ⟨found, u, rfl, s1, hp, hf, hm⟩
      have hi : i < rs.length := by
        rw [← hR.len]
        exact (List.getElem?_eq_some_iff.mp hx).1
      have er : rs[i]? = some rs[i] := List.getElem?_eq_getElem hi
      obtain ⟨a, ha, hs⟩ := hR.row i _ er
      rw [hx] at ha
      cases ha
      have hs1 := s1 _ _ hs
      have hB1 : RowB rs[i] := hB _ (List.getElem_mem hi)
      have hd : rs.drop i = rs[i] :: rs.drop (i + 1) := List.drop_eq_getElem_cons hi
      rw [hd] at hm
      generalize hrow : rs[i] = r at hs hs1 hB1 hm
      have hbrk : needsRow r found = none → paramsM rs [] = found := fun e => by
        rw [hm]
        unfold paramsM
        rw [e]
      have brk : needsRow r found = none → ∀ G', Same G G' → Q (.ref p) G' := fun e G' s' => k p G' (s1.trans s') np (by rw [hbrk e]; exact s' _ _ hp)
      refine ⟨_, rfl, a, _, rfl, .inl (SqL.of hs1), rfl, _, rfl, ?_⟩
      rw [List.length_map, show (V.int 2 : V) = V.int ((2 : Nat) : Int) from rfl, len_is]
      refine ite2 (fun h2 => iteT ⟨_, rfl, brk ?_ G (Same.refl _)⟩) (fun h2 => ?_)
      · have h2' : r.length ≠ 2 := fun z => by rw [decide_eq_true z] at h2; cases h2
        unfold needsRow
        split
        · exact absurd rfl h2'
        · rfl
      · have h2' : r.length = 2 := by
          cases z : decide (r.length = 2) with
          | true => exact of_decide_eq_true z
          | false => exact absurd (by rw [z]; rfl) h2
        obtain ⟨x, y, rfl⟩ : ∃ x y, r = [x, y] := by
          match r, h2' with
          | [x, y], _ => exact ⟨x, y, rfl⟩
        have en : needsRow [x, y] found = if (x == ("needs" : Str)) && fieldName y && !found.contains y then some y else none := rfl
        refine ⟨_, rfl, a, _, ((0 : Nat) : Int), _, rfl, rfl, SqL.of hs1, at_str (i := 0) rfl, rfl, _, rfl, ?_⟩
        rw [eq_str]
        cases e1 : (x == ("needs" : Str)) with
        | false => exact iteT (iteT ⟨_, rfl, brk (by rw [en, e1]; rfl) G (Same.refl _)⟩)
        | true =>
          refine iteF ⟨_, rfl, a, _, ((1 : Nat) : Int), _, rfl, rfl, SqL.of hs1, at_str (i := 1) rfl, y, rfl, (hB1 y (by simp)).1, fun G2 s2 => ⟨_, rfl, ?_⟩⟩
          cases e2 : fieldName y with
          | false => exact iteT (iteT ⟨_, rfl, brk (by rw [en, e1, e2]; rfl) G2 s2⟩)
          | true =>
            refine iteF ⟨_, rfl, a, _, ((1 : Nat) : Int), _, rfl, rfl, SqL.of (s2 _ _ hs1), at_str (i := 1) rfl, _, rfl, p, _, rfl, .inl (SqL.of (s2 _ _ hp)), rfl, flat_strs _, _, rfl, ?_⟩
            rw [inV_strs]
            cases e3 : found.contains y with
            | true => exact iteT ⟨_, rfl, brk (by rw [en, e1, e2, e3]; rfl) G2 s2⟩
            | false =>
              refine iteF ⟨_, rfl, .inl ⟨rfl, _, SqL.of (s2 _ _ hp)⟩, _, rfl, a, _, ((1 : Nat) : Int), _, rfl, rfl, SqL.of (s2 _ _ hs1), at_str (i := 1) rfl, p, _, _, rfl, rfl, s2 _ _ hp, ?_, found ++ [y], _, rfl, same_upd' (s1.trans s2) np, ?_, ?_, ?_⟩
              · rw [List.length_map, sizeLine_eq]
                omega
              · show upd G2 p _ p = _
                rw [upd_same, List.map_append]
                rfl
              · rw [List.length_append]
                exact Nat.succ_le_succ hf
              · rw [hm]
                show (match needsRow [x, y] found with
                  | some f => paramsM (rs.drop (i + 1)) (found ++ [f])
                  | none => found) = _
                rw [en, e1, e2, e3]
                rfl
    · rintro σ G ⟨found, u, rfl, s1, hp, hf, hm⟩
      refine ⟨_, rfl, k p G s1 np ?_⟩
      have e : rs.drop us.length = [] := List.drop_of_length_le (by rw [hR.len]; exact Nat.le_refl _)
      rw [hm, e]
      exact hp
end
end K04

namespace K04
open PySem PySem.Spec PyProof.Rows L2 EV TL LM
/-! ### pairs in the heap -/
structure PairsAt (H : Hp) (us : List V) (ks : List (Str × Str)) : Prop where
  len : us.length = ks.length
  pair : ∀ (i : Nat) (k : Str × Str), ks[i]? = some k → ∃ t, us[i]? = some (.ref t) ∧ H t = some (.tup [.str k.1, .str k.2])
theorem PairsAt.same {H H' : Hp} {us : List V} {ks : List (Str × Str)} (h : PairsAt H us ks) (s : Same H H') : PairsAt H' us ks :=
  ⟨h.len, fun i r e => let ⟨a, z1, z2⟩ := h.pair i r e; ⟨a, z1, s _ _ z2⟩⟩
theorem PairsAt.tups {H H' : Hp} {us : List V} {ks : List (Str × Str)} (h : PairsAt H us ks) (s : ∀ t xs, H t = some (.tup xs) → H' t = some (.tup xs)) : PairsAt H' us ks :=
  ⟨h.len, fun i r e => let ⟨a, z1, z2⟩ := h.pair i r e; ⟨a, z1, s _ _ z2⟩⟩
theorem PairsAt.nil {H : Hp} : PairsAt H [] [] := ⟨rfl, fun i k e => by simp at e⟩
theorem PairsAt.snoc {H : Hp} {us : List V} {ks : List (Str × Str)} {t : Addr} {k : Str × Str} (h : PairsAt H us ks) (ht : H t = some (.tup [.str k.1, .str k.2])) : PairsAt H (us ++ [.ref t]) (ks ++ [k]) := by
  refine ⟨by rw [List.length_append, List.length_append, h.len]; rfl, fun i z e => ?_⟩
  by_cases hi : i < ks.length
  · rw [List.getElem?_append_left hi] at e
    rw [List.getElem?_append_left (by rw [h.len]; exact hi)]
    exact h.pair i z e
  · rw [List.getElem?_append_right (Nat.le_of_not_lt hi)] at e
    have e0 : i - ks.length = 0 := by
      cases q : i - ks.length with
      | zero => rfl
      | succ j => rw [q] at e; simp at e
    rw [e0] at e
    obtain rfl : k = z := by simpa using e
    rw [List.getElem?_append_right (by rw [h.len]; exact Nat.le_of_not_lt hi), h.len, e0]
    exact ⟨t, rfl, ht⟩
section
variable {P : Program} {w : World} {K : Fg} {mg : Str → Option Value} {base : Heap}
def spKept (K : Fg) : Sp := fun vs H Q _ => ∃ (l q : Addr) (us : List V) (rs : List Rw) (ps : List Str), vs = [.ref l, .ref q] ∧ H l = some (.lst us) ∧ RowsAt H us rs ∧ (∀ r ∈ rs, RowB r) ∧ rs.length ≤ 1000 ∧ SqL K H q (ps.map V.str) ∧ ps.length ≤ 1000 ∧
  ∀ (p : Addr) (ts : List V) (H' : Hp), Same H H' → H p = none → H' p = some (.lst ts) → PairsAt H' ts (keptM rs ps []) → Q (.ref p) H'
theorem ok_kept_of {f : Addr} {fd : FuncData} (F : Fun K "_kept_of" "_kept_of" s_kept_of f fd) (T : Cst K mg) (O_is_field_name : Ok P w K mg base 3 "is_field_name" ["word"] (spW1 fieldName)) :
    FnOk P w K mg base CX0 4 f fd ["rows", "parameters"] (spKept K) := by
  refine F.ok sc_kept_of (fun vs H Q E h => ?_) (fun cdv A outer s H vs Q E hr h => ?_)
  · obtain ⟨l, q, us, rs, ps, rfl, _⟩ := h
    rfl
  · obtain ⟨l, q, us, rs, ps, rfl, hl, hR, hB, h1000, hq, hps, k⟩ := h
    refine ⟨_, (pss_cons (ps_set (i := 2) sc_kept_of.nd rfl (Or.inl rfl) (pe_callTy call_list_of (by rfl) T.n_list (by decide +kernel) (pa_cons (pv 1) pa_nil)))
    (pss_cons (ps_set (i := 3) sc_kept_of.nd rfl (Or.inl rfl) (pe_lst pa_nil))
    (pss_cons (ps_for PassesOwn.never rfl (pi_list (pv 0)) (pg_name (i := 4) sc_kept_of.nd rfl (Or.inl rfl)) (pss_cons (ps_if (PW.pt (pw_or (pt_cmpR op_ne (pe_callB call_len_seq (by rfl) T.n_len (by decide +kernel) (pa_cons (pv 4) pa_nil)) pe_int (nomark _)) (pw_or (pt_cmpR op_ne (pe_ix ix_list (pv 4) pe_int (fun _ _ => rfl)) pe_str (nomark _)) (pw_or1 (pt_cmpR op_ne (pe_ix ix_list (pv 4) pe_int (fun _ _ => rfl)) pe_str (nomark _)))))) (pss_one ps_break) pss_nil)
    (pss_cons (ps_if (PW.pt (pw_or (pt_not (pt_val (pe_callO O_is_field_name (hr.mono (by decide)) (pa_cons (pe_ix ix_list (pv 4) pe_int (fun _ _ => rfl)) pa_nil)))) (pw_or (pt_cmpR op_in_seq (pe_ix ix_list (pv 4) pe_int (fun _ _ => rfl)) (pv 2) (by rfl)) (pw_or1 (pt_cmpR op_notIn_seq (pe_ix ix_list (pv 4) pe_int (fun _ _ => rfl)) (pv 2) (by rfl)))))) (pss_one ps_break) pss_nil)
    (pss_cons (ps_expr (pe_bm PySem.F.plainAttrs_list PySem.F.slot_list_append PySem.F.type_list_append mt_append (pv 2) (pa_cons (pe_ix ix_list (pv 4) pe_int (fun _ _ => rfl)) pa_nil)))
    (pss_one (ps_expr (pe_bm PySem.F.plainAttrs_list PySem.F.slot_list_append PySem.F.type_list_append mt_append (pv 3) (pa_cons (pe_tup (pa_cons (pe_ix ix_list (pv 4) pe_int (fun _ _ => rfl)) (pa_cons (pe_ix ix_list (pv 4) pe_int (fun _ _ => rfl)) pa_nil))) pa_nil))))))))
    (pss_one (ps_ret (pv 3)))))), ?_⟩
    refine ⟨_, rfl, q, _, rfl, .inl hq, fun c nc => ?_⟩
    refine ⟨by show 0 ≤ sizeLine; decide, fun p np => ?_⟩
    have np0 : H p = none := same_upd nc |>.free np
    have pc : p ≠ c := fun e => by rw [e, upd_same] at np; cases np
    refine ⟨_, rfl, l, rfl, ⟨us, SqL.of (same_upd np _ _ (same_upd nc _ _ hl))⟩, ?_⟩
    refine for_list (xs := us) (fun i σ G => ∃ (known : List Str) (found : List (Str × Str)) (ts : List V) (u : Option V), σ = [some (.ref l), some (.ref q), some (.ref c), some (.ref p), u] ∧ Same H G ∧ StrsAt G c known ∧ known.length ≤ ps.length + i ∧
        G p = some (.lst ts) ∧ PairsAt G ts found ∧ found.length ≤ i ∧ keptM rs ps [] = keptM (rs.drop i) known found)
      ⟨ps, [], [], none, rfl, (same_upd nc).trans (same_upd np), same_upd np _ _ upd_same, Nat.le_refl _, upd_same, PairsAt.nil, Nat.le_refl _, rfl⟩ (fun i σ G _ q => by
        obtain ⟨_, _, _, _, _, s1, _⟩ := q
        exact SqL.of (s1 _ _ hl)) ?_ ?_
    · rintro i x σ G hx ⟨known, found, ts, u, rfl, s1, hc, hkn, hp, hP, hf, hm⟩
      have hi : i < rs.length := by
        rw [← hR.len]
        exact (List.getElem?_eq_some_iff.mp hx).1
      obtain ⟨a, ha, hs⟩ := hR.row i _ (List.getElem?_eq_getElem hi)
      rw [hx] at ha
      cases ha
      have hs1 := s1 _ _ hs
      have hB1 : RowB rs[i] := hB _ (List.getElem_mem hi)
      have hd : rs.drop i = rs[i] :: rs.drop (i + 1) := List.drop_eq_getElem_cons hi
      rw [hd] at hm
      generalize hrow : rs[i] = r at hs hs1 hB1 hm
      have brk : keepsRow r known = none → ∀ G', Same G G' → Q (.ref p) G' := fun e G' s' => k p ts G' (s1.trans s') np0 (s' _ _ hp) (by
        have : keptM rs ps [] = found := by
          rw [hm]
          unfold keptM
          rw [e]
        rw [this]
        exact hP.same s')
      refine ⟨_, rfl, a, _, rfl, .inl (SqL.of hs1), rfl, _, rfl, ?_⟩
      rw [List.length_map, show (V.int 4 : V) = V.int ((4 : Nat) : Int) from rfl, len_is]
      refine ite2 (fun h2 => iteT ⟨_, rfl, brk ?_ G (Same.refl _)⟩) (fun h2 => ?_)
      · have h2' : r.length ≠ 4 := fun z => by rw [decide_eq_true z] at h2; cases h2
        unfold keepsRow
        split
        · exact absurd rfl h2'
        · rfl
      · have h2' : r.length = 4 := by
          cases z : decide (r.length = 4) with
          | true => exact of_decide_eq_true z
          | false => exact absurd (by rw [z]; rfl) h2
        obtain ⟨x, y, o, sr, rfl⟩ : ∃ x y o s, r = [x, y, o, s] := by
          match r, h2' with
          | [x, y, o, s], _ => exact ⟨x, y, o, s, rfl⟩
        have en : keepsRow [x, y, o, sr] known = if x == ("keeps" : Str) && o == ("of" : Str) && fieldName y && !known.contains y && known.contains sr then some (y, sr) else none := rfl
        refine ⟨_, rfl, a, _, ((0 : Nat) : Int), _, rfl, rfl, SqL.of hs1, at_str (i := 0) rfl, rfl, _, rfl, ?_⟩
        rw [eq_str]
        cases e1 : (x == ("keeps" : Str)) with
        | false => exact iteT (iteT ⟨_, rfl, brk (by rw [en, e1]; rfl) G (Same.refl _)⟩)
        | true =>
          refine iteF ⟨_, rfl, a, _, ((2 : Nat) : Int), _, rfl, rfl, SqL.of hs1, at_str (i := 2) rfl, rfl, _, rfl, ?_⟩
          rw [eq_str]
          cases e1' : (o == ("of" : Str)) with
          | false => exact iteT ⟨_, rfl, brk (by rw [en, e1, e1']; rfl) G (Same.refl _)⟩
          | true =>
            refine iteF ⟨_, rfl, a, _, ((1 : Nat) : Int), _, rfl, rfl, SqL.of hs1, at_str (i := 1) rfl, y, rfl, (hB1 y (by simp)).1, fun G2 s2 => ⟨_, rfl, ?_⟩⟩
            cases e2 : fieldName y with
            | false => exact iteT (iteT ⟨_, rfl, brk (by rw [en, e1, e1', e2]; rfl) G2 s2⟩)
            | true =>
              refine iteF ⟨_, rfl, a, _, ((1 : Nat) : Int), _, rfl, rfl, SqL.of (s2 _ _ hs1), at_str (i := 1) rfl, _, rfl, c, _, rfl, .inl (SqL.of (s2 _ _ hc)), rfl, flat_strs _, _, rfl, ?_⟩
              rw [inV_strs]
              cases e3 : known.contains y with
              | true => exact iteT (iteT ⟨_, rfl, brk (by rw [en, e1, e1', e2, e3]; rfl) G2 s2⟩)
              | false =>
                refine iteF ⟨_, rfl, a, _, ((3 : Nat) : Int), _, rfl, rfl, SqL.of (s2 _ _ hs1), at_str (i := 3) rfl, _, rfl, c, _, rfl, .inl (SqL.of (s2 _ _ hc)), rfl, flat_strs _, _, rfl, ?_⟩
                rw [inV_strs]
                cases e4 : known.contains sr with
                | false => exact iteT ⟨_, rfl, brk (by rw [en, e1, e1', e2, e3, e4]; rfl) G2 s2⟩
                | true =>
                  refine iteF ⟨_, rfl, .inl ⟨rfl, _, SqL.of (s2 _ _ hc)⟩, _, rfl, a, _, ((1 : Nat) : Int), _, rfl, rfl, SqL.of (s2 _ _ hs1), at_str (i := 1) rfl, c, _, _, rfl, rfl, s2 _ _ hc, by rw [List.length_map, sizeLine_eq]; omega, ?_⟩
                  have sH3 : Same H (upd G2 c (.lst (known.map V.str ++ [V.str y]))) := same_upd' (s1.trans s2) nc
                  have hs3 := sH3 _ _ hs
                  have hp3 : upd G2 c (.lst (known.map V.str ++ [V.str y])) p = some (.lst ts) := by
                    rw [upd_ne pc]
                    exact s2 _ _ hp
                  refine ⟨_, rfl, .inl ⟨rfl, _, SqL.of hp3⟩, _, rfl, a, _, ((1 : Nat) : Int), _, rfl, rfl, SqL.of hs3, at_str (i := 1) rfl, _, rfl, a, _, ((3 : Nat) : Int), _, rfl, rfl, SqL.of hs3, at_str (i := 3) rfl, by show 2 ≤ sizeLine; decide, fun t nt => ?_⟩
                  have ntH : H t = none := sH3.free nt
                  have pt : p ≠ t := fun e => by rw [← e, hp3] at nt; cases nt
                  have ct : c ≠ t := fun e => by rw [← e, upd_same] at nt; cases nt
                  refine ⟨p, _, _, rfl, rfl, by rw [upd_ne pt]; exact hp3, by rw [hP.len, sizeLine_eq]; omega, known ++ [y], found ++ [(y, sr)], _, _, rfl, same_upd' (same_upd' sH3 ntH) np0, ?_, ?_, upd_same, ?_, ?_, ?_⟩
                  · show upd (upd (upd G2 c _) t _) p _ c = _
                    rw [upd_ne (Ne.symm pc), upd_ne ct, upd_same, List.map_append]
                    rfl
                  · rw [List.length_append]
                    show known.length + 1 ≤ _
                    omega
                  · refine PairsAt.snoc (k := (y, sr)) ((hP.same s2).tups fun t' xs z => ?_) ?_
                    · have n1 : t' ≠ c := fun e => by rw [e, s2 _ _ hc] at z; cases z
                      have n2 : t' ≠ t := fun e => by
                        rw [e] at z n1
                        rw [upd_ne n1, z] at nt
                        cases nt
                      have n3 : t' ≠ p := fun e => by rw [e, s2 _ _ hp] at z; cases z
                      rw [upd_ne n3, upd_ne n2, upd_ne n1]
                      exact z
                    · rw [upd_ne (Ne.symm pt), upd_same]
                  · rw [List.length_append]
                    exact Nat.succ_le_succ hf
                  · rw [hm]
                    show (match keepsRow [x, y, o, sr] known with
                      | some p => keptM (rs.drop (i + 1)) (known ++ [p.1]) (found ++ [p])
                      | none => found) = _
                    rw [en, e1, e1', e2, e3, e4]
                    rfl
    · rintro σ G ⟨known, found, ts, u, rfl, s1, hc, hkn, hp, hP, hf, hm⟩
      refine ⟨_, rfl, k p ts G s1 np0 hp ?_⟩
      have e : rs.drop us.length = [] := List.drop_of_length_le (by rw [hR.len]; exact Nat.le_refl _)
      rw [hm, e]
      exact hP
end
end K04

namespace K04
open PySem PySem.Spec PyProof.Rows L2 EV TL LM
/-! ### lists of texts, compared -/
theorem dp_strs {K : Fg} {H : Hp} {a : Addr} {ws : List Str} (h : SqL K H a (ws.map V.str)) : Dp K H (.ref a) (.list (ws.map PyData.str)) := by
  refine .lst h ?_
  clear h
  induction ws with
  | nil => exact .nil
  | cons w ws ih => exact .cons (.str w) ih
theorem can_strs : ∀ (ws : List Str), (∀ w ∈ ws, PyData.strOk w = true) → PyData.canLayAll0 (ws.map PyData.str) = true
  | [], _ => rfl
  | w :: ws, h => by
    show (PyData.strOk w && PyData.canLayAll0 (ws.map PyData.str)) = true
    rw [h w (List.mem_cons_self ..), can_strs ws fun z hz => h z (List.mem_cons_of_mem _ hz)]
    rfl
theorem depth_strs : ∀ (ws : List Str), PyData.depthAll (ws.map PyData.str) ≤ 1
  | [] => by simp [PyData.depthAll]
  | w :: ws => by
    have := depth_strs ws
    simp only [List.map_cons, PyData.depthAll, PyData.depth]
    omega
theorem shaped_strs (ws : List Str) (h : ∀ w ∈ ws, PyData.strOk w = true) : SeqAt.shaped (.list (ws.map PyData.str)) = true := by
  unfold SeqAt.shaped
  rw [show PyData.canLay0 (.list (ws.map PyData.str)) = true from can_strs ws h, Bool.true_and]
  refine decide_eq_true ?_
  have q := depth_strs ws
  rw [PyData.depth]
  omega
theorem eqv_strs : ∀ (ws zs : List Str), PyData.eqvAll (ws.map PyData.str) (zs.map PyData.str) = decide (ws = zs)
  | [], [] => rfl
  | [], _ :: _ => rfl
  | _ :: _, [] => rfl
  | w :: ws, z :: zs => by
    show ((w == z) && PyData.eqvAll (ws.map PyData.str) (zs.map PyData.str)) = _
    rw [eqv_strs ws zs]
    by_cases h : w = z
    · subst h
      by_cases k : ws = zs
      · subst k; simp
      · simp [k]
    · simp [h]
theorem eq_lists {K : Fg} {H : Hp} {p q : Addr} {ws zs : List Str} {Q : VK} (h1 : SqL K H p (ws.map V.str)) (h2 : SqL K H q (zs.map V.str)) (o1 : ∀ w ∈ ws, PyData.strOk w = true) (o2 : ∀ w ∈ zs, PyData.strOk w = true)
    (k : Q (.bl (decide (ws = zs))) H) : rEqD K (.ref p) (.ref q) H Q := by
  refine ⟨_, _, dp_strs h1, dp_strs h2, shaped_strs ws o1, shaped_strs zs o2, ?_⟩
  show Q (.bl (PyData.eqvAll (ws.map PyData.str) (zs.map PyData.str))) H
  rw [eqv_strs]
  exact k
theorem cut_from (xs : List V) (k : Nat) : cutV xs (some (k : Int)) none = xs.drop k := by
  unfold cutV
  rw [HT.sIx_nat, HT.sIx_none]
  rcases Nat.lt_or_ge xs.length k with h | h
  · rw [Nat.min_eq_right (Nat.le_of_lt h), List.drop_length, List.take_nil, List.drop_of_length_le (Nat.le_of_lt h)]
  · rw [Nat.min_eq_left h, List.take_of_length_le (by rw [List.length_drop]; exact Nat.le_refl _)]
theorem cut_to (xs : List V) (j k : Nat) : cutV xs (some (j : Int)) (some (k : Int)) = (xs.take k).drop j := by
  unfold cutV
  rw [HT.sIx_nat, HT.sIx_nat, List.drop_take]
  rcases Nat.lt_or_ge xs.length j with h | h
  · rw [Nat.min_eq_right (Nat.le_of_lt h), List.drop_length, List.take_nil, List.drop_of_length_le (Nat.le_of_lt h), List.take_nil]
  · rw [Nat.min_eq_left h]
    rcases Nat.lt_or_ge xs.length k with h2 | h2
    · rw [Nat.min_eq_right (Nat.le_of_lt h2), List.take_of_length_le (by rw [List.length_drop]; exact Nat.le_refl _), List.take_of_length_le (by rw [List.length_drop]; omega)]
    · rw [Nat.min_eq_left h2]
section
variable {P : Program} {w : World} {K : Fg} {mg : Str → Option Value} {base : Heap}
def OkW (ws : List Str) : Prop := ∀ w ∈ ws, PyData.strOk w = true
def spSel (K : Fg) : Sp := fun vs H Q _ => ∃ (a q : Addr) (ws ps : List Str), vs = [.ref a, .ref q] ∧ StrsAt H a ws ∧ SqL K H q (ps.map V.str) ∧ ps.length ≤ 1000 ∧ OkW ws ∧ OkW ps ∧ ∀ H', Same H H' → Q (.bl (selection ws ps)) H'
theorem ok_is_selection {f : Addr} {fd : FuncData} (F : Fun K "_is_selection" "_is_selection" s_is_selection f fd) (T : Cst K mg) :
    FnOk P w K mg base CX0 1 f fd ["words", "parameters"] (spSel K) := by
  refine F.ok sc_is_selection (fun vs H Q E h => ?_) (fun cdv A outer s H vs Q E hr h => ?_)
  · obtain ⟨a, q, ws, ps, rfl, _⟩ := h
    rfl
  · obtain ⟨a, q, ws, ps, rfl, ha, hq, hps, o1, o2, k⟩ := h
    refine ⟨_, (pss_cons (ps_if (pt_not (pt_truth (pv 0) (by intro _; rfl))) (pss_one (ps_ret pe_bl)) pss_nil)
    (pss_cons (ps_set (i := 2) sc_is_selection.nd rfl (Or.inr rfl) (pe_slice sl_list (pv 0) (po_some pe_int) po_none))
    (pss_cons (ps_if (PW.pt (pw_or (pt_cmpR op_ne (pe_ix ix_list (pv 0) pe_int (fun _ _ => rfl)) pe_str (nomark _)) (pw_or1 (pt_not (pt_truth (pv 2) (by intro _; rfl)))))) (pss_one (ps_ret pe_bl)) pss_nil)
    (pss_one (ps_ret (pe_cmpR (op_eqD hr.units) (pv 2) (pe_lc (own := [("field", 3)]) rfl sc_is_selection.nd (pi_list (pv 1)) (blkOk_by (own := [("field", 3)]) (N := ["words", "parameters", "chosen", "field"]) (sc := defScope s_is_selection) (by decide +kernel)) (fun _ _ _ _ _ => (pg_name (i := 3) sc_is_selection.nd rfl (Or.inl rfl))) (fun _ _ _ _ _ => (pts_one (pt_cmpR (show OpR _ (compareOp .In) (rIn K false) from op_in_seq) (pv 3) (pv 2) (by rfl)))) (fun _ _ _ _ _ => (pv 3))) (nomark _))))))), ?_⟩
    refine ⟨_, rfl, _, .inl ⟨_, SqL.of ha, rfl⟩, ?_⟩
    cases ws with
    | nil => exact iteT (k H (Same.refl _))
    | cons x chosen =>
      refine iteF ⟨_, rfl, 1, rfl, a, _, rfl, SqL.of ha, fun c nc => ?_⟩
      rw [show cutV ((x :: chosen).map V.str) (some 1) none = chosen.map V.str from cut_from _ 1]
      have s1 : Same H (upd H c (.lst (chosen.map V.str))) := same_upd nc
      have hc : upd H c (.lst (chosen.map V.str)) c = some (.lst (chosen.map V.str)) := upd_same
      have kk : ∀ H', Same H H' → Q (.bl (x == ("changes" : Str) && !chosen.isEmpty && decide (chosen = ps.filter fun f => chosen.contains f))) H' := k
      generalize upd H c (.lst (chosen.map V.str)) = G at s1 hc
      refine ⟨_, rfl, a, _, ((0 : Nat) : Int), _, rfl, rfl, SqL.of (s1 _ _ ha), at_str (i := 0) rfl, rfl, _, rfl, ?_⟩
      rw [eq_str]
      cases e1 : (x == ("changes" : Str)) with
      | false =>
        have q := kk G s1
        rw [e1] at q
        exact iteT (iteT q)
      | true =>
        refine iteF ⟨_, rfl, _, .inl ⟨_, SqL.of hc, rfl⟩, ?_⟩
        cases e2 : chosen with
        | nil =>
          have q := kk G s1
          rw [e1, e2] at q
          exact iteT q
        | cons y r =>
          rw [← e2]
          have e3 : chosen.isEmpty = false := by rw [e2]; rfl
          have hqG : SqL K G q (ps.map V.str) := s1.seq hq
          rw [show (!!(List.map V.str chosen).isEmpty) = false by rw [e2]; rfl]
          refine iteF ⟨_, rfl, _, rfl, q, rfl, ⟨_, hqG⟩, fun D nD => ?_⟩
          refine lc_fm (walk_list (xs := ps.map V.str)) (fun i => ps[i]?.bind fun p => if chosen.contains p = true then some (V.str p) else none) nD (by rw [List.length_map]; omega) (fun _ s => s.seq hqG) ?_ ?_
          · rintro i x G1 G2 NT NE hi s2 ⟨rfl, hx⟩ h0 h1
            obtain ⟨p, hp, rfl⟩ : ∃ p, ps[i]? = some p ∧ V.str p = x := by
              rw [List.getElem?_map] at hx
              cases e : ps[i]? with
              | none => rw [e] at hx; cases hx
              | some p => rw [e] at hx; exact ⟨p, rfl, by injection hx⟩
            refine ⟨rfl, _, rfl, _, rfl, c, _, rfl, .inl (SqL.of (s2 _ _ hc)), rfl, flat_strs _, _, rfl, ?_⟩
            rw [inV_strs]
            cases e4 : chosen.contains p with
            | true => exact iteT ⟨_, rfl, h1 _ _ (by show (ps[i]?.bind _) = _; rw [hp]; show (if chosen.contains p = true then some (V.str p) else none) = _; rw [if_pos e4]) (Same.refl _)⟩
            | false => exact iteF (h0 (by show (ps[i]?.bind _) = _; rw [hp]; show (if chosen.contains p = true then some (V.str p) else none) = _; rw [if_neg (by rw [e4]; exact Bool.false_ne_true)]) _ (Same.refl _))
          · intro G1 s2 hD
            rw [gath_filter ps _ V.str (by rw [List.length_map])] at hD
            refine eq_lists (SqL.of (s2 _ _ hc)) (SqL.of hD) (fun w hw => o1 w (List.mem_cons_of_mem _ hw)) (fun w hw => o2 w (List.mem_filter.mp hw).1) ?_
            have q := kk G1 (s1.trans s2)
            rw [e1, e3] at q
            exact q
end
end K04

namespace K04
open PySem PySem.Spec PyProof.Rows L2 EV TL LM
def RowZ (r : Rw) : Prop := (r.map (·.length)).sum + r.length ≤ 2000000
theorem sum_drop : ∀ (r : Rw) (k : Nat), ((r.drop k).map (·.length)).sum + (r.drop k).length ≤ (r.map (·.length)).sum + r.length
  | _, 0 => Nat.le_refl _
  | [], _ + 1 => Nat.le_refl _
  | x :: r, k + 1 => by
    have := sum_drop r k
    show ((r.drop k).map (·.length)).sum + (r.drop k).length ≤ _
    simp only [List.map_cons, List.sum_cons, List.length_cons]
    omega
theorem drop_strs (r : Rw) (k : Nat) : (r.map V.str).drop k = (r.drop k).map V.str := by rw [List.map_drop]
/-- an operation as a tuple -/
def OpAt (H : Hp) (t : Addr) (o : Op) : Prop := ∃ c, H t = some (.tup [.str o.sign, .ref c, .str o.maker]) ∧ H c = some (.tup (o.changed.map V.str))
theorem OpAt.same {H H' : Hp} {t : Addr} {o : Op} (h : OpAt H t o) (s : Same H H') : OpAt H' t o := let ⟨c, z1, z2⟩ := h; ⟨c, s _ _ z1, s _ _ z2⟩
theorem makers_at {K : Fg} {a0 a1 a2 : Addr} {n : Nat} (h : n ≤ 2) (t0 : TupK K a0 (makers0.map V.str)) (t1 : TupK K a1 (makers1.map V.str)) (t2 : TupK K a2 (makers2.map V.str)) :
    ∃ b, atI [V.ref a0, V.ref a1, V.ref a2] (n : Int) = some (.ref b) ∧ TupK K b ((makersOf n).map V.str) := by
  match n, h with
  | 0, _ => exact ⟨a0, rfl, t0⟩
  | 1, _ => exact ⟨a1, rfl, t1⟩
  | 2, _ => exact ⟨a2, rfl, t2⟩
section
variable {P : Program} {w : World} {K : Fg} {mg : Str → Option Value} {base : Heap}
def OpRes (m : Option Op) (H : Hp) (Q : VK) : Prop := (m = none → ∀ H', Same H H' → Q .non H') ∧ ∀ o, m = some o → ∀ t H', Same H H' → OpAt H' t o → Q (.ref t) H'
def spOp (K : Fg) (g : Rw → List Str → Option Op) : Sp := fun vs H Q _ => ∃ (a q : Addr) (r : Rw) (ps : List Str), vs = [.ref a, .ref q] ∧ StrsAt H a r ∧ RowB r ∧ RowZ r ∧ r ≠ [] ∧ StrsAt H q ps ∧ ps.length ≤ 1000 ∧ OkW ps ∧ OpRes (g r ps) H Q
theorem ok_request_of {f : Addr} {fd : FuncData} (F : Fun K "_request_of" "_request_of" s_request_of f fd) (T : Cst K mg) (O_is_request : Ok P w K mg base 3 "is_request" ["word"] (spW1 request)) :
    FnOk P w K mg base CX0 4 f fd ["row", "parameters"] (spOp K requestM) := by
  obtain ⟨aM, a0, a1, a2, m_MAKERS, tM, t0, t1, t2⟩ := T.g_MAKERS
  refine F.ok sc_request_of (fun vs H Q E h => ?_) (fun cdv A outer s H vs Q E hr h => ?_)
  · obtain ⟨a, q, r, ps, rfl, _⟩ := h
    rfl
  · obtain ⟨a, q, r, ps, rfl, ha, hb, hz, hne, hq, hps, o2, kn, ks⟩ := h
    refine ⟨_, (pss_cons (ps_if (PW.pt (pw_or (pt_cmpR op_lt (pe_callB call_len_seq (by rfl) T.n_len (by decide +kernel) (pa_cons (pv 0) pa_nil)) pe_int (nomark _)) (pw_or (pt_cmpR op_ne (pe_ix ix_list (pv 0) pe_int (fun _ _ => rfl)) pe_str (nomark _)) (pw_or1 (pt_not (pt_val (pe_callO O_is_request (hr.mono (by decide)) (pa_cons (pe_ix ix_list (pv 0) pe_int (fun _ _ => rfl)) pa_nil)))))))) (pss_one (ps_ret pe_non)) pss_nil)
    (pss_cons (ps_set (i := 2) sc_request_of.nd rfl (Or.inl rfl) (pe_join pe_str (pe_slice sl_list (pv 0) (po_some pe_int) po_none)))
    (pss_cons (ps_if (pt_cmpR op_notIn_seq (pv 2) (pe_ix ix_tup (pe_glob (v := .ref _) rfl m_MAKERS rfl) pe_int (fun _ _ => rfl)) (by rfl)) (pss_one (ps_ret pe_non)) pss_nil)
    (pss_one (ps_ret (pe_tup (pa_cons (pe_ix ix_list (pv 0) pe_int (fun _ _ => rfl)) (pa_cons (pe_callTy call_tuple_of (by rfl) T.n_tuple (by decide +kernel) (pa_cons (pv 1) pa_nil)) (pa_cons (pv 2) pa_nil))))))))), ?_⟩
    refine ⟨_, rfl, a, _, rfl, .inl (SqL.of ha), _, _, rfl, rfl, _, rfl, ?_⟩
    rw [List.length_map]
    refine ite2 (fun h2 => iteT (kn ?_ H (Same.refl _))) (fun h2 => ?_)
    · have h2' : r.length < 3 := by
        have := of_decide_eq_true h2
        omega
      unfold requestM
      split
      · simp at h2'
        omega
      · rfl
    · have h2' : ¬ r.length < 3 := fun z => h2 (decide_eq_true (by omega))
      obtain ⟨x, y, b, rest, rfl⟩ : ∃ x y b rest, r = x :: y :: b :: rest := by
        match r, h2' with
        | x :: y :: b :: rest, _ => exact ⟨x, y, b, rest, rfl⟩
        | [], h => exact absurd (by decide) h
        | [_], h => exact absurd (by simp) h
        | [_, _], h => exact absurd (by simp) h
      have en : requestM (x :: y :: b :: rest) ps = if b == ("by" : Str) && request y && makers0.contains (Str.join " " rest) then some ⟨y, ps, Str.join " " rest⟩ else none := rfl
      refine ⟨_, rfl, a, _, ((2 : Nat) : Int), _, rfl, rfl, SqL.of ha, at_str (i := 2) rfl, rfl, _, rfl, ?_⟩
      rw [eq_str]
      cases e1 : (b == ("by" : Str)) with
      | false => exact iteT (iteT (kn (by rw [en, e1]; rfl) H (Same.refl _)))
      | true =>
        refine iteF ⟨_, rfl, a, _, ((1 : Nat) : Int), _, rfl, rfl, SqL.of ha, at_str (i := 1) rfl, y, rfl, (hb y (by simp)).1, fun G s1 => ⟨_, rfl, ?_⟩⟩
        cases e2 : request y with
        | false => exact iteT (kn (by rw [en, e1, e2]; rfl) G s1)
        | true =>
          refine iteF ⟨⟨_, rfl⟩, _, rfl, 3, rfl, a, _, rfl, SqL.of (s1 _ _ ha), fun p np => ?_⟩
          have ep : upd G p (.lst (cutV ((x :: y :: b :: rest).map V.str) (some 3) none)) p = some (.lst (rest.map V.str)) := by
            rw [upd_same, show cutV ((x :: y :: b :: rest).map V.str) (some 3) none = rest.map V.str from cut_from _ 3]
          have s2 : Same H (upd G p (.lst (cutV ((x :: y :: b :: rest).map V.str) (some 3) none))) := s1.trans (same_upd np)
          generalize upd G p (.lst (cutV ((x :: y :: b :: rest).map V.str) (some 3) none)) = G2 at ep s2
          have hz2 := sum_drop (x :: y :: b :: rest) 3
          unfold RowZ at hz
          refine ⟨_, p, rest, rfl, rfl, .inl (SqL.of ep), ?_, ?_⟩
          · have e : (" " : Str).length = 1 := by decide +kernel
            rw [e, Nat.mul_one]
            have z : ((rest).map (·.length)).sum + rest.length ≤ 2000000 := Nat.le_trans hz2 hz
            omega
          · rw [join_eq]
            refine ⟨_, rfl, aM, _, ((0 : Nat) : Int), _, rfl, rfl, tM.sq, atI_nat (j := 0) rfl, a0, _, rfl, .inr t0.sq, rfl, flat_strs _, _, rfl, ?_⟩
            rw [inV_strs]
            cases e3 : makers0.contains (Str.join " " rest) with
            | false => exact iteT (kn (by rw [en, e1, e2, e3]; rfl) G2 s2)
            | true =>
              refine iteF ⟨_, rfl, a, _, ((1 : Nat) : Int), _, rfl, rfl, SqL.of (s2 _ _ ha), at_str (i := 1) rfl, _, rfl, q, _, rfl, .inl ⟨SqL.of (s2 _ _ hq), fun c nc => ⟨_, rfl, by show 3 ≤ sizeLine; decide, fun t nt => ?_⟩⟩⟩
              have ec : (upd G2 c (.tup (ps.map V.str))) c = some (.tup (ps.map V.str)) := upd_same
              refine ks ⟨y, ps, Str.join " " rest⟩ (by rw [en, e1, e2, e3]; rfl) t _ ((s2.trans (same_upd nc)).trans (same_upd nt)) ⟨c, upd_same, same_upd nt _ _ ec⟩
end
end K04

namespace K04
open PySem PySem.Spec PyProof.Rows L2 EV TL LM
theorem by_at {rest : List Str} (h : rest.contains "by" = true) : rest[rest.findIdx (· == ("by" : Str))]? = some "by" := by
  have hm : ("by" : Str) ∈ rest := List.contains_iff_mem.mp h
  have hl : rest.findIdx (· == ("by" : Str)) < rest.length := List.findIdx_lt_length_of_exists ⟨_, hm, by simp⟩
  rw [List.getElem?_eq_getElem hl]
  have := List.findIdx_getElem (xs := rest) (p := (· == ("by" : Str))) (w := hl)
  exact congrArg some (eq_of_beq this)
theorem by_before {rest : List Str} {m : Nat} {z : Str} (h : m < rest.findIdx (· == ("by" : Str))) (e : rest[m]? = some z) : (z == ("by" : Str)) = false := by
  have := List.not_of_lt_findIdx h
  have hl : m < rest.length := (List.getElem?_eq_some_iff.mp e).1
  rw [List.getElem?_eq_getElem hl] at e
  cases e
  exact Bool.eq_false_iff.mpr (by simpa using this)
theorem arity_le (s : Str) : arity s ≤ 2 := by
  unfold arity
  split
  · omega
  · split <;> omega
section
variable {P : Program} {w : World} {K : Fg} {mg : Str → Option Value} {base : Heap}
theorem ok_operation_of {f : Addr} {fd : FuncData} (F : Fun K "_operation_of" "_operation_of" s_operation_of f fd) (T : Cst K mg) (O_request_of : Ok P w K mg base 4 "_request_of" ["row", "parameters"] (spOp K requestM))
    (O_arity_of : Ok P w K mg base 1 "arity_of" ["sign"] spArity) (O_is_selection : Ok P w K mg base 1 "_is_selection" ["words", "parameters"] (spSel K)) :
    FnOk P w K mg base CX0 5 f fd ["row", "parameters"] (spOp K opM) := by
  obtain ⟨aM, a0, a1, a2, m_MAKERS, tM, t0, t1, t2⟩ := T.g_MAKERS
  obtain ⟨aB, m_BINARY_SIGNS, tB⟩ := T.g_BINARY_SIGNS
  obtain ⟨aU, m_UNARY_SIGNS, tU⟩ := T.g_UNARY_SIGNS
  refine F.ok sc_operation_of (fun vs H Q E h => ?_) (fun cdv A outer s H vs Q E hr h => ?_)
  · obtain ⟨a, q, r, ps, rfl, _⟩ := h
    rfl
  · obtain ⟨a, q, r, ps, rfl, ha, hb, hz, hne, hq, hps, o2, kn, ks⟩ := h
    refine ⟨_, (pss_cons (ps_if (pt_cmpR op_eq (pe_ix ix_list (pv 0) pe_int (fun _ _ => rfl)) pe_str (nomark _)) (pss_one (ps_ret (pe_callO O_request_of (hr.mono (by decide)) (pa_cons (pv 0) (pa_cons (pv 1) pa_nil))))) pss_nil)
    (pss_cons (ps_if (PW.pt (pw_or (PW.pt (pw_and (pt_cmpR op_notIn_seq (pe_ix ix_list (pv 0) pe_int (fun _ _ => rfl)) (pe_glob (v := .ref _) rfl m_BINARY_SIGNS rfl) (by rfl)) (pw_and1 (pt_cmpR op_notIn_seq (pe_ix ix_list (pv 0) pe_int (fun _ _ => rfl)) (pe_glob (v := .ref _) rfl m_UNARY_SIGNS rfl) (by rfl))))) (pw_or1 (pt_cmpR op_notIn_seq pe_str (pv 0) (by rfl))))) (pss_one (ps_ret pe_non)) pss_nil)
    (pss_cons (ps_set (i := 2) sc_operation_of.nd rfl (Or.inl rfl) (pe_bm PySem.F.plainAttrs_list PySem.F.slot_list_index PySem.F.type_list_index mt_index (pv 0) (pa_cons pe_str pa_nil)))
    (pss_cons (ps_set (i := 3) sc_operation_of.nd rfl (Or.inl rfl) (pe_join pe_str (pe_slice sl_list (pv 0) (po_some (pe_op op_add (pv 2) pe_int)) po_none)))
    (pss_cons (ps_set (i := 4) sc_operation_of.nd rfl (Or.inl rfl) (pe_slice sl_list (pv 0) (po_some pe_int) (po_some (pv 2))))
    (pss_cons (ps_if (PW.pt (pw_or (pt_cmpR op_notIn_seq (pv 3) (pe_ix ix_tup (pe_glob (v := .ref _) rfl m_MAKERS rfl) (pe_callO O_arity_of (hr.mono (by decide)) (pa_cons (pe_ix ix_list (pv 0) pe_int (fun _ _ => rfl)) pa_nil)) (fun _ _ => rfl)) (by rfl)) (pw_or1 (pt_not (pt_val (pe_callO O_is_selection (hr.mono (by decide)) (pa_cons (pe_slice sl_list (pv 0) (po_some pe_int) (po_some (pv 2))) (pa_cons (pv 1) pa_nil)))))))) (pss_one (ps_ret pe_non)) pss_nil)
    (pss_one (ps_ret (pe_tup (pa_cons (pe_ix ix_list (pv 0) pe_int (fun _ _ => rfl)) (pa_cons (pe_callTy call_tuple_of (by rfl) T.n_tuple (by decide +kernel) (pa_cons (pv 4) pa_nil)) (pa_cons (pv 3) pa_nil)))))))))))), ?_⟩
    obtain ⟨x, rest, rfl⟩ : ∃ x rest, r = x :: rest := by
      match r, hne with
      | x :: rest, _ => exact ⟨x, rest, rfl⟩
    refine ⟨_, rfl, a, _, ((0 : Nat) : Int), _, rfl, rfl, SqL.of ha, at_str (i := 0) rfl, rfl, _, rfl, ?_⟩
    rw [eq_str]
    have em : opM (x :: rest) ps = if (x == ("make" : Str)) = true then requestM (x :: rest) ps else
        if ((!binary.contains x && !unary.contains x) || !rest.contains "by") = true then none
        else if (!(makersOf (arity x)).contains (Str.join " " (rest.drop (rest.findIdx (· == ("by" : Str)) + 1))) || !selection (rest.take (rest.findIdx (· == ("by" : Str)))) ps) = true then none
        else some ⟨x, (rest.take (rest.findIdx (· == ("by" : Str)))).drop 1, Str.join " " (rest.drop (rest.findIdx (· == ("by" : Str)) + 1))⟩ := rfl
    cases e0 : (x == ("make" : Str)) with
    | true =>
      rw [em, if_pos e0] at kn ks
      exact iteT ⟨_, rfl, _, rfl, a, q, _, ps, rfl, ha, hb, hz, by simp, hq, hps, o2, kn, ks⟩
    | false =>
      rw [em, if_neg (by rw [e0]; exact Bool.false_ne_true)] at kn ks
      refine iteF ⟨_, rfl, a, _, ((0 : Nat) : Int), _, rfl, rfl, SqL.of ha, at_str (i := 0) rfl, aB, _, rfl, .inr tB.sq, rfl, flat_strs _, _, rfl, ?_⟩
      rw [inV_strs]
      have key : ∀ s ∈ binary ++ unary, s ≠ ("by" : Str) := by decide +kernel
      cases hb1 : binary.contains x with
      | true =>
        have nby : x ≠ "by" := key x (List.mem_append.mpr (.inl (List.contains_iff_mem.mp hb1)))
        have n2 : (!binary.contains x && !unary.contains x) = false := by rw [hb1]; rfl
        refine iteF (iteF ?_)
        refine ⟨_, rfl, a, _, rfl, .inl (SqL.of ha), rfl, flat_strs _, _, rfl, ?_⟩
        rw [inV_strs, show (x :: rest).contains ("by" : Str) = rest.contains "by" by rw [List.contains_cons, show (("by" : Str) == x) = false from beq_eq_false_iff_ne.mpr (Ne.symm nby)]; rfl]
        cases e1 : rest.contains "by" with
        | false => exact iteT (kn (by rw [n2, e1]; rfl) H (Same.refl _))
        | true =>
          rw [n2, e1] at kn ks
          generalize he : rest.findIdx (· == ("by" : Str)) = e at kn ks
          have hby : rest[e]? = some "by" := by rw [← he]; exact by_at e1
          refine iteF ⟨_, rfl, .inl ⟨rfl, _, SqL.of ha⟩, a, _, _, e + 1, V.str "by", rfl, rfl, SqL.of ha, rfl, flat_strs _, ?_, beq_self_eq_true _, ?_, ?_⟩
          · show (rest.map V.str)[e]? = _
            rw [List.getElem?_map, hby]
            rfl
          · intro m z hm hz'
            cases m with
            | zero =>
              obtain rfl : V.str x = z := by simpa using hz'
              exact beq_eq_false_iff_ne.mpr nby
            | succ m =>
              have hz2 : (rest.map V.str)[m]? = some z := hz'
              rw [List.getElem?_map] at hz2
              cases e2 : rest[m]? with
              | none => rw [e2] at hz2; cases hz2
              | some y =>
                rw [e2] at hz2
                obtain rfl : V.str y = z := by injection hz2
                exact by_before (by rw [he]; omega) e2
          · refine ⟨⟨_, rfl⟩, _, rfl, _, rfl, _, _, rfl, rfl, _, rfl, a, _, rfl, SqL.of ha, fun p np => ?_⟩
            have ep : (upd H p (.lst (cutV ((x :: rest).map V.str) (some (((e + 1 : Nat) : Int) + 1)) none))) p = some (.lst ((rest.drop (e + 1)).map V.str)) := by
              rw [upd_same, show cutV ((x :: rest).map V.str) (some (((e + 1 : Nat) : Int) + 1)) none = ((x :: rest).map V.str).drop (e + 2) from cut_from _ (e + 2), drop_strs]
              rfl
            have s1 : Same H (upd H p (.lst (cutV ((x :: rest).map V.str) (some (((e + 1 : Nat) : Int) + 1)) none))) := same_upd np
            generalize upd H p (.lst (cutV ((x :: rest).map V.str) (some (((e + 1 : Nat) : Int) + 1)) none)) = G1 at ep s1
            have hz2 := sum_drop (x :: rest) (e + 2)
            unfold RowZ at hz
            refine ⟨_, p, rest.drop (e + 1), rfl, rfl, .inl (SqL.of ep), ?_, ?_⟩
            · have el : (" " : Str).length = 1 := by decide +kernel
              rw [el, Nat.mul_one]
              have z : ((rest.drop (e + 1)).map (·.length)).sum + (rest.drop (e + 1)).length ≤ 2000000 := Nat.le_trans hz2 hz
              omega
            · rw [join_eq]
              generalize hmk : Str.join " " (rest.drop (e + 1)) = mk at kn ks
              refine ⟨_, rfl, 2, rfl, _, rfl, _, rfl, a, _, rfl, SqL.of (s1 _ _ ha), fun c nc => ?_⟩
              have ec : (upd G1 c (.lst (cutV ((x :: rest).map V.str) (some 2) (some ((e + 1 : Nat) : Int))))) c = some (.lst (((rest.take e).drop 1).map V.str)) := by
                rw [upd_same, show cutV ((x :: rest).map V.str) (some 2) (some ((e + 1 : Nat) : Int)) = (((x :: rest).map V.str).take (e + 1)).drop 2 from cut_to _ 2 (e + 1), ← List.map_take, ← List.map_drop]
                rfl
              have s2 : Same H (upd G1 c (.lst (cutV ((x :: rest).map V.str) (some 2) (some ((e + 1 : Nat) : Int))))) := s1.trans (same_upd nc)
              generalize upd G1 c (.lst (cutV ((x :: rest).map V.str) (some 2) (some ((e + 1 : Nat) : Int)))) = G2 at ec s2
              obtain ⟨b, hat, tb⟩ := makers_at (arity_le x) t0 t1 t2
              refine ⟨_, rfl, _, rfl, a, _, ((0 : Nat) : Int), _, rfl, rfl, SqL.of (s2 _ _ ha), at_str (i := 0) rfl, x, rfl, aM, _, _, _, rfl, rfl, tM.sq, hat, b, _, rfl, .inr tb.sq, rfl, flat_strs _, _, rfl, ?_⟩
              rw [inV_strs]
              cases e3 : (makersOf (arity x)).contains mk with
              | false => exact iteT (iteT (kn (by rw [e3]; rfl) G2 s2))
              | true =>
                refine iteF ⟨_, rfl, 1, rfl, _, rfl, _, rfl, a, _, rfl, SqL.of (s2 _ _ ha), fun d nd => ?_⟩
                have ed : (upd G2 d (.lst (cutV ((x :: rest).map V.str) (some 1) (some ((e + 1 : Nat) : Int))))) d = some (.lst ((rest.take e).map V.str)) := by
                  rw [upd_same, show cutV ((x :: rest).map V.str) (some 1) (some ((e + 1 : Nat) : Int)) = (((x :: rest).map V.str).take (e + 1)).drop 1 from cut_to _ 1 (e + 1), ← List.map_take, ← List.map_drop]
                  rfl
                have s3 : Same G2 (upd G2 d (.lst (cutV ((x :: rest).map V.str) (some 1) (some ((e + 1 : Nat) : Int))))) := same_upd nd
                generalize upd G2 d (.lst (cutV ((x :: rest).map V.str) (some 1) (some ((e + 1 : Nat) : Int)))) = G3 at ed s3
                refine ⟨_, rfl, d, q, rest.take e, ps, rfl, ed, SqL.of (s3 _ _ (s2 _ _ hq)), hps, (fun z hz => (hb z (List.mem_cons_of_mem _ (List.mem_of_mem_take hz))).2), o2, fun G4 s4 => ⟨_, rfl, ?_⟩⟩
                cases e4 : selection (rest.take e) ps with
                | false => exact iteT (kn (by rw [e3, e4]; rfl) G4 ((s2.trans s3).trans s4))
                | true =>
                  refine iteF ⟨_, rfl, a, _, ((0 : Nat) : Int), _, rfl, rfl, SqL.of (s4 _ _ (s3 _ _ (s2 _ _ ha))), at_str (i := 0) rfl, _, rfl, c, _, rfl, .inl ⟨SqL.of (s4 _ _ (s3 _ _ ec)), fun c2 nc2 => ⟨_, rfl, by show 3 ≤ sizeLine; decide, fun t nt => ?_⟩⟩⟩
                  exact ks ⟨x, (rest.take e).drop 1, mk⟩ (by rw [e3, e4]; rfl) t _ ((((s2.trans s3).trans s4).trans (same_upd nc2)).trans (same_upd nt)) ⟨c2, upd_same, same_upd nt _ _ upd_same⟩
      | false =>
        cases hu1 : unary.contains x with
        | false =>
          refine iteT ⟨_, rfl, a, _, ((0 : Nat) : Int), _, rfl, rfl, SqL.of ha, at_str (i := 0) rfl, aU, _, rfl, .inr tU.sq, rfl, flat_strs _, _, rfl, ?_⟩
          rw [inV_strs, hu1]
          exact iteT (iteT (kn (by rw [hb1, hu1]; rfl) H (Same.refl _)))
        | true =>
          have nby : x ≠ "by" := key x (List.mem_append.mpr (.inr (List.contains_iff_mem.mp hu1)))
          have n2 : (!binary.contains x && !unary.contains x) = false := by rw [hu1]; exact Bool.and_false _
          refine iteT ⟨_, rfl, a, _, ((0 : Nat) : Int), _, rfl, rfl, SqL.of ha, at_str (i := 0) rfl, aU, _, rfl, .inr tU.sq, rfl, flat_strs _, _, rfl, ?_⟩
          rw [inV_strs, hu1]
          refine iteF ?_
          refine ⟨_, rfl, a, _, rfl, .inl (SqL.of ha), rfl, flat_strs _, _, rfl, ?_⟩
          rw [inV_strs, show (x :: rest).contains ("by" : Str) = rest.contains "by" by rw [List.contains_cons, show (("by" : Str) == x) = false from beq_eq_false_iff_ne.mpr (Ne.symm nby)]; rfl]
          cases e1 : rest.contains "by" with
          | false => exact iteT (kn (by rw [n2, e1]; rfl) H (Same.refl _))
          | true =>
            rw [n2, e1] at kn ks
            generalize he : rest.findIdx (· == ("by" : Str)) = e at kn ks
            have hby : rest[e]? = some "by" := by rw [← he]; exact by_at e1
            refine iteF ⟨_, rfl, .inl ⟨rfl, _, SqL.of ha⟩, a, _, _, e + 1, V.str "by", rfl, rfl, SqL.of ha, rfl, flat_strs _, ?_, beq_self_eq_true _, ?_, ?_⟩
            · show (rest.map V.str)[e]? = _
              rw [List.getElem?_map, hby]
              rfl
            · intro m z hm hz'
              cases m with
              | zero =>
                obtain rfl : V.str x = z := by simpa using hz'
                exact beq_eq_false_iff_ne.mpr nby
              | succ m =>
                have hz2 : (rest.map V.str)[m]? = some z := hz'
                rw [List.getElem?_map] at hz2
                cases e2 : rest[m]? with
                | none => rw [e2] at hz2; cases hz2
                | some y =>
                  rw [e2] at hz2
                  obtain rfl : V.str y = z := by injection hz2
                  exact by_before (by rw [he]; omega) e2
            · refine ⟨⟨_, rfl⟩, _, rfl, _, rfl, _, _, rfl, rfl, _, rfl, a, _, rfl, SqL.of ha, fun p np => ?_⟩
              have ep : (upd H p (.lst (cutV ((x :: rest).map V.str) (some (((e + 1 : Nat) : Int) + 1)) none))) p = some (.lst ((rest.drop (e + 1)).map V.str)) := by
                rw [upd_same, show cutV ((x :: rest).map V.str) (some (((e + 1 : Nat) : Int) + 1)) none = ((x :: rest).map V.str).drop (e + 2) from cut_from _ (e + 2), drop_strs]
                rfl
              have s1 : Same H (upd H p (.lst (cutV ((x :: rest).map V.str) (some (((e + 1 : Nat) : Int) + 1)) none))) := same_upd np
              generalize upd H p (.lst (cutV ((x :: rest).map V.str) (some (((e + 1 : Nat) : Int) + 1)) none)) = G1 at ep s1
              have hz2 := sum_drop (x :: rest) (e + 2)
              unfold RowZ at hz
              refine ⟨_, p, rest.drop (e + 1), rfl, rfl, .inl (SqL.of ep), ?_, ?_⟩
              · have el : (" " : Str).length = 1 := by decide +kernel
                rw [el, Nat.mul_one]
                have z : ((rest.drop (e + 1)).map (·.length)).sum + (rest.drop (e + 1)).length ≤ 2000000 := Nat.le_trans hz2 hz
                omega
              · rw [join_eq]
                generalize hmk : Str.join " " (rest.drop (e + 1)) = mk at kn ks
                refine ⟨_, rfl, 2, rfl, _, rfl, _, rfl, a, _, rfl, SqL.of (s1 _ _ ha), fun c nc => ?_⟩
                have ec : (upd G1 c (.lst (cutV ((x :: rest).map V.str) (some 2) (some ((e + 1 : Nat) : Int))))) c = some (.lst (((rest.take e).drop 1).map V.str)) := by
                  rw [upd_same, show cutV ((x :: rest).map V.str) (some 2) (some ((e + 1 : Nat) : Int)) = (((x :: rest).map V.str).take (e + 1)).drop 2 from cut_to _ 2 (e + 1), ← List.map_take, ← List.map_drop]
                  rfl
                have s2 : Same H (upd G1 c (.lst (cutV ((x :: rest).map V.str) (some 2) (some ((e + 1 : Nat) : Int))))) := s1.trans (same_upd nc)
                generalize upd G1 c (.lst (cutV ((x :: rest).map V.str) (some 2) (some ((e + 1 : Nat) : Int)))) = G2 at ec s2
                obtain ⟨b, hat, tb⟩ := makers_at (arity_le x) t0 t1 t2
                refine ⟨_, rfl, _, rfl, a, _, ((0 : Nat) : Int), _, rfl, rfl, SqL.of (s2 _ _ ha), at_str (i := 0) rfl, x, rfl, aM, _, _, _, rfl, rfl, tM.sq, hat, b, _, rfl, .inr tb.sq, rfl, flat_strs _, _, rfl, ?_⟩
                rw [inV_strs]
                cases e3 : (makersOf (arity x)).contains mk with
                | false => exact iteT (iteT (kn (by rw [e3]; rfl) G2 s2))
                | true =>
                  refine iteF ⟨_, rfl, 1, rfl, _, rfl, _, rfl, a, _, rfl, SqL.of (s2 _ _ ha), fun d nd => ?_⟩
                  have ed : (upd G2 d (.lst (cutV ((x :: rest).map V.str) (some 1) (some ((e + 1 : Nat) : Int))))) d = some (.lst ((rest.take e).map V.str)) := by
                    rw [upd_same, show cutV ((x :: rest).map V.str) (some 1) (some ((e + 1 : Nat) : Int)) = (((x :: rest).map V.str).take (e + 1)).drop 1 from cut_to _ 1 (e + 1), ← List.map_take, ← List.map_drop]
                    rfl
                  have s3 : Same G2 (upd G2 d (.lst (cutV ((x :: rest).map V.str) (some 1) (some ((e + 1 : Nat) : Int))))) := same_upd nd
                  generalize upd G2 d (.lst (cutV ((x :: rest).map V.str) (some 1) (some ((e + 1 : Nat) : Int)))) = G3 at ed s3
                  refine ⟨_, rfl, d, q, rest.take e, ps, rfl, ed, SqL.of (s3 _ _ (s2 _ _ hq)), hps, (fun z hz => (hb z (List.mem_cons_of_mem _ (List.mem_of_mem_take hz))).2), o2, fun G4 s4 => ⟨_, rfl, ?_⟩⟩
                  cases e4 : selection (rest.take e) ps with
                  | false => exact iteT (kn (by rw [e3, e4]; rfl) G4 ((s2.trans s3).trans s4))
                  | true =>
                    refine iteF ⟨_, rfl, a, _, ((0 : Nat) : Int), _, rfl, rfl, SqL.of (s4 _ _ (s3 _ _ (s2 _ _ ha))), at_str (i := 0) rfl, _, rfl, c, _, rfl, .inl ⟨SqL.of (s4 _ _ (s3 _ _ ec)), fun c2 nc2 => ⟨_, rfl, by show 3 ≤ sizeLine; decide, fun t nt => ?_⟩⟩⟩
                    exact ks ⟨x, (rest.take e).drop 1, mk⟩ (by rw [e3, e4]; rfl) t _ ((((s2.trans s3).trans s4).trans (same_upd nc2)).trans (same_upd nt)) ⟨c2, upd_same, same_upd nt _ _ upd_same⟩
end
end K04

namespace K04
open PySem PySem.Spec PyProof.Rows L2 EV TL LM
/-! ### an own error with one field, made to be raised -/
def spErr1 (C : Addr) (f : Str) : Sp := fun vs H Q _ => ∃ (H0 : Hp) (a : Addr) (y : V), vs = [.ref a, y] ∧ H = upd H0 a (exo a C none) ∧ H0 a = none ∧
  ∀ H' d, Same H0 H' → H0 d = none → H' a = some (exo a C (some d)) → H' d = some (exd d [(f, y)]) → Q .non H'
theorem same_raise {H0 H2 : Hp} {a d : Addr} {o : HO} (s : Same H0 H2) (na : H0 a = none) (nd : H0 d = none) : Same H0 (upd (del H2 a) d o) := fun b u z => by
  rw [upd_ne (ne_of_none z nd), del_ne (ne_of_none z na)]
  exact s b u z
def hookV : Option Str → V
  | none => .non
  | some h => .str h
theorem hook_non (hk : Option Str) : decide (hookV hk = V.non) = hk.isNone := by cases hk <;> rfl
structure OpsAt (H : Hp) (ts : List V) (ops : List Op) : Prop where
  len : ts.length = ops.length
  op : ∀ (i : Nat) (o : Op), ops[i]? = some o → ∃ t, ts[i]? = some (.ref t) ∧ OpAt H t o
theorem OpsAt.same {H H' : Hp} {ts : List V} {ops : List Op} (h : OpsAt H ts ops) (s : Same H H') : OpsAt H' ts ops :=
  ⟨h.len, fun i r e => let ⟨a, z1, z2⟩ := h.op i r e; ⟨a, z1, z2.same s⟩⟩
theorem OpsAt.tups {H H' : Hp} {ts : List V} {ops : List Op} (h : OpsAt H ts ops) (s : ∀ t xs, H t = some (.tup xs) → H' t = some (.tup xs)) : OpsAt H' ts ops :=
  ⟨h.len, fun i r e => let ⟨a, z1, c, z2, z3⟩ := h.op i r e; ⟨a, z1, c, s _ _ z2, s _ _ z3⟩⟩
theorem OpsAt.nil {H : Hp} : OpsAt H [] [] := ⟨rfl, fun i k e => by simp at e⟩
theorem OpsAt.snoc {H : Hp} {ts : List V} {ops : List Op} {t : Addr} {o : Op} (h : OpsAt H ts ops) (ht : OpAt H t o) : OpsAt H (ts ++ [.ref t]) (ops ++ [o]) := by
  refine ⟨by rw [List.length_append, List.length_append, h.len]; rfl, fun i z e => ?_⟩
  by_cases hi : i < ops.length
  · rw [List.getElem?_append_left hi] at e
    rw [List.getElem?_append_left (by rw [h.len]; exact hi)]
    exact h.op i z e
  · rw [List.getElem?_append_right (Nat.le_of_not_lt hi)] at e
    have e0 : i - ops.length = 0 := by
      cases q : i - ops.length with
      | zero => rfl
      | succ j => rw [q] at e; simp at e
    rw [e0] at e
    obtain rfl : o = z := by simpa using e
    rw [List.getElem?_append_right (by rw [h.len]; exact Nat.le_of_not_lt hi), h.len, e0]
    exact ⟨t, rfl, ht⟩
section
variable {P : Program} {w : World} {K : Fg} {mg : Str → Option Value} {base : Heap}
theorem ok_BadLibrary {f C : Addr} {fd : FuncData} (F : Fun K "__init__" "BadLibrary.__init__" s_BadLibrary___init__ f fd) (x : XCls K C) (n : NoAttr K C "at") : FnOk P w K mg base CX0 1 f fd ["self", "at"] (spErr1 C "at") := by
  refine F.ok sc_BadLibrary___init__ (fun vs H Q E h => ?_) (fun cdv A outer s H vs Q E hr h => ?_)
  · obtain ⟨H0, a, y, rfl, _⟩ := h
    rfl
  · obtain ⟨H0, a, y, rfl, rfl, na, k⟩ := h
    refine ⟨_, pss_one (ps_put1 (pv 0) (pv 1)), ⟨_, rfl, _, rfl, a, C, rfl, x, n, upd_same, fun dx nd ne => ?_⟩⟩
    rw [upd_ne ne] at nd
    refine k _ dx (fun b o z => ?_) nd upd_same ?_
    · rw [upd_ne (ne_of_none z na), upd_ne (ne_of_none z nd), upd_ne (ne_of_none z na)]
      exact z
    · rw [upd_ne ne]
      exact upd_same
/-- an error in the air: its dict -/
def Raised (C : Addr) (f : Str) (y : V) (H : Hp) (E : XK) : Prop := ∀ d H', Same H H' → H' d = some (.xd [(f, y)]) → E (.ref C) (some d) H'
def spOps (CB : Addr) : Sp := fun vs H Q E => ∃ (l q : Addr) (us : List V) (rs : List Rw) (at_ : Nat) (ps : List Str) (hk : Option Str), vs = [.ref l, .int (at_ : Nat), .ref q, hookV hk] ∧ H l = some (.lst us) ∧ RowsAt H us rs ∧
  (∀ r ∈ rs, RowB r ∧ RowZ r ∧ r ≠ []) ∧ rs.length ≤ 2000000 ∧ at_ ≤ rs.length ∧ StrsAt H q ps ∧ ps.length ≤ 1000 ∧ OkW ps ∧
  (∀ k, opsOf rs at_ ps hk = .error k → Raised CB "at" (.int (k : Nat)) H E) ∧
  ∀ ops, opsOf rs at_ ps hk = .ok ops → ∀ p ts H', Same H H' → H p = none → H' p = some (.lst ts) → OpsAt H' ts ops → Q (.ref p) H'
theorem ok_operations_of {f CB : Addr} {fd : FuncData} (F : Fun K "_operations_of" "_operations_of" s_operations_of f fd) (T : Cst K mg) (O_operation_of : Ok P w K mg base 5 "_operation_of" ["row", "parameters"] (spOp K opM))
    (O_BadLibrary : OkC P w K mg base 1 "BadLibrary" CB ["self", "at"] (spErr1 CB "at")) (ty_BadLibrary : PySem.W.typeIn K (.ref CB) = some (.type "type")) :
    FnOk P w K mg base (L2.CX P w) 6 f fd ["rows", "start", "parameters", "root_hook"] (spOps CB) := by
  refine F.okX sc_operations_of (fun vs H Q E h => ?_) (fun cdv A outer s H vs Q E hr h => ?_)
  · obtain ⟨l, q, us, rs, at_, ps, hk, rfl, _⟩ := h
    rfl
  · obtain ⟨l, q, us, rs, at_, ps, hk, rfl, hl, hR, hB, hrs, hat, hq, hps, o2, ke, ko⟩ := h
    refine ⟨_, (pss_cons (ps_if (pt_cmpR op_eq (pv 1) (pe_callB call_len_seq (by rfl) T.n_len (by decide +kernel) (pa_cons (pv 0) pa_nil)) (nomark _)) (pss_one (ps_raise rfl (takes_of rfl rfl rfl rfl) (pmk_x O_BadLibrary ty_BadLibrary (hr.mono (by decide)) (pa_cons (pv 1) pa_nil)))) pss_nil)
    (pss_cons (ps_set (i := 4) sc_operations_of.nd rfl (Or.inl rfl) (pe_lst pa_nil))
    (pss_cons (ps_for (passes_of rfl) rfl (pi_range2 rfl T.n_range (pa_cons (pv 1) (pa_cons (pe_callB call_len_seq (by rfl) T.n_len (by decide +kernel) (pa_cons (pv 0) pa_nil)) pa_nil))) (pg_name (i := 5) sc_operations_of.nd rfl (Or.inl rfl)) (pss_cons (ps_set (i := 6) sc_operations_of.nd rfl (Or.inl rfl) (pe_callO O_operation_of (hr.mono (by decide)) (pa_cons (pe_ix ix_list (pv 0) (pv 5) (fun _ _ => rfl)) (pa_cons (pv 2) pa_nil))))
    (pss_cons (ps_if (PW.pt (pw_or (pt_cmpR op_isN (pv 6) pe_non (nomark _)) (pw_or1 (pt_cmpR op_eq (pe_callB call_len_seq (by rfl) T.n_len (by decide +kernel) (pa_cons (pv 4) pa_nil)) (pe_gv T.g_MOST_OPERATIONS) (nomark _))))) (pss_one (ps_raise rfl (takes_of rfl rfl rfl rfl) (pmk_x O_BadLibrary ty_BadLibrary (hr.mono (by decide)) (pa_cons (pv 5) pa_nil)))) pss_nil)
    (pss_cons (ps_asg (pv 6) (pg_tup rfl (pgs_cons (pg_name (i := 7) sc_operations_of.nd rfl (Or.inl rfl)) (pgs_cons (pg_name (i := 8) sc_operations_of.nd rfl (Or.inl rfl)) (pgs_cons (pg_name (i := 9) sc_operations_of.nd rfl (Or.inl rfl)) pgs_nil)))))
    (pss_cons (ps_if (PW.pt (pw_or (pt_cmpR op_in_seq (pv 7) (pe_lc (own := [("known", 10)]) rfl sc_operations_of.nd (pi_list (pv 4)) (blkOk_by (own := [("known", 10)]) (N := ["rows", "start", "parameters", "root_hook", "found", "at", "operation", "sign", "_", "maker", "known"]) (sc := defScope s_operations_of) (by decide +kernel)) (fun _ _ _ _ _ => (pg_name (i := 10) sc_operations_of.nd rfl (Or.inl rfl))) (fun _ _ _ _ _ => pts_nil) (fun _ _ _ _ _ => (pe_ix (show IxR _ (rIxT K) from ix_tup) (pv 10) pe_int (fun _ _ => rfl)))) (by rfl)) (pw_or1 (PW.pt (pw_and (pt_cmpR op_eq (pv 9) pe_str (nomark _)) (pw_and1 (pt_cmpR op_isN (pv 3) pe_non (nomark _)))))))) (pss_one (ps_raise rfl (takes_of rfl rfl rfl rfl) (pmk_x O_BadLibrary ty_BadLibrary (hr.mono (by decide)) (pa_cons (pv 5) pa_nil)))) pss_nil)
    (pss_one (ps_expr (pe_bm PySem.F.plainAttrs_list PySem.F.slot_list_append PySem.F.type_list_append mt_append (pv 4) (pa_cons (pv 6) pa_nil)))))))))
    (pss_one (ps_ret (pv 4)))))), ?_⟩
    refine ⟨_, rfl, _, rfl, l, _, rfl, .inl (SqL.of hl), rfl, _, rfl, ?_⟩
    rw [len_is, hR.len]
    refine ite2 (fun h1 => ?_) (fun h1 => ?_)
    · have e : opsOf rs at_ ps hk = .error at_ := by
        unfold opsOf
        rw [if_pos (of_decide_eq_true h1)]
      exact ⟨_, rfl, by show 1 ≤ 1000; decide, fun a na => ⟨H, a, _, rfl, rfl, na, fun H' d s1 nd ha hd => ⟨rfl, d, _, ha, hd, nd, ke at_ e d _ (same_raise s1 na nd) upd_same⟩⟩⟩
    · have h1' : at_ ≠ rs.length := fun z => h1 (decide_eq_true z)
      refine ⟨by show 0 ≤ sizeLine; decide, fun p np => ?_⟩
      have e0 : opsOf rs at_ ps hk = opsM ps hk at_ (rs.drop at_) [] := by
        unfold opsOf
        rw [if_neg h1']
      refine ⟨_, rfl, _, rfl, l, _, rfl, .inl (SqL.of (same_upd np _ _ hl)), _, _, rfl, ⟨by omega, by omega, by rw [hR.len]; omega, by rw [hR.len]; omega⟩, ?_⟩
      rw [hR.len]
      refine for_range (lo := (at_ : Int)) (n := (((rs.length : Nat) : Int) - (at_ : Int)).toNat) (fun i σ G => ∃ (found : List Op) (ts : List V) (u1 u2 u3 u4 u5 : Option V),
          σ = [some (.ref l), some (.int (at_ : Nat)), some (.ref q), some (hookV hk), some (.ref p), u1, u2, u3, u4, u5, none] ∧ Same H G ∧ G p = some (.lst ts) ∧ OpsAt G ts found ∧ found.length ≤ 6 ∧
          opsOf rs at_ ps hk = opsM ps hk (at_ + i) (rs.drop (at_ + i)) found)
        ⟨[], [], none, none, none, none, none, rfl, same_upd np, upd_same, OpsAt.nil, by decide, e0⟩ ?_ ?_
      · rintro i σ G hi ⟨found, ts, u1, u2, u3, u4, u5, rfl, s1, hp, hO, hf, hm⟩
        have hlt : at_ + i < rs.length := by omega
        obtain ⟨a, hua, hs⟩ := hR.row _ _ (List.getElem?_eq_getElem hlt)
        obtain ⟨hb1, hz1, hne1⟩ := hB _ (List.getElem_mem hlt)
        have hd : rs.drop (at_ + i) = rs[at_ + i] :: rs.drop (at_ + i + 1) := List.drop_eq_getElem_cons hlt
        rw [hd] at hm
        generalize hrow : rs[at_ + i] = r at hs hb1 hz1 hne1 hm
        have hstep : opsM ps hk (at_ + i) (r :: rs.drop (at_ + i + 1)) found = match opM r ps with
            | none => .error (at_ + i)
            | some o => if found.length = 6 || (found.map (fun z : Op => z.sign)).contains o.sign || (o.maker == "hook" && hk.isNone) then .error (at_ + i) else opsM ps hk (at_ + i + 1) (rs.drop (at_ + i + 1)) (found ++ [o]) := rfl
        rw [hstep] at hm
        refine ⟨_, rfl, _, rfl, l, us, ((at_ + i : Nat) : Int), .ref a, rfl, rfl, SqL.of (s1 _ _ hl), atI_nat hua, _, rfl, a, q, r, ps, rfl, s1 _ _ hs, hb1, hz1, hne1, s1 _ _ hq, hps, o2, fun en G2 s2 => ?_, fun o eo t G2 s2 ht => ?_⟩
        · rw [en] at hm
          exact ⟨_, rfl, rfl, _, rfl, iteT (iteT ⟨_, rfl, by show 1 ≤ 1000; decide, fun a2 na => ⟨G2, a2, _, rfl, rfl, na, fun H' d s3 nd ha hd => ⟨rfl, d, _, ha, hd, nd, ke (at_ + i) hm d _ ((s1.trans s2).trans (same_raise s3 na nd)) upd_same⟩⟩⟩)⟩
        · rw [eo] at hm
          have hp2 := s2 _ _ hp
          refine ⟨_, rfl, rfl, _, rfl, iteF ?_⟩
          refine ⟨_, rfl, p, _, rfl, .inl (SqL.of hp2), rfl, _, rfl, ?_⟩
          rw [hO.len, show (V.int 6 : V) = V.int ((6 : Nat) : Int) from rfl, len_is]
          have hm' : opsOf rs at_ ps hk = if (decide (found.length = 6) || (found.map (fun z : Op => z.sign)).contains o.sign || (o.maker == "hook" && hk.isNone)) = true then .error (at_ + i) else opsM ps hk (at_ + i + 1) (rs.drop (at_ + i + 1)) (found ++ [o]) := hm
          cases e6 : decide (found.length = 6) with
          | true => exact iteT ⟨_, rfl, by show 1 ≤ 1000; decide, fun a2 na => ⟨G2, a2, _, rfl, rfl, na, fun H' d s9 nd ha hd => ⟨rfl, d, _, ha, hd, nd, ke (at_ + i) (by rw [hm', e6]; rfl) d _ ((s1.trans s2).trans (same_raise s9 na nd)) upd_same⟩⟩⟩
          | false =>
            obtain ⟨c, ht1, ht2⟩ := id ht
            refine iteF ⟨_, rfl, t, _, rfl, SqT.of ht1, rfl, _, _, rfl, _, _, rfl, _, _, rfl, rfl, _, rfl, _, rfl, p, rfl, ⟨_, SqL.of hp2⟩, fun D nD => ?_⟩
            refine lc_fm (walk_list (xs := ts)) (fun i => found[i]?.map fun z => V.str z.sign) nD (by rw [hO.len]; omega) (fun _ s => SqL.of (s _ _ hp2)) ?_ ?_
            · rintro j x G3 G4 NT NE hj s3 ⟨rfl, hx⟩ h0 h1
              have hj2 : j < found.length := by rw [← hO.len]; exact hj
              obtain ⟨t', ht', c', hc1, hc2⟩ := (hO.same s2).op j _ (List.getElem?_eq_getElem hj2)
              rw [hx] at ht'
              cases ht'
              refine ⟨rfl, _, rfl, t', _, ((0 : Nat) : Int), _, rfl, rfl, SqT.of (s3 _ _ hc1), atI_nat (j := 0) rfl, h1 _ _ ?_ (Same.refl _)⟩
              show found[j]?.map _ = _
              rw [List.getElem?_eq_getElem hj2]
              rfl
            · intro G3 s3 hD
              rw [gath_map found _ hO.len, show found.map (fun z => V.str z.sign) = (found.map (fun z : Op => z.sign)).map V.str by rw [List.map_map]; rfl] at hD
              have hp3 := s3 _ _ hp2
              have s13 := (s1.trans s2).trans s3
              refine ⟨D, _, rfl, .inl (SqL.of hD), rfl, flat_strs _, _, rfl, ?_⟩
              rw [inV_strs]
              cases ec : (found.map (fun z : Op => z.sign)).contains o.sign with
              | true => exact iteT (iteT ⟨_, rfl, by show 1 ≤ 1000; decide, fun a2 na => ⟨G3, a2, _, rfl, rfl, na, fun H' d s9 nd ha hd => ⟨rfl, d, _, ha, hd, nd, ke (at_ + i) (by rw [hm', e6, ec]; rfl) d _ ((s13).trans (same_raise s9 na nd)) upd_same⟩⟩⟩)
              | false =>
                refine iteF ⟨_, rfl, rfl, _, rfl, ?_⟩
                rw [eq_str]
                cases em : (o.maker == ("hook" : Str)) with
                | false =>
                  refine iteF ?_
                  refine iteF ⟨_, rfl, .inl ⟨rfl, _, SqL.of hp3⟩, _, rfl, p, _, _, rfl, rfl, hp3, by rw [hO.len, sizeLine_eq]; omega, found ++ [o], ts ++ [.ref t], _, _, _, _, _, rfl, same_upd' s13 np, upd_same, ?_, ?_, ?_⟩
                  · refine OpsAt.snoc ((hO.same (s2.trans s3)).tups fun t' xs z => ?_) ?_
                    · rw [upd_ne (ne_of z hp3 (by intro q; cases q))]
                      exact z
                    · obtain ⟨c, z1, z2⟩ := ht.same s3
                      exact ⟨c, by rw [upd_ne (ne_of z1 hp3 (by intro q; cases q))]; exact z1, by rw [upd_ne (ne_of z2 hp3 (by intro q; cases q))]; exact z2⟩
                  · rw [List.length_append]
                    have : found.length ≠ 6 := of_decide_eq_false e6
                    show found.length + 1 ≤ 6
                    omega
                  · rw [hm', e6, ec, em]
                    rfl
                | true =>
                  refine iteT ⟨_, rfl, rfl, _, rfl, ?_⟩
                  rw [hook_non]
                  cases en : hk.isNone with
                  | true => exact iteT ⟨_, rfl, by show 1 ≤ 1000; decide, fun a2 na => ⟨G3, a2, _, rfl, rfl, na, fun H' d s9 nd ha hd => ⟨rfl, d, _, ha, hd, nd, ke (at_ + i) (by rw [hm', e6, ec, em, en]; rfl) d _ ((s13).trans (same_raise s9 na nd)) upd_same⟩⟩⟩
                  | false =>
                    refine iteF ⟨_, rfl, .inl ⟨rfl, _, SqL.of hp3⟩, _, rfl, p, _, _, rfl, rfl, hp3, by rw [hO.len, sizeLine_eq]; omega, found ++ [o], ts ++ [.ref t], _, _, _, _, _, rfl, same_upd' s13 np, upd_same, ?_, ?_, ?_⟩
                    · refine OpsAt.snoc ((hO.same (s2.trans s3)).tups fun t' xs z => ?_) ?_
                      · rw [upd_ne (ne_of z hp3 (by intro q; cases q))]
                        exact z
                      · obtain ⟨c, z1, z2⟩ := ht.same s3
                        exact ⟨c, by rw [upd_ne (ne_of z1 hp3 (by intro q; cases q))]; exact z1, by rw [upd_ne (ne_of z2 hp3 (by intro q; cases q))]; exact z2⟩
                    · rw [List.length_append]
                      have : found.length ≠ 6 := of_decide_eq_false e6
                      show found.length + 1 ≤ 6
                      omega
                    · rw [hm', e6, ec, em, en]
                      rfl
      · rintro σ G ⟨found, ts, u1, u2, u3, u4, u5, rfl, s1, hp, hO, hf, hm⟩
        have en : rs.drop (at_ + (((rs.length : Nat) : Int) - (at_ : Int)).toNat) = [] := List.drop_of_length_le (by omega)
        rw [en] at hm
        exact ⟨_, rfl, ko found hm p ts G s1 np hp hO⟩
end
end K04

namespace K04
open PySem PySem.Spec PyProof.Rows L2 EV TL LM
def SqX (b : Bool) (K : Fg) (H : Hp) (a : Addr) (xs : List V) : Prop := match b with
  | true => SqT K H a xs
  | false => SqL K H a xs
theorem SqT.same {K : Fg} {H H' : Hp} {a : Addr} {xs : List V} (e : Same H H') (h : SqT K H a xs) : SqT K H' a xs := by
  rcases h with (h | ⟨o, h⟩) | h
  · exact .inl (.inl (e _ _ h))
  · exact .inl (.inr ⟨o, e _ _ h⟩)
  · exact .inr h
theorem SqX.same {b : Bool} {K : Fg} {H H' : Hp} {a : Addr} {xs : List V} (h : SqX b K H a xs) (e : Same H H') : SqX b K H' a xs := by
  cases b with
  | true => exact SqT.same e h
  | false => exact e.seq h
theorem app_empty (x : Str) : Str.empty ++ x = x := ext_tl (by rw [tl_append]; rfl)
theorem len_app (x y : Str) : (x ++ y).length = x.length + y.length := by rw [len_tl, len_tl, len_tl, tl_append, List.length_append]
theorem pair_at {H : Hp} {ts : List V} {ks : List (Str × Str)} (h : PairsAt H ts ks) {i : Nat} {x : V} (hx : ts[i]? = some x) : ∃ k t, ks[i]? = some k ∧ x = .ref t ∧ H t = some (.tup [.str k.1, .str k.2]) := by
  have hi : i < ks.length := by
    rw [← h.len]
    exact (List.getElem?_eq_some_iff.mp hx).1
  obtain ⟨t, z1, z2⟩ := h.pair i _ (List.getElem?_eq_getElem hi)
  rw [hx] at z1
  cases z1
  exact ⟨_, t, List.getElem?_eq_getElem hi, rfl, z2⟩
theorem l_e : Str.empty.length = 0 := rfl
theorem l_lib : ("library " : Str).length = 8 := by decide +kernel
theorem l_needs : ("needs " : Str).length = 6 := by decide +kernel
theorem l_keeps : ("keeps " : Str).length = 6 := by decide +kernel
theorem l_of : (" of " : Str).length = 4 := by decide +kernel
theorem l_hook : ("hook " : Str).length = 5 := by decide +kernel
section
variable {P : Program} {w : World} {K : Fg} {mg : Str → Option Value} {base : Heap}
def Short (w : Str) : Prop := w.length ≤ 1000
def spRootLines (K : Fg) : Sp := fun vs H Q _ => ∃ (bt : Bool) (a b : Addr) (n : Str) (ps : List Str) (ts : List V) (kept : List (Str × Str)) (hk : Option Str), vs = [.str n, .ref a, .ref b, hookV hk] ∧ SqX bt K H a (ps.map V.str) ∧ SqX bt K H b ts ∧ PairsAt H ts kept ∧
  Short n ∧ (∀ p ∈ ps, Short p) ∧ (∀ p ∈ kept, Short p.1 ∧ Short p.2) ∧ (∀ h, hk = some h → Short h) ∧ ps.length ≤ 1000 ∧ kept.length ≤ 1000 ∧
  ∀ p H', Same H H' → H p = none → StrsAt H' p (rootLines n ps kept hk) → Q (.ref p) H'
theorem ok_root_lines {f : Addr} {fd : FuncData} (F : Fun K "_root_lines" "_root_lines" s_root_lines f fd) (T : Cst K mg) : FnOk P w K mg base CX0 1 f fd ["name", "parameters", "kept", "hook"] (spRootLines K) := by
  refine F.ok sc_root_lines (fun vs H Q E h => ?_) (fun cdv A outer s H vs Q E hr h => ?_)
  · obtain ⟨bt, a, b, n, ps, ts, kept, hk, rfl, _⟩ := h
    rfl
  · obtain ⟨bt, a, b, n, ps, ts, kept, hk, rfl, ha, hb, hP, hn, sp, sk, sh, lp, lk, k⟩ := h
    cases bt with
    | true =>
      refine ⟨_, (pss_cons (ps_set (i := 4) sc_root_lines.nd rfl (Or.inl rfl) (pe_lst (pa_cons (pe_joinedT (.cons pe_str (.cons (pe_fmt (pv 0)) .nil))) pa_nil)))
    (pss_cons (ps_expr (pe_bm PySem.F.plainAttrs_list PySem.F.slot_list_extend PySem.F.type_list_extend mt_extend (pv 4) (pa_cons (pe_lc (own := [("field", 5)]) rfl sc_root_lines.nd (pi_tup (pv 1)) (blkOk_by (own := [("field", 5)]) (N := ["name", "parameters", "kept", "hook", "lines", "field", "source"]) (sc := defScope s_root_lines) (by decide +kernel)) (fun _ _ _ _ _ => (pg_name (i := 5) sc_root_lines.nd rfl (Or.inl rfl))) (fun _ _ _ _ _ => pts_nil) (fun _ _ _ _ _ => (pe_joinedT (.cons pe_str (.cons (pe_fmt (pv 5)) .nil))))) pa_nil)))
    (pss_cons (ps_expr (pe_bm PySem.F.plainAttrs_list PySem.F.slot_list_extend PySem.F.type_list_extend mt_extend (pv 4) (pa_cons (pe_lc (own := [("field", 5), ("source", 6)]) rfl sc_root_lines.nd (pi_tup (pv 2)) (blkOk_by (own := [("field", 5), ("source", 6)]) (N := ["name", "parameters", "kept", "hook", "lines", "field", "source"]) (sc := defScope s_root_lines) (by decide +kernel)) (fun _ _ _ _ _ => (pg_pair (K := K) 5 6 rfl sc_root_lines.nd rfl rfl rfl rfl)) (fun _ _ _ _ _ => pts_nil) (fun _ _ _ _ _ => (pe_joinedT (.cons pe_str (.cons (pe_fmt (pv 5)) (.cons pe_str (.cons (pe_fmt (pv 6)) .nil))))))) pa_nil)))
    (pss_cons (ps_if (pt_cmpR op_notN (pv 3) pe_non (nomark _)) (pss_one (ps_expr (pe_bm PySem.F.plainAttrs_list PySem.F.slot_list_append PySem.F.type_list_append mt_append (pv 4) (pa_cons (pe_joinedT (.cons pe_str (.cons (pe_fmt (pv 3)) .nil))) pa_nil)))) pss_nil)
    (pss_one (ps_ret (pv 4))))))), ?_⟩
      have hn' : n.length ≤ 1000 := hn
      refine ⟨_, rfl, by rw [sizeLine_eq]; (try simp only [len_app, l_e, l_lib, l_needs, l_keeps, l_of, l_hook]); omega, _, rfl, .inl ⟨n, rfl, by rw [sizeLine_eq]; (try simp only [len_app, l_e, l_lib, l_needs, l_keeps, l_of, l_hook]); omega, _, rfl, by rw [sizeLine_eq]; (try simp only [len_app, l_e, l_lib, l_needs, l_keeps, l_of, l_hook]); omega, by show 1 ≤ sizeLine; decide, fun p np => ?_⟩⟩
      have ep : upd H p (.lst [V.str (Str.empty ++ ("library " : Str) ++ n)]) p = some (.lst [V.str (("library " : Str) ++ n)]) := by rw [upd_same, app_empty]
      have s1 : Same H (upd H p (.lst [V.str (Str.empty ++ ("library " : Str) ++ n)])) := same_upd np
      generalize upd H p (.lst [V.str (Str.empty ++ ("library " : Str) ++ n)]) = G1 at ep s1
      refine ⟨_, rfl, .inl ⟨rfl, _, SqL.of ep⟩, _, rfl, a, rfl, ⟨_, (SqX.same ha s1 : SqX true K G1 a _)⟩, fun D nD => ?_⟩
      refine lc_fm (walk_tup (xs := ps.map V.str)) (fun i => ps[i]?.map fun q => V.str (("needs " : Str) ++ q)) nD (by rw [List.length_map]; omega) (fun _ s => ((SqX.same ha s1).same s : SqX true K _ a _)) ?_ ?_
      · rintro i x G2 G3 NT NE hi s2 ⟨rfl, hx⟩ h0 h1
        obtain ⟨q, hq, rfl⟩ : ∃ q, ps[i]? = some q ∧ V.str q = x := by
          rw [List.getElem?_map] at hx
          cases e : ps[i]? with
          | none => rw [e] at hx; cases hx
          | some q => rw [e] at hx; exact ⟨q, rfl, by injection hx⟩
        have hq' : q.length ≤ 1000 := sp q (List.mem_of_getElem? hq)
        refine ⟨rfl, _, rfl, by rw [sizeLine_eq]; (try simp only [len_app, l_e, l_lib, l_needs, l_keeps, l_of, l_hook]); omega, _, rfl, .inl ⟨q, rfl, by rw [sizeLine_eq]; (try simp only [len_app, l_e, l_lib, l_needs, l_keeps, l_of, l_hook]); omega, _, rfl, by rw [sizeLine_eq]; (try simp only [len_app, l_e, l_lib, l_needs, l_keeps, l_of, l_hook]); omega, h1 _ _ ?_ (Same.refl _)⟩⟩
        show ps[i]?.map _ = _
        rw [hq, app_empty]
        rfl
      · intro G2 s2 hD
        rw [gath_map ps _ (by rw [List.length_map])] at hD
        refine ⟨p, D, _, _, rfl, rfl, s2 _ _ ep, hD, by rw [List.length_map, sizeLine_eq]; show 1 + _ ≤ _; omega, ?_⟩
        have ep2 : upd G2 p (.lst ([V.str (("library " : Str) ++ n)] ++ ps.map fun q => V.str (("needs " : Str) ++ q))) p = some (.lst (([("library " : Str) ++ n] ++ ps.map fun q => ("needs " : Str) ++ q).map V.str)) := by
          rw [upd_same, List.map_append, List.map_map]
          rfl
        have s12 : Same H (upd G2 p (.lst ([V.str (("library " : Str) ++ n)] ++ ps.map fun q => V.str (("needs " : Str) ++ q)))) := same_upd' (s1.trans s2) np
        generalize upd G2 p (.lst ([V.str (("library " : Str) ++ n)] ++ ps.map fun q => V.str (("needs " : Str) ++ q))) = G3 at ep2 s12
        refine ⟨_, rfl, .inl ⟨rfl, _, SqL.of ep2⟩, _, rfl, b, rfl, ⟨_, (SqX.same hb s12 : SqX true K G3 b _)⟩, fun D2 nD2 => ?_⟩
        refine lc_fm (walk_tup (xs := ts)) (fun i => kept[i]?.map fun q => V.str (("keeps " : Str) ++ q.1 ++ (" of " : Str) ++ q.2)) nD2 (by rw [hP.len]; omega) (fun _ s => ((SqX.same hb s12).same s : SqX true K _ b _)) ?_ ?_
        · rintro i x G4 G5 NT NE hi s4 ⟨rfl, hx⟩ h0 h1
          obtain ⟨q, t, hq, rfl, ht⟩ := pair_at (hP.same (s12.trans s4)) hx
          have hq1 : q.1.length ≤ 1000 := (sk q (List.mem_of_getElem? hq)).1
          have hq2 : q.2.length ≤ 1000 := (sk q (List.mem_of_getElem? hq)).2
          refine ⟨t, _, rfl, SqT.of ht, rfl, _, _, rfl, _, _, rfl, rfl, rfl, _, rfl, by rw [sizeLine_eq]; (try simp only [len_app, l_e, l_lib, l_needs, l_keeps, l_of, l_hook]); omega, _, rfl, .inl ⟨q.1, rfl, by rw [sizeLine_eq]; (try simp only [len_app, l_e, l_lib, l_needs, l_keeps, l_of, l_hook]); omega, _, rfl, by rw [sizeLine_eq]; (try simp only [len_app, l_e, l_lib, l_needs, l_keeps, l_of, l_hook]); omega, _, rfl, by rw [sizeLine_eq]; (try simp only [len_app, l_e, l_lib, l_needs, l_keeps, l_of, l_hook]); omega, _, rfl, .inl ⟨q.2, rfl, by rw [sizeLine_eq]; (try simp only [len_app, l_e, l_lib, l_needs, l_keeps, l_of, l_hook]); omega, _, rfl, by rw [sizeLine_eq]; (try simp only [len_app, l_e, l_lib, l_needs, l_keeps, l_of, l_hook]); omega, h1 _ _ ?_ (Same.refl _)⟩⟩⟩
          show kept[i]?.map _ = _
          rw [hq, app_empty]
          rfl
        · intro G4 s4 hD2
          rw [gath_map kept _ hP.len] at hD2
          refine ⟨p, D2, _, _, rfl, rfl, s4 _ _ ep2, hD2, by simp only [List.length_map, List.length_append, List.length_cons, List.length_nil]; rw [sizeLine_eq]; omega, ?_⟩
          have ep3 : upd G4 p (.lst ((([("library " : Str) ++ n] ++ ps.map fun q => ("needs " : Str) ++ q).map V.str) ++ kept.map fun q => V.str (("keeps " : Str) ++ q.1 ++ (" of " : Str) ++ q.2))) p =
              some (.lst (([("library " : Str) ++ n] ++ ps.map (fun q => ("needs " : Str) ++ q) ++ kept.map fun q => ("keeps " : Str) ++ q.1 ++ (" of " : Str) ++ q.2).map V.str)) := by
            rw [upd_same, List.map_append (l₂ := kept.map _), List.map_map (l := kept)]
            rfl
          have s14 : Same H (upd G4 p (.lst ((([("library " : Str) ++ n] ++ ps.map fun q => ("needs " : Str) ++ q).map V.str) ++ kept.map fun q => V.str (("keeps " : Str) ++ q.1 ++ (" of " : Str) ++ q.2)))) := same_upd' (s12.trans s4) np
          generalize upd G4 p (.lst ((([("library " : Str) ++ n] ++ ps.map fun q => ("needs " : Str) ++ q).map V.str) ++ kept.map fun q => V.str (("keeps " : Str) ++ q.1 ++ (" of " : Str) ++ q.2))) = G5 at ep3 s14
          cases hk with
          | none =>
            refine ⟨_, rfl, rfl, _, rfl, iteF ⟨_, rfl, k p G5 s14 np ?_⟩⟩
            unfold rootLines
            rw [List.append_nil]
            exact ep3
          | some h =>
            have hh : h.length ≤ 1000 := sh h rfl
            refine ⟨_, rfl, rfl, _, rfl, iteT ⟨_, rfl, .inl ⟨rfl, _, SqL.of ep3⟩, _, rfl, by rw [sizeLine_eq]; (try simp only [len_app, l_e, l_lib, l_needs, l_keeps, l_of, l_hook]); omega, _, rfl, .inl ⟨h, rfl, by rw [sizeLine_eq]; (try simp only [len_app, l_e, l_lib, l_needs, l_keeps, l_of, l_hook]); omega, _, rfl, by rw [sizeLine_eq]; (try simp only [len_app, l_e, l_lib, l_needs, l_keeps, l_of, l_hook]); omega, p, _, _, rfl, rfl, ep3, by simp only [List.length_map, List.length_append, List.length_cons, List.length_nil]; rw [sizeLine_eq]; omega, _, rfl, k p _ (same_upd' s14 np) np ?_⟩⟩⟩
            unfold rootLines StrsAt
            rw [upd_same, List.map_append (l₂ := [("hook " : Str) ++ h]), app_empty]
            rfl
    | false =>
      refine ⟨_, (pss_cons (ps_set (i := 4) sc_root_lines.nd rfl (Or.inl rfl) (pe_lst (pa_cons (pe_joinedT (.cons pe_str (.cons (pe_fmt (pv 0)) .nil))) pa_nil)))
    (pss_cons (ps_expr (pe_bm PySem.F.plainAttrs_list PySem.F.slot_list_extend PySem.F.type_list_extend mt_extend (pv 4) (pa_cons (pe_lc (own := [("field", 5)]) rfl sc_root_lines.nd (pi_list (pv 1)) (blkOk_by (own := [("field", 5)]) (N := ["name", "parameters", "kept", "hook", "lines", "field", "source"]) (sc := defScope s_root_lines) (by decide +kernel)) (fun _ _ _ _ _ => (pg_name (i := 5) sc_root_lines.nd rfl (Or.inl rfl))) (fun _ _ _ _ _ => pts_nil) (fun _ _ _ _ _ => (pe_joinedT (.cons pe_str (.cons (pe_fmt (pv 5)) .nil))))) pa_nil)))
    (pss_cons (ps_expr (pe_bm PySem.F.plainAttrs_list PySem.F.slot_list_extend PySem.F.type_list_extend mt_extend (pv 4) (pa_cons (pe_lc (own := [("field", 5), ("source", 6)]) rfl sc_root_lines.nd (pi_list (pv 2)) (blkOk_by (own := [("field", 5), ("source", 6)]) (N := ["name", "parameters", "kept", "hook", "lines", "field", "source"]) (sc := defScope s_root_lines) (by decide +kernel)) (fun _ _ _ _ _ => (pg_pair (K := K) 5 6 rfl sc_root_lines.nd rfl rfl rfl rfl)) (fun _ _ _ _ _ => pts_nil) (fun _ _ _ _ _ => (pe_joinedT (.cons pe_str (.cons (pe_fmt (pv 5)) (.cons pe_str (.cons (pe_fmt (pv 6)) .nil))))))) pa_nil)))
    (pss_cons (ps_if (pt_cmpR op_notN (pv 3) pe_non (nomark _)) (pss_one (ps_expr (pe_bm PySem.F.plainAttrs_list PySem.F.slot_list_append PySem.F.type_list_append mt_append (pv 4) (pa_cons (pe_joinedT (.cons pe_str (.cons (pe_fmt (pv 3)) .nil))) pa_nil)))) pss_nil)
    (pss_one (ps_ret (pv 4))))))), ?_⟩
      have hn' : n.length ≤ 1000 := hn
      refine ⟨_, rfl, by rw [sizeLine_eq]; (try simp only [len_app, l_e, l_lib, l_needs, l_keeps, l_of, l_hook]); omega, _, rfl, .inl ⟨n, rfl, by rw [sizeLine_eq]; (try simp only [len_app, l_e, l_lib, l_needs, l_keeps, l_of, l_hook]); omega, _, rfl, by rw [sizeLine_eq]; (try simp only [len_app, l_e, l_lib, l_needs, l_keeps, l_of, l_hook]); omega, by show 1 ≤ sizeLine; decide, fun p np => ?_⟩⟩
      have ep : upd H p (.lst [V.str (Str.empty ++ ("library " : Str) ++ n)]) p = some (.lst [V.str (("library " : Str) ++ n)]) := by rw [upd_same, app_empty]
      have s1 : Same H (upd H p (.lst [V.str (Str.empty ++ ("library " : Str) ++ n)])) := same_upd np
      generalize upd H p (.lst [V.str (Str.empty ++ ("library " : Str) ++ n)]) = G1 at ep s1
      refine ⟨_, rfl, .inl ⟨rfl, _, SqL.of ep⟩, _, rfl, a, rfl, ⟨_, (SqX.same ha s1 : SqX false K G1 a _)⟩, fun D nD => ?_⟩
      refine lc_fm (walk_list (xs := ps.map V.str)) (fun i => ps[i]?.map fun q => V.str (("needs " : Str) ++ q)) nD (by rw [List.length_map]; omega) (fun _ s => ((SqX.same ha s1).same s : SqX false K _ a _)) ?_ ?_
      · rintro i x G2 G3 NT NE hi s2 ⟨rfl, hx⟩ h0 h1
        obtain ⟨q, hq, rfl⟩ : ∃ q, ps[i]? = some q ∧ V.str q = x := by
          rw [List.getElem?_map] at hx
          cases e : ps[i]? with
          | none => rw [e] at hx; cases hx
          | some q => rw [e] at hx; exact ⟨q, rfl, by injection hx⟩
        have hq' : q.length ≤ 1000 := sp q (List.mem_of_getElem? hq)
        refine ⟨rfl, _, rfl, by rw [sizeLine_eq]; (try simp only [len_app, l_e, l_lib, l_needs, l_keeps, l_of, l_hook]); omega, _, rfl, .inl ⟨q, rfl, by rw [sizeLine_eq]; (try simp only [len_app, l_e, l_lib, l_needs, l_keeps, l_of, l_hook]); omega, _, rfl, by rw [sizeLine_eq]; (try simp only [len_app, l_e, l_lib, l_needs, l_keeps, l_of, l_hook]); omega, h1 _ _ ?_ (Same.refl _)⟩⟩
        show ps[i]?.map _ = _
        rw [hq, app_empty]
        rfl
      · intro G2 s2 hD
        rw [gath_map ps _ (by rw [List.length_map])] at hD
        refine ⟨p, D, _, _, rfl, rfl, s2 _ _ ep, hD, by rw [List.length_map, sizeLine_eq]; show 1 + _ ≤ _; omega, ?_⟩
        have ep2 : upd G2 p (.lst ([V.str (("library " : Str) ++ n)] ++ ps.map fun q => V.str (("needs " : Str) ++ q))) p = some (.lst (([("library " : Str) ++ n] ++ ps.map fun q => ("needs " : Str) ++ q).map V.str)) := by
          rw [upd_same, List.map_append, List.map_map]
          rfl
        have s12 : Same H (upd G2 p (.lst ([V.str (("library " : Str) ++ n)] ++ ps.map fun q => V.str (("needs " : Str) ++ q)))) := same_upd' (s1.trans s2) np
        generalize upd G2 p (.lst ([V.str (("library " : Str) ++ n)] ++ ps.map fun q => V.str (("needs " : Str) ++ q))) = G3 at ep2 s12
        refine ⟨_, rfl, .inl ⟨rfl, _, SqL.of ep2⟩, _, rfl, b, rfl, ⟨_, (SqX.same hb s12 : SqX false K G3 b _)⟩, fun D2 nD2 => ?_⟩
        refine lc_fm (walk_list (xs := ts)) (fun i => kept[i]?.map fun q => V.str (("keeps " : Str) ++ q.1 ++ (" of " : Str) ++ q.2)) nD2 (by rw [hP.len]; omega) (fun _ s => ((SqX.same hb s12).same s : SqX false K _ b _)) ?_ ?_
        · rintro i x G4 G5 NT NE hi s4 ⟨rfl, hx⟩ h0 h1
          obtain ⟨q, t, hq, rfl, ht⟩ := pair_at (hP.same (s12.trans s4)) hx
          have hq1 : q.1.length ≤ 1000 := (sk q (List.mem_of_getElem? hq)).1
          have hq2 : q.2.length ≤ 1000 := (sk q (List.mem_of_getElem? hq)).2
          refine ⟨t, _, rfl, SqT.of ht, rfl, _, _, rfl, _, _, rfl, rfl, rfl, _, rfl, by rw [sizeLine_eq]; (try simp only [len_app, l_e, l_lib, l_needs, l_keeps, l_of, l_hook]); omega, _, rfl, .inl ⟨q.1, rfl, by rw [sizeLine_eq]; (try simp only [len_app, l_e, l_lib, l_needs, l_keeps, l_of, l_hook]); omega, _, rfl, by rw [sizeLine_eq]; (try simp only [len_app, l_e, l_lib, l_needs, l_keeps, l_of, l_hook]); omega, _, rfl, by rw [sizeLine_eq]; (try simp only [len_app, l_e, l_lib, l_needs, l_keeps, l_of, l_hook]); omega, _, rfl, .inl ⟨q.2, rfl, by rw [sizeLine_eq]; (try simp only [len_app, l_e, l_lib, l_needs, l_keeps, l_of, l_hook]); omega, _, rfl, by rw [sizeLine_eq]; (try simp only [len_app, l_e, l_lib, l_needs, l_keeps, l_of, l_hook]); omega, h1 _ _ ?_ (Same.refl _)⟩⟩⟩
          show kept[i]?.map _ = _
          rw [hq, app_empty]
          rfl
        · intro G4 s4 hD2
          rw [gath_map kept _ hP.len] at hD2
          refine ⟨p, D2, _, _, rfl, rfl, s4 _ _ ep2, hD2, by simp only [List.length_map, List.length_append, List.length_cons, List.length_nil]; rw [sizeLine_eq]; omega, ?_⟩
          have ep3 : upd G4 p (.lst ((([("library " : Str) ++ n] ++ ps.map fun q => ("needs " : Str) ++ q).map V.str) ++ kept.map fun q => V.str (("keeps " : Str) ++ q.1 ++ (" of " : Str) ++ q.2))) p =
              some (.lst (([("library " : Str) ++ n] ++ ps.map (fun q => ("needs " : Str) ++ q) ++ kept.map fun q => ("keeps " : Str) ++ q.1 ++ (" of " : Str) ++ q.2).map V.str)) := by
            rw [upd_same, List.map_append (l₂ := kept.map _), List.map_map (l := kept)]
            rfl
          have s14 : Same H (upd G4 p (.lst ((([("library " : Str) ++ n] ++ ps.map fun q => ("needs " : Str) ++ q).map V.str) ++ kept.map fun q => V.str (("keeps " : Str) ++ q.1 ++ (" of " : Str) ++ q.2)))) := same_upd' (s12.trans s4) np
          generalize upd G4 p (.lst ((([("library " : Str) ++ n] ++ ps.map fun q => ("needs " : Str) ++ q).map V.str) ++ kept.map fun q => V.str (("keeps " : Str) ++ q.1 ++ (" of " : Str) ++ q.2))) = G5 at ep3 s14
          cases hk with
          | none =>
            refine ⟨_, rfl, rfl, _, rfl, iteF ⟨_, rfl, k p G5 s14 np ?_⟩⟩
            unfold rootLines
            rw [List.append_nil]
            exact ep3
          | some h =>
            have hh : h.length ≤ 1000 := sh h rfl
            refine ⟨_, rfl, rfl, _, rfl, iteT ⟨_, rfl, .inl ⟨rfl, _, SqL.of ep3⟩, _, rfl, by rw [sizeLine_eq]; (try simp only [len_app, l_e, l_lib, l_needs, l_keeps, l_of, l_hook]); omega, _, rfl, .inl ⟨h, rfl, by rw [sizeLine_eq]; (try simp only [len_app, l_e, l_lib, l_needs, l_keeps, l_of, l_hook]); omega, _, rfl, by rw [sizeLine_eq]; (try simp only [len_app, l_e, l_lib, l_needs, l_keeps, l_of, l_hook]); omega, p, _, _, rfl, rfl, ep3, by simp only [List.length_map, List.length_append, List.length_cons, List.length_nil]; rw [sizeLine_eq]; omega, _, rfl, k p _ (same_upd' s14 np) np ?_⟩⟩⟩
            unfold rootLines StrsAt
            rw [upd_same, List.map_append (l₂ := [("hook " : Str) ++ h]), app_empty]
            rfl
end
end K04

namespace K04
open PySem PySem.Spec PyProof.Rows L2 EV TL LM
theorem join_app (s : Str) : ∀ (xs ys : List Str), xs ≠ [] → ys ≠ [] → Str.join s (xs ++ ys) = Str.join s xs ++ s ++ Str.join s ys
  | [], _, h, _ => absurd rfl h
  | [x], [], _, h => absurd rfl h
  | [x], y :: ys, _, _ => rfl
  | x :: z :: xs, ys, _, hy => by
    show x ++ s ++ Str.join s ((z :: xs) ++ ys) = x ++ s ++ Str.join s (z :: xs) ++ s ++ Str.join s ys
    rw [join_app s (z :: xs) ys (by simp) hy]
    simp only [app_assoc]
theorem op_join0 (s m : Str) : Str.join " " ([s] ++ [("by" : Str), m]) = s ++ (" by " : Str) ++ m := by
  have e2 : (" by " : Str) = (" " : Str) ++ ("by" : Str) ++ (" " : Str) := by decide +kernel
  rw [join_app _ _ _ (by simp) (by simp), e2]
  show s ++ (" " : Str) ++ (("by" : Str) ++ (" " : Str) ++ m) = _
  simp only [app_assoc]
theorem op_join1 (s m : Str) {ch : List Str} (h : ch ≠ []) : Str.join " " (s :: ("changes" : Str) :: ch ++ [("by" : Str), m]) = s ++ (" changes " : Str) ++ Str.join " " ch ++ (" by " : Str) ++ m := by
  have e2 : (" by " : Str) = (" " : Str) ++ ("by" : Str) ++ (" " : Str) := by decide +kernel
  have e3 : (" changes " : Str) = (" " : Str) ++ ("changes" : Str) ++ (" " : Str) := by decide +kernel
  rw [join_app _ _ _ (by simp) (by simp), show s :: ("changes" : Str) :: ch = [s, ("changes" : Str)] ++ ch from rfl, join_app _ _ _ (by simp) h, e2, e3]
  show s ++ (" " : Str) ++ ("changes" : Str) ++ (" " : Str) ++ Str.join " " ch ++ (" " : Str) ++ (("by" : Str) ++ (" " : Str) ++ m) = _
  simp only [app_assoc]
theorem sum_short : ∀ {ws : List Str} {b : Nat}, (∀ w ∈ ws, w.length ≤ b) → (ws.map (·.length)).sum ≤ ws.length * b
  | [], _, _ => by simp
  | w :: ws, b, h => by
    have h1 := h w (List.mem_cons_self ..)
    have h2 := sum_short fun z hz => h z (List.mem_cons_of_mem _ hz)
    simp only [List.map_cons, List.sum_cons, List.length_cons, Nat.succ_mul]
    omega
theorem l_make : ("make " : Str).length = 5 := by decide +kernel
theorem l_by : (" by " : Str).length = 4 := by decide +kernel
section
variable {P : Program} {w : World} {K : Fg} {mg : Str → Option Value} {base : Heap}
def spOpLine (K : Fg) : Sp := fun vs H Q _ => ∃ (c : Addr) (s m : Str) (ch : List Str), vs = [.str s, .ref c, .str m] ∧ SqT K H c (ch.map V.str) ∧ Short s ∧ Short m ∧ (∀ p ∈ ch, Short p) ∧ ch.length ≤ 100 ∧
  ∀ H', Same H H' → Q (.str (opLine ⟨s, ch, m⟩)) H'
theorem ok_operation_line {f : Addr} {fd : FuncData} (F : Fun K "_operation_line" "_operation_line" s_operation_line f fd) (T : Cst K mg) (O_arity_of : Ok P w K mg base 1 "arity_of" ["sign"] spArity) :
    FnOk P w K mg base CX0 2 f fd ["sign", "changed", "maker"] (spOpLine K) := by
  refine F.ok sc_operation_line (fun vs H Q E h => ?_) (fun cdv A outer s H vs Q E hr h => ?_)
  · obtain ⟨c, s, m, ch, rfl, _⟩ := h
    rfl
  · obtain ⟨c, s, m, ch, rfl, hc, hs, hm, hch, hl, k⟩ := h
    refine ⟨_, (pss_cons (ps_if (pt_cmpR op_eq (pe_callO O_arity_of (hr.mono (by decide)) (pa_cons (pv 0) pa_nil)) pe_int (nomark _)) (pss_one (ps_ret (pe_joinedT (.cons pe_str (.cons (pe_fmt (pv 0)) (.cons pe_str (.cons (pe_fmt (pv 2)) .nil))))))) pss_nil)
    (pss_cons (ps_set (i := 3) sc_operation_line.nd rfl (Or.inl rfl) (pe_lst (pa_cons (pv 0) pa_nil)))
    (pss_cons (ps_if (pt_truth (pv 1) (by intro _; rfl)) (pss_one (ps_set (i := 3) sc_operation_line.nd rfl (Or.inl rfl) (pe_lst (pa_cons (pv 0) (pa_cons pe_str (StX.pa_star (pv 1) pa_nil)))))) pss_nil)
    (pss_one (ps_ret (pe_join pe_str (pe_lst (StX.pa_star (pv 3) (pa_cons pe_str (pa_cons (pv 2) pa_nil)))))))))), ?_⟩
    have hs' : s.length ≤ 1000 := hs
    have hm' : m.length ≤ 1000 := hm
    refine ⟨_, rfl, s, rfl, rfl, _, rfl, ?_⟩
    rw [show (V.int 0 : V) = V.int ((0 : Nat) : Int) from rfl, len_is]
    have kk : ∀ H', Same H H' → Q (.str (if arity s = 0 then ("make " : Str) ++ s ++ (" by " : Str) ++ m else if ch = [] then s ++ (" by " : Str) ++ m else s ++ (" changes " : Str) ++ Str.join " " ch ++ (" by " : Str) ++ m)) H' := k
    refine ite2 (fun h0 => ?_) (fun h0 => ?_)
    · rw [if_pos (of_decide_eq_true h0)] at kk
      refine ⟨_, rfl, by rw [sizeLine_eq]; (try simp only [len_app, l_e, l_make, l_by]); omega, _, rfl, .inl ⟨s, rfl, by rw [sizeLine_eq]; (try simp only [len_app, l_e, l_make, l_by]); omega, _, rfl, by rw [sizeLine_eq]; (try simp only [len_app, l_e, l_make, l_by]); omega, _, rfl, by rw [sizeLine_eq]; (try simp only [len_app, l_e, l_make, l_by]); omega, _, rfl, .inl ⟨m, rfl, by rw [sizeLine_eq]; (try simp only [len_app, l_e, l_make, l_by]); omega, _, rfl, by rw [sizeLine_eq]; (try simp only [len_app, l_e, l_make, l_by]); omega, ?_⟩⟩⟩
      rw [app_empty]
      exact kk H (Same.refl _)
    · rw [if_neg (fun z => h0 (decide_eq_true z))] at kk
      refine ⟨_, rfl, by show 1 ≤ sizeLine; decide, fun p np => ?_⟩
      have ep : upd H p (.lst [V.str s]) p = some (.lst ([s].map V.str)) := upd_same
      have s1 : Same H (upd H p (.lst [V.str s])) := same_upd np
      generalize upd H p (.lst [V.str s]) = G at ep s1
      have hcG := SqT.same s1 hc
      refine ⟨_, rfl, _, .inr (.inl ⟨_, hcG, rfl⟩), ?_⟩
      have el : (" " : Str).length = 1 := by decide +kernel
      have eb : ("by" : Str).length = 2 := by decide +kernel
      cases ch with
      | nil =>
        rw [if_pos rfl] at kk
        refine iteF ⟨⟨_, rfl⟩, _, rfl, p, _, rfl, .inr (SqL.of ep), _, rfl, by show 3 ≤ sizeLine; decide, fun q nq => ?_⟩
        refine ⟨_, q, [s] ++ [("by" : Str), m], rfl, rfl, .inl (SqL.of (upd_same)), ?_, ?_⟩
        · rw [el, Nat.mul_one]
          show s.length + (("by" : Str).length + (m.length + 0)) + 3 ≤ _
          rw [eb]
          omega
        · rw [join_eq, op_join0]
          exact kk _ (s1.trans (same_upd nq))
      | cons y r =>
        rw [if_neg (by simp)] at kk
        have hlen : (y :: r).length ≤ 100 := hl
        refine iteT ⟨_, rfl, _, rfl, c, _, rfl, .inl hcG, by simp only [List.length_map, List.length_append, List.length_cons, List.length_nil] at hlen ⊢; rw [sizeLine_eq]; omega, fun p2 np2 => ?_⟩
        refine ⟨⟨_, rfl⟩, _, rfl, p2, _, rfl, .inr (SqL.of upd_same), _, rfl, by simp only [List.length_map, List.length_append, List.length_cons, List.length_nil] at hlen ⊢; rw [sizeLine_eq]; omega, fun q nq => ?_⟩
        have eq : upd (upd G p2 (.lst (V.str s :: V.str "changes" :: ((y :: r).map V.str ++ [])))) q (.lst ((V.str s :: V.str "changes" :: ((y :: r).map V.str ++ [])) ++ [V.str "by", V.str m])) q = some (.lst ((s :: ("changes" : Str) :: (y :: r) ++ [("by" : Str), m]).map V.str)) := by
          rw [upd_same, List.append_nil, List.map_append]
          rfl
        refine ⟨_, q, s :: ("changes" : Str) :: (y :: r) ++ [("by" : Str), m], rfl, rfl, .inl (SqL.of eq), ?_, ?_⟩
        · have ec : ("changes" : Str).length = 7 := by decide +kernel
          have hsum := sum_short (b := 1000) hch
          simp only [List.map_append, List.map_cons, List.map_nil, List.sum_append, List.sum_cons, List.sum_nil, List.length_append, List.length_cons, List.length_nil, el, eb, ec] at hsum hlen ⊢
          have : (r.length + 1) * 1000 ≤ 100 * 1000 := Nat.mul_le_mul_right _ hlen
          omega
        · rw [join_eq, op_join1 s m (by simp)]
          exact kk _ ((s1.trans (same_upd np2)).trans (same_upd nq))
end
end K04

namespace K04
open PySem PySem.Spec PyProof.Rows L2 EV TL LM
/-! ### a library in the heap -/
def libF (n txt : Str) (hk : Option Str) (pa pk po psg pc pm : Addr) : List (Str × V) :=
  putF "_text" (.str txt) (putF "_maker" (.ref pm) (putF "_changed" (.ref pc) (putF "_signs" (.ref psg) (putF "_operations" (.ref po) (putF "root_hook" (hookV hk) (putF "kept" (.ref pk) (putF "root_parameters" (.ref pa) (putF "name" (.str n) []))))))))
structure LibRest (K : Fg) (H : Hp) (L : Lib) (pa pk po psg pc pm : Addr) : Prop where
  ps : SqT K H pa (L.ps.map V.str)
  kept : ∃ ts, SqT K H pk ts ∧ PairsAt H ts L.kept
  ops : ∃ ts, SqT K H po ts ∧ OpsAt H ts L.ops
  signs : SqT K H psg ((L.ops.map (·.sign)).map V.str)
  chg : ∃ kvs : List (Key × V), H pc = some (.dK kvs) ∧ kvs.map (·.1) = (L.ops.map (·.sign)).map Sum.inr ∧ ∀ (j : Nat) p, kvs[j]? = some p → ∃ o c, L.ops[j]? = some o ∧ p.2 = .ref c ∧ H c = some (.tup (o.changed.map V.str))
  mkr : ∃ kvs : List (Key × V), H pm = some (.dK kvs) ∧ kvs.map (·.1) = (L.ops.map (·.sign)).map Sum.inr ∧ ∀ (j : Nat) p, kvs[j]? = some p → ∃ o, L.ops[j]? = some o ∧ p.2 = .str o.maker
def LibAt (K : Fg) (H : Hp) (C a : Addr) (L : Lib) : Prop := ∃ dx pa pk po psg pc pm, H a = some (.ins C dx (libF L.name (textM L) L.hook pa pk po psg pc pm)) ∧ LibRest K H L pa pk po psg pc pm
/-- what is kept while the fields of the object at a are written -/
structure Kp (a : Addr) (H H' : Hp) : Prop where
  k : Keep a H H'
theorem Kp.lst {a p C dx : Addr} {fs : List (Str × V)} {H H' : Hp} {xs : List V} (k : Keep a H H') (ha : H a = some (.ins C dx fs)) (h : H p = some (.lst xs)) : H' p = some (.lst xs) := k p _ (ne_of h ha (by intro q; cases q)) h
theorem keep_tup {a p C dx : Addr} {fs : List (Str × V)} {H H' : Hp} {xs : List V} (k : Keep a H H') (ha : H a = some (.ins C dx fs)) (h : H p = some (.tup xs)) : H' p = some (.tup xs) := k p _ (ne_of h ha (by intro q; cases q)) h
theorem keep_sqT {K : Fg} {a p C dx : Addr} {fs : List (Str × V)} {H H' : Hp} {xs : List V} (k : Keep a H H') (ha : H a = some (.ins C dx fs)) (h : SqT K H p xs) : SqT K H' p xs := by
  rcases h with (h | ⟨o, h⟩) | h
  · exact .inl (.inl (keep_tup k ha h))
  · exact .inl (.inr ⟨o, k p _ (ne_of h ha (by intro q; cases q)) h⟩)
  · exact .inr h
theorem keep_sqL {K : Fg} {a p C dx : Addr} {fs : List (Str × V)} {H H' : Hp} {xs : List V} (k : Keep a H H') (ha : H a = some (.ins C dx fs)) (h : SqL K H p xs) : SqL K H' p xs := by
  rcases h with (h | ⟨o, h⟩) | h
  · exact .inl (.inl (k p _ (ne_of h ha (by intro q; cases q)) h))
  · exact .inl (.inr ⟨o, k p _ (ne_of h ha (by intro q; cases q)) h⟩)
  · exact .inr h
theorem keep_sqX {b : Bool} {K : Fg} {a p C dx : Addr} {fs : List (Str × V)} {H H' : Hp} {xs : List V} (k : Keep a H H') (ha : H a = some (.ins C dx fs)) (h : SqX b K H p xs) : SqX b K H' p xs := by
  cases b with
  | true => exact keep_sqT k ha h
  | false => exact keep_sqL k ha h
theorem tuple_any {bt : Bool} {K : Fg} {G : Hp} {p : Addr} {xs : List V} {Q : VK} (h : SqX bt K G p xs) (k : ∀ q G', Same G G' → SqT K G' q xs → Q (.ref q) G') :
    ∃ p' ys, [V.ref p] = [V.ref p'] ∧ ((SqL K G p' ys ∧ ∀ l, G l = none → Q (.ref l) (upd G l (.tup ys))) ∨ (SqT K G p' ys ∧ Q (.ref p') G)) := by
  cases bt with
  | true => exact ⟨p, xs, rfl, .inr ⟨h, k p G (Same.refl _) h⟩⟩
  | false => exact ⟨p, xs, rfl, .inl ⟨h, fun l nl => k l _ (same_upd nl) (SqT.of upd_same)⟩⟩
/-- tuple(xs), a list or a tuple -/
def rTup (K : Fg) : List V → Hp → VK → Prop := fun xs H Q => ∃ (bt : Bool) (p : Addr) (ys : List V), xs = [.ref p] ∧ SqX bt K H p ys ∧ ∀ q G, Same H G → SqT K G q ys → Q (.ref q) G
theorem call_tupleX {X : Cx} : CallR X (.type "tuple") (rTup X.K) := by
  intro pins s σ H xs us Q I r h
  obtain ⟨bt, p, ys, rfl, h, k⟩ := h
  exact call_tuple_of pins s σ H _ us Q I r (tuple_any h k)
section
variable {P : Program} {w : World} {K : Fg} {mg : Str → Option Value} {base : Heap}
structure LibC (K : Fg) (C : Addr) : Prop where
  cls : Cls K C
  no : ∀ f ∈ (["name", "root_parameters", "kept", "root_hook", "_operations", "_signs", "_changed", "_maker", "_text"] : List Str), NoAttr K C f
def OpsShort (ops : List Op) : Prop := ∀ o ∈ ops, Short o.sign ∧ Short o.maker ∧ (∀ p ∈ o.changed, Short p) ∧ o.changed.length ≤ 100
theorem len_join (s : Str) : ∀ ws : List Str, (Str.join s ws).length ≤ (ws.map (·.length)).sum + ws.length * s.length
  | [] => by simp [Str.join, l_e]
  | [x] => by
    show x.length ≤ _
    simp
  | x :: y :: r => by
    have := len_join s (y :: r)
    show (x ++ s ++ Str.join s (y :: r)).length ≤ _
    rw [len_app, len_app]
    simp only [List.map_cons, List.sum_cons, List.length_cons, Nat.succ_mul] at this ⊢
    omega
theorem l_changes : (" changes " : Str).length = 9 := by decide +kernel
theorem op_short {o : Op} (h1 : Short o.sign) (h2 : Short o.maker) (h3 : ∀ p ∈ o.changed, Short p) (h4 : o.changed.length ≤ 100) : (opLine o).length ≤ 200000 := by
  have h1' : o.sign.length ≤ 1000 := h1
  have h2' : o.maker.length ≤ 1000 := h2
  have q := len_join " " o.changed
  have q2 := sum_short (b := 1000) h3
  have el : (" " : Str).length = 1 := by decide +kernel
  have : o.changed.length * 1000 ≤ 100 * 1000 := Nat.mul_le_mul_right _ h4
  rw [el] at q
  unfold opLine
  split
  · simp only [len_app, l_make, l_by]; omega
  · split
    · simp only [len_app, l_by]; omega
    · simp only [len_app, l_by, l_changes]; omega
theorem lines_short {L : Lib} (sn : Short L.name) (sp : ∀ p ∈ L.ps, Short p) (sk : ∀ p ∈ L.kept, Short p.1 ∧ Short p.2) (sh : ∀ h, L.hook = some h → Short h) (so : OpsShort L.ops) : ∀ l ∈ linesM L, l.length ≤ 200000 := by
  intro l hl
  unfold linesM rootLines at hl
  simp only [List.mem_append, List.mem_map] at hl
  have sn' : L.name.length ≤ 1000 := sn
  rcases hl with (((hl | ⟨p, hp, rfl⟩) | ⟨p, hp, rfl⟩) | hl) | ⟨o, ho, rfl⟩
  · rw [List.mem_singleton.mp hl, len_app, l_lib]
    omega
  · have h : p.length ≤ 1000 := sp p hp
    rw [len_app, l_needs]
    omega
  · have h : p.1.length ≤ 1000 := (sk p hp).1
    have h' : p.2.length ≤ 1000 := (sk p hp).2
    rw [len_app, len_app, len_app, l_keeps, l_of]
    omega
  · cases e : L.hook with
    | none => rw [e] at hl; cases hl
    | some h =>
      have hh : h.length ≤ 1000 := sh h e
      rw [e] at hl
      rw [List.mem_singleton.mp hl, len_app, l_hook]
      omega
  · obtain ⟨h1, h2, h3, h4⟩ := so o ho
    exact op_short h1 h2 h3 h4
def spInit (K : Fg) (C : Addr) : Sp := fun vs H Q _ => ∃ (bt : Bool) (a dx p1 p2 p3 : Addr) (L : Lib) (kts ots : List V), vs = [.ref a, .str L.name, .ref p1, .ref p2, hookV L.hook, .ref p3] ∧ H a = some (.ins C dx []) ∧
  SqX bt K H p1 (L.ps.map V.str) ∧ SqX bt K H p2 kts ∧ PairsAt H kts L.kept ∧ H p3 = some (.lst ots) ∧ OpsAt H ots L.ops ∧ (L.ops.map (·.sign)).Nodup ∧
  Short L.name ∧ (∀ p ∈ L.ps, Short p) ∧ (∀ p ∈ L.kept, Short p.1 ∧ Short p.2) ∧ (∀ h, L.hook = some h → Short h) ∧ L.ps.length ≤ 10 ∧ L.kept.length ≤ 10 ∧ L.ops.length ≤ 10 ∧ OpsShort L.ops ∧
  ∀ H', Keep a H H' → LibAt K H' C a L → Q .non H'
theorem ok_init {f C : Addr} {fd : FuncData} (F : Fun K "__init__" "Library.__init__" s_Library___init__ f fd) (T : Cst K mg) (hC : LibC K C) (O_root_lines : Ok P w K mg base 1 "_root_lines" ["name", "parameters", "kept", "hook"] (spRootLines K))
    (O_operation_line : Ok P w K mg base 2 "_operation_line" ["sign", "changed", "maker"] (spOpLine K)) :
    FnOk P w K mg base CX0 3 f fd ["self", "name", "root_parameters", "kept", "root_hook", "operations"] (spInit K C) := by
  refine F.ok sc_Library___init__ (fun vs H Q E h => ?_) (fun cdv A outer s H vs Q E hr h => ?_)
  · obtain ⟨bt, a, dx, p1, p2, p3, L, kts, ots, rfl, _⟩ := h
    rfl
  · obtain ⟨bt, a, dx, p1, p2, p3, L, kts, ots, rfl, ha, h1, h2, hP, h3, hO, nd, sn, sp, sk, sh, lp, lk, lo, so, k⟩ := h
    refine ⟨_, (pss_cons (ps_fld (pv 0) (pv 1) rfl)
    (pss_cons (ps_fld (pv 0) (pe_callTy call_tupleX (by rfl) T.n_tuple (by decide +kernel) (pa_cons (pv 2) pa_nil)) rfl)
    (pss_cons (ps_fld (pv 0) (pe_callTy call_tupleX (by rfl) T.n_tuple (by decide +kernel) (pa_cons (pv 3) pa_nil)) rfl)
    (pss_cons (ps_fld (pv 0) (pv 4) rfl)
    (pss_cons (ps_fld (pv 0) (pe_callTy call_tupleX (by rfl) T.n_tuple (by decide +kernel) (pa_cons (pv 5) pa_nil)) rfl)
    (pss_cons (ps_fld (pv 0) (pe_callTy call_tupleX (by rfl) T.n_tuple (by decide +kernel) (pa_cons (pe_lc (own := [("operation", 7)]) rfl sc_Library___init__.nd (pi_list (pv 5)) (blkOk_by (own := [("operation", 7)]) (N := ["self", "name", "root_parameters", "kept", "root_hook", "operations", "lines", "operation", "sign", "changed", "_", "maker"]) (sc := defScope s_Library___init__) (by decide +kernel)) (fun _ _ _ _ _ => (pg_name (i := 7) sc_Library___init__.nd rfl (Or.inl rfl))) (fun _ _ _ _ _ => pts_nil) (fun _ _ _ _ _ => (pe_ix (show IxR _ (rIxT K) from ix_tup) (pv 7) pe_int (fun _ _ => rfl)))) pa_nil)) rfl)
    (pss_cons (ps_fld (pv 0) (pe_dc (own := [("sign", 8), ("changed", 9), ("_", 10)]) rfl sc_Library___init__.nd (pi_list (pv 5)) (blkOk_by (own := [("sign", 8), ("changed", 9), ("_", 10)]) (N := ["self", "name", "root_parameters", "kept", "root_hook", "operations", "lines", "operation", "sign", "changed", "_", "maker"]) (sc := defScope s_Library___init__) (by decide +kernel)) (fun _ _ _ _ _ => (pg_three (K := K) 8 9 10 rfl sc_Library___init__.nd rfl rfl rfl rfl rfl rfl)) (fun _ _ _ _ _ => pts_nil) (fun _ _ _ _ _ => (pv 8)) (fun _ _ _ _ _ => (pv 9))) rfl)
    (pss_cons (ps_fld (pv 0) (pe_dc (own := [("sign", 8), ("_", 10), ("maker", 11)]) rfl sc_Library___init__.nd (pi_list (pv 5)) (blkOk_by (own := [("sign", 8), ("_", 10), ("maker", 11)]) (N := ["self", "name", "root_parameters", "kept", "root_hook", "operations", "lines", "operation", "sign", "changed", "_", "maker"]) (sc := defScope s_Library___init__) (by decide +kernel)) (fun _ _ _ _ _ => (pg_three (K := K) 8 10 11 rfl sc_Library___init__.nd rfl rfl rfl rfl rfl rfl)) (fun _ _ _ _ _ => pts_nil) (fun _ _ _ _ _ => (pv 8)) (fun _ _ _ _ _ => (pv 11))) rfl)
    (pss_cons (ps_set (i := 6) sc_Library___init__.nd rfl (Or.inl rfl) (pe_callO O_root_lines (hr.mono (by decide)) (pa_cons (pv 1) (pa_cons (pv 2) (pa_cons (pv 3) (pa_cons (pv 4) pa_nil))))))
    (pss_cons (ps_expr (pe_bm PySem.F.plainAttrs_list PySem.F.slot_list_extend PySem.F.type_list_extend mt_extend (pv 6) (pa_cons (pe_lc (own := [("sign", 8), ("changed", 9), ("maker", 11)]) rfl sc_Library___init__.nd (pi_list (pv 5)) (blkOk_by (own := [("sign", 8), ("changed", 9), ("maker", 11)]) (N := ["self", "name", "root_parameters", "kept", "root_hook", "operations", "lines", "operation", "sign", "changed", "_", "maker"]) (sc := defScope s_Library___init__) (by decide +kernel)) (fun _ _ _ _ _ => (pg_three (K := K) 8 9 11 rfl sc_Library___init__.nd rfl rfl rfl rfl rfl rfl)) (fun _ _ _ _ _ => pts_nil) (fun _ _ _ _ _ => (pe_callO O_operation_line (hr.mono (by decide)) (pa_cons (pv 8) (pa_cons (pv 9) (pa_cons (pv 11) pa_nil)))))) pa_nil)))
    (pss_one (ps_fld (pv 0) (pe_join pe_str (pv 6)) rfl)))))))))))), ?_⟩
    have no : ∀ f ∈ (["name", "root_parameters", "kept", "root_hook", "_operations", "_signs", "_changed", "_maker", "_text"] : List Str), NoAttr K C f := hC.no
    have l0 : ([] : List (Str × V)).length ≤ 0 := Nat.le_refl _
    have kH : Keep a H H := Keep.refl H
    refine ⟨_, rfl, _, rfl, a, C, dx, _, rfl, ha, hC.cls, no _ (by simp), by omega, ?_⟩
    have l1 : (putF "name" (.str L.name) []).length ≤ 1 := Nat.le_trans (length_putF _ _ _) (Nat.succ_le_succ l0)
    have kk1 : Keep a H (upd H a (.ins C dx (putF "name" (.str L.name) []))) := kH.trans Keep.upd
    have a1 : upd H a (.ins C dx (putF "name" (.str L.name) [])) a = some (.ins C dx (putF "name" (.str L.name) [])) := upd_same
    have u1 : Keep a H (upd H a (.ins C dx (putF "name" (.str L.name) []))) := Keep.upd
    generalize upd H a (.ins C dx (putF "name" (.str L.name) [])) = M1 at kk1 a1 u1
    refine ⟨_, rfl, bt, p1, _, rfl, keep_sqX kk1 ha h1, fun pa G2 s2 t2 => ⟨_, rfl, a, C, dx, _, rfl, s2 _ _ a1, hC.cls, no _ (by simp), by omega, ?_⟩⟩
    have kG2 : Keep a H G2 := kk1.trans (Keep.of s2)
    have l2 : (putF "root_parameters" (.ref pa) (putF "name" (.str L.name) [])).length ≤ 2 := Nat.le_trans (length_putF _ _ _) (Nat.succ_le_succ l1)
    have kk2 : Keep a H (upd G2 a (.ins C dx (putF "root_parameters" (.ref pa) (putF "name" (.str L.name) [])))) := kG2.trans Keep.upd
    have a2 : upd G2 a (.ins C dx (putF "root_parameters" (.ref pa) (putF "name" (.str L.name) []))) a = some (.ins C dx (putF "root_parameters" (.ref pa) (putF "name" (.str L.name) []))) := upd_same
    have u2 : Keep a G2 (upd G2 a (.ins C dx (putF "root_parameters" (.ref pa) (putF "name" (.str L.name) [])))) := Keep.upd
    generalize upd G2 a (.ins C dx (putF "root_parameters" (.ref pa) (putF "name" (.str L.name) []))) = M2 at kk2 a2 u2
    have tpa : SqT K M2 pa (L.ps.map V.str) := keep_sqT u2 (s2 _ _ a1) t2
    refine ⟨_, rfl, bt, p2, _, rfl, keep_sqX kk2 ha h2, fun pk G3 s3 t3 => ⟨_, rfl, a, C, dx, _, rfl, s3 _ _ a2, hC.cls, no _ (by simp), by omega, ?_⟩⟩
    have kG3 : Keep a H G3 := kk2.trans (Keep.of s3)
    have l3 : (putF "kept" (.ref pk) (putF "root_parameters" (.ref pa) (putF "name" (.str L.name) []))).length ≤ 3 := Nat.le_trans (length_putF _ _ _) (Nat.succ_le_succ l2)
    have kk3 : Keep a H (upd G3 a (.ins C dx (putF "kept" (.ref pk) (putF "root_parameters" (.ref pa) (putF "name" (.str L.name) []))))) := kG3.trans Keep.upd
    have a3 : upd G3 a (.ins C dx (putF "kept" (.ref pk) (putF "root_parameters" (.ref pa) (putF "name" (.str L.name) [])))) a = some (.ins C dx (putF "kept" (.ref pk) (putF "root_parameters" (.ref pa) (putF "name" (.str L.name) [])))) := upd_same
    have u3 : Keep a G3 (upd G3 a (.ins C dx (putF "kept" (.ref pk) (putF "root_parameters" (.ref pa) (putF "name" (.str L.name) []))))) := Keep.upd
    generalize upd G3 a (.ins C dx (putF "kept" (.ref pk) (putF "root_parameters" (.ref pa) (putF "name" (.str L.name) [])))) = M3 at kk3 a3 u3
    have tpk : SqT K M3 pk kts := keep_sqT u3 (s3 _ _ a2) t3
    have tpa : SqT K M3 pa (L.ps.map V.str) := keep_sqT u3 (s3 _ _ a2) (SqT.same s3 tpa)
    refine ⟨_, rfl, _, rfl, a, C, dx, _, rfl, a3, hC.cls, no _ (by simp), by omega, ?_⟩
    have kM3 : Keep a H M3 := kk3
    have l4 : (putF "root_hook" (hookV L.hook) (putF "kept" (.ref pk) (putF "root_parameters" (.ref pa) (putF "name" (.str L.name) [])))).length ≤ 4 := Nat.le_trans (length_putF _ _ _) (Nat.succ_le_succ l3)
    have kk4 : Keep a H (upd M3 a (.ins C dx (putF "root_hook" (hookV L.hook) (putF "kept" (.ref pk) (putF "root_parameters" (.ref pa) (putF "name" (.str L.name) [])))))) := kM3.trans Keep.upd
    have a4 : upd M3 a (.ins C dx (putF "root_hook" (hookV L.hook) (putF "kept" (.ref pk) (putF "root_parameters" (.ref pa) (putF "name" (.str L.name) []))))) a = some (.ins C dx (putF "root_hook" (hookV L.hook) (putF "kept" (.ref pk) (putF "root_parameters" (.ref pa) (putF "name" (.str L.name) []))))) := upd_same
    have u4 : Keep a M3 (upd M3 a (.ins C dx (putF "root_hook" (hookV L.hook) (putF "kept" (.ref pk) (putF "root_parameters" (.ref pa) (putF "name" (.str L.name) [])))))) := Keep.upd
    generalize upd M3 a (.ins C dx (putF "root_hook" (hookV L.hook) (putF "kept" (.ref pk) (putF "root_parameters" (.ref pa) (putF "name" (.str L.name) []))))) = M4 at kk4 a4 u4
    have tpa : SqT K M4 pa (L.ps.map V.str) := keep_sqT u4 a3 tpa
    have tpk : SqT K M4 pk kts := keep_sqT u4 a3 tpk
    refine ⟨_, rfl, false, p3, _, rfl, (SqL.of (Kp.lst kk4 ha h3) : SqX false K M4 p3 ots), fun po G5 s5 t5 => ⟨_, rfl, a, C, dx, _, rfl, s5 _ _ a4, hC.cls, no _ (by simp), by omega, ?_⟩⟩
    have kG5 : Keep a H G5 := kk4.trans (Keep.of s5)
    have l5 : (putF "_operations" (.ref po) (putF "root_hook" (hookV L.hook) (putF "kept" (.ref pk) (putF "root_parameters" (.ref pa) (putF "name" (.str L.name) []))))).length ≤ 5 := Nat.le_trans (length_putF _ _ _) (Nat.succ_le_succ l4)
    have kk5 : Keep a H (upd G5 a (.ins C dx (putF "_operations" (.ref po) (putF "root_hook" (hookV L.hook) (putF "kept" (.ref pk) (putF "root_parameters" (.ref pa) (putF "name" (.str L.name) []))))))) := kG5.trans Keep.upd
    have a5 : upd G5 a (.ins C dx (putF "_operations" (.ref po) (putF "root_hook" (hookV L.hook) (putF "kept" (.ref pk) (putF "root_parameters" (.ref pa) (putF "name" (.str L.name) [])))))) a = some (.ins C dx (putF "_operations" (.ref po) (putF "root_hook" (hookV L.hook) (putF "kept" (.ref pk) (putF "root_parameters" (.ref pa) (putF "name" (.str L.name) [])))))) := upd_same
    have u5 : Keep a G5 (upd G5 a (.ins C dx (putF "_operations" (.ref po) (putF "root_hook" (hookV L.hook) (putF "kept" (.ref pk) (putF "root_parameters" (.ref pa) (putF "name" (.str L.name) []))))))) := Keep.upd
    generalize upd G5 a (.ins C dx (putF "_operations" (.ref po) (putF "root_hook" (hookV L.hook) (putF "kept" (.ref pk) (putF "root_parameters" (.ref pa) (putF "name" (.str L.name) [])))))) = M5 at kk5 a5 u5
    have tpo : SqT K M5 po ots := keep_sqT u5 (s5 _ _ a4) t5
    have tpa : SqT K M5 pa (L.ps.map V.str) := keep_sqT u5 (s5 _ _ a4) (SqT.same s5 tpa)
    have tpk : SqT K M5 pk kts := keep_sqT u5 (s5 _ _ a4) (SqT.same s5 tpk)
    have h3' : M5 p3 = some (.lst ots) := Kp.lst kk5 ha h3
    have hO5 : OpsAt M5 ots L.ops := hO.tups fun t xs z => keep_tup kk5 ha z
    refine ⟨_, rfl, p3, rfl, ⟨_, SqL.of h3'⟩, fun D nD => ?_⟩
    refine lc_fm (walk_list (xs := ots)) (fun i => L.ops[i]?.map fun z => V.str z.sign) nD (by rw [hO.len]; omega) (fun _ s => SqL.of (s _ _ h3')) ?_ ?_
    · rintro j x G3 G4 NT NE hj s3 ⟨rfl, hx⟩ h0 h1
      have hj2 : j < L.ops.length := by rw [← hO.len]; exact hj
      obtain ⟨t', ht', c', hc1, hc2⟩ := hO5.op j _ (List.getElem?_eq_getElem hj2)
      rw [hx] at ht'
      cases ht'
      refine ⟨rfl, _, rfl, t', _, ((0 : Nat) : Int), _, rfl, rfl, SqT.of (s3 _ _ hc1), atI_nat (j := 0) rfl, h1 _ _ ?_ (Same.refl _)⟩
      show L.ops[j]?.map _ = _
      rw [List.getElem?_eq_getElem hj2]
      rfl
    intro G6 s6 hD
    rw [gath_map L.ops _ hO.len, show L.ops.map (fun z => V.str z.sign) = (L.ops.map (fun z : Op => z.sign)).map V.str by rw [List.map_map]; rfl] at hD
    refine ⟨false, D, _, rfl, (SqL.of hD : SqX false K G6 D _), fun psg G7 s7 t7 => ⟨_, rfl, a, C, dx, _, rfl, s7 _ _ (s6 _ _ a5), hC.cls, no _ (by simp), by omega, ?_⟩⟩
    have s67 : Same M5 G7 := s6.trans s7
    have kG7 : Keep a H G7 := kk5.trans (Keep.of s67)
    have l6 : (putF "_signs" (.ref psg) (putF "_operations" (.ref po) (putF "root_hook" (hookV L.hook) (putF "kept" (.ref pk) (putF "root_parameters" (.ref pa) (putF "name" (.str L.name) [])))))).length ≤ 6 := Nat.le_trans (length_putF _ _ _) (Nat.succ_le_succ l5)
    have kk6 : Keep a H (upd G7 a (.ins C dx (putF "_signs" (.ref psg) (putF "_operations" (.ref po) (putF "root_hook" (hookV L.hook) (putF "kept" (.ref pk) (putF "root_parameters" (.ref pa) (putF "name" (.str L.name) [])))))))) := kG7.trans Keep.upd
    have a6 : upd G7 a (.ins C dx (putF "_signs" (.ref psg) (putF "_operations" (.ref po) (putF "root_hook" (hookV L.hook) (putF "kept" (.ref pk) (putF "root_parameters" (.ref pa) (putF "name" (.str L.name) []))))))) a = some (.ins C dx (putF "_signs" (.ref psg) (putF "_operations" (.ref po) (putF "root_hook" (hookV L.hook) (putF "kept" (.ref pk) (putF "root_parameters" (.ref pa) (putF "name" (.str L.name) []))))))) := upd_same
    have u6 : Keep a G7 (upd G7 a (.ins C dx (putF "_signs" (.ref psg) (putF "_operations" (.ref po) (putF "root_hook" (hookV L.hook) (putF "kept" (.ref pk) (putF "root_parameters" (.ref pa) (putF "name" (.str L.name) [])))))))) := Keep.upd
    generalize upd G7 a (.ins C dx (putF "_signs" (.ref psg) (putF "_operations" (.ref po) (putF "root_hook" (hookV L.hook) (putF "kept" (.ref pk) (putF "root_parameters" (.ref pa) (putF "name" (.str L.name) []))))))) = M6 at kk6 a6 u6
    have b7 := s67 _ _ a5
    have tpo : SqT K M6 po ots := keep_sqT u6 b7 (SqT.same s67 tpo)
    have tpa : SqT K M6 pa (L.ps.map V.str) := keep_sqT u6 b7 (SqT.same s67 tpa)
    have tpk : SqT K M6 pk kts := keep_sqT u6 b7 (SqT.same s67 tpk)
    have tps : SqT K M6 psg ((L.ops.map (fun z : Op => z.sign)).map V.str) := keep_sqT u6 b7 t7
    have h3' : M6 p3 = some (.lst ots) := Kp.lst kk6 ha h3
    have hO6 : OpsAt M6 ots L.ops := hO.tups fun t xs z => keep_tup kk6 ha z
    refine ⟨_, rfl, p3, rfl, ⟨_, SqL.of h3'⟩, fun pc nc => ?_⟩
    refine dc_strs (walk_list (xs := ots)) (L.ops.map (·.sign)) (fun j z => ∃ o c, L.ops[j]? = some o ∧ z = V.ref c ∧ M6 c = some (.tup (o.changed.map V.str))) (by rw [List.length_map, hO.len]) nd (by rw [hO.len]; omega) nc (fun _ s => SqL.of (s _ _ h3')) ?_ ?_
    · rintro j x G3 G4 NE hj s3 ⟨rfl, hx⟩ h1
      have hj2 : j < L.ops.length := by rw [← hO.len]; exact hj
      obtain ⟨t', ht', c', hc1, hc2⟩ := hO6.op j _ (List.getElem?_eq_getElem hj2)
      rw [hx] at ht'
      cases ht'
      refine ⟨t', _, rfl, SqT.of (s3 _ _ hc1), rfl, _, _, rfl, _, _, rfl, _, _, rfl, rfl, rfl, _, rfl, _, rfl, h1 _ _ _ ?_ ⟨_, c', List.getElem?_eq_getElem hj2, rfl, hc2⟩ (Same.refl _)⟩
      rw [List.getElem?_map, List.getElem?_eq_getElem hj2]
      rfl
    intro G8 kvc s8 hpc hkc hRc
    have b8 := s8 _ _ a6
    refine ⟨_, rfl, a, C, dx, _, rfl, b8, hC.cls, no _ (by simp), by omega, ?_⟩
    have kG8 : Keep a H G8 := kk6.trans (Keep.of s8)
    have l7 : (putF "_changed" (.ref pc) (putF "_signs" (.ref psg) (putF "_operations" (.ref po) (putF "root_hook" (hookV L.hook) (putF "kept" (.ref pk) (putF "root_parameters" (.ref pa) (putF "name" (.str L.name) []))))))).length ≤ 7 := Nat.le_trans (length_putF _ _ _) (Nat.succ_le_succ l6)
    have kk7 : Keep a H (upd G8 a (.ins C dx (putF "_changed" (.ref pc) (putF "_signs" (.ref psg) (putF "_operations" (.ref po) (putF "root_hook" (hookV L.hook) (putF "kept" (.ref pk) (putF "root_parameters" (.ref pa) (putF "name" (.str L.name) []))))))))) := kG8.trans Keep.upd
    have a7 : upd G8 a (.ins C dx (putF "_changed" (.ref pc) (putF "_signs" (.ref psg) (putF "_operations" (.ref po) (putF "root_hook" (hookV L.hook) (putF "kept" (.ref pk) (putF "root_parameters" (.ref pa) (putF "name" (.str L.name) [])))))))) a = some (.ins C dx (putF "_changed" (.ref pc) (putF "_signs" (.ref psg) (putF "_operations" (.ref po) (putF "root_hook" (hookV L.hook) (putF "kept" (.ref pk) (putF "root_parameters" (.ref pa) (putF "name" (.str L.name) [])))))))) := upd_same
    have u7 : Keep a G8 (upd G8 a (.ins C dx (putF "_changed" (.ref pc) (putF "_signs" (.ref psg) (putF "_operations" (.ref po) (putF "root_hook" (hookV L.hook) (putF "kept" (.ref pk) (putF "root_parameters" (.ref pa) (putF "name" (.str L.name) []))))))))) := Keep.upd
    generalize upd G8 a (.ins C dx (putF "_changed" (.ref pc) (putF "_signs" (.ref psg) (putF "_operations" (.ref po) (putF "root_hook" (hookV L.hook) (putF "kept" (.ref pk) (putF "root_parameters" (.ref pa) (putF "name" (.str L.name) [])))))))) = M7 at kk7 a7 u7
    have tpo : SqT K M7 po ots := keep_sqT u7 b8 (SqT.same s8 tpo)
    have tpa : SqT K M7 pa (L.ps.map V.str) := keep_sqT u7 b8 (SqT.same s8 tpa)
    have tpk : SqT K M7 pk kts := keep_sqT u7 b8 (SqT.same s8 tpk)
    have tps : SqT K M7 psg ((L.ops.map (fun z : Op => z.sign)).map V.str) := keep_sqT u7 b8 (SqT.same s8 tps)
    have hpc7 : M7 pc = some (.dK kvc) := u7 pc _ (ne_of hpc b8 (by intro q; cases q)) hpc
    have hRc7 : ∀ (j : Nat) p, kvc[j]? = some p → ∃ o c, L.ops[j]? = some o ∧ p.2 = V.ref c ∧ M7 c = some (.tup (o.changed.map V.str)) := fun j p e => by
      obtain ⟨o, c, z1, z2, z3⟩ := hRc j p e
      exact ⟨o, c, z1, z2, keep_tup u7 b8 (s8 _ _ z3)⟩
    have h3' : M7 p3 = some (.lst ots) := Kp.lst kk7 ha h3
    have hO7 : OpsAt M7 ots L.ops := hO.tups fun t xs z => keep_tup kk7 ha z
    refine ⟨_, rfl, p3, rfl, ⟨_, SqL.of h3'⟩, fun pm nm => ?_⟩
    refine dc_strs (walk_list (xs := ots)) (L.ops.map (·.sign)) (fun j z => ∃ o, L.ops[j]? = some o ∧ z = V.str o.maker) (by rw [List.length_map, hO.len]) nd (by rw [hO.len]; omega) nm (fun _ s => SqL.of (s _ _ h3')) ?_ ?_
    · rintro j x G3 G4 NE hj s3 ⟨rfl, hx⟩ h1
      have hj2 : j < L.ops.length := by rw [← hO.len]; exact hj
      obtain ⟨t', ht', c', hc1, hc2⟩ := hO7.op j _ (List.getElem?_eq_getElem hj2)
      rw [hx] at ht'
      cases ht'
      refine ⟨t', _, rfl, SqT.of (s3 _ _ hc1), rfl, _, _, rfl, _, _, rfl, _, _, rfl, rfl, rfl, _, rfl, _, rfl, h1 _ _ _ ?_ ⟨_, List.getElem?_eq_getElem hj2, rfl⟩ (Same.refl _)⟩
      rw [List.getElem?_map, List.getElem?_eq_getElem hj2]
      rfl
    intro G9 kvm s9 hpm hkm hRm
    have b9 := s9 _ _ a7
    refine ⟨_, rfl, a, C, dx, _, rfl, b9, hC.cls, no _ (by simp), by omega, ?_⟩
    have kG9 : Keep a H G9 := kk7.trans (Keep.of s9)
    have l8 : (putF "_maker" (.ref pm) (putF "_changed" (.ref pc) (putF "_signs" (.ref psg) (putF "_operations" (.ref po) (putF "root_hook" (hookV L.hook) (putF "kept" (.ref pk) (putF "root_parameters" (.ref pa) (putF "name" (.str L.name) [])))))))).length ≤ 8 := Nat.le_trans (length_putF _ _ _) (Nat.succ_le_succ l7)
    have kk8 : Keep a H (upd G9 a (.ins C dx (putF "_maker" (.ref pm) (putF "_changed" (.ref pc) (putF "_signs" (.ref psg) (putF "_operations" (.ref po) (putF "root_hook" (hookV L.hook) (putF "kept" (.ref pk) (putF "root_parameters" (.ref pa) (putF "name" (.str L.name) [])))))))))) := kG9.trans Keep.upd
    have a8 : upd G9 a (.ins C dx (putF "_maker" (.ref pm) (putF "_changed" (.ref pc) (putF "_signs" (.ref psg) (putF "_operations" (.ref po) (putF "root_hook" (hookV L.hook) (putF "kept" (.ref pk) (putF "root_parameters" (.ref pa) (putF "name" (.str L.name) []))))))))) a = some (.ins C dx (putF "_maker" (.ref pm) (putF "_changed" (.ref pc) (putF "_signs" (.ref psg) (putF "_operations" (.ref po) (putF "root_hook" (hookV L.hook) (putF "kept" (.ref pk) (putF "root_parameters" (.ref pa) (putF "name" (.str L.name) []))))))))) := upd_same
    have u8 : Keep a G9 (upd G9 a (.ins C dx (putF "_maker" (.ref pm) (putF "_changed" (.ref pc) (putF "_signs" (.ref psg) (putF "_operations" (.ref po) (putF "root_hook" (hookV L.hook) (putF "kept" (.ref pk) (putF "root_parameters" (.ref pa) (putF "name" (.str L.name) [])))))))))) := Keep.upd
    generalize upd G9 a (.ins C dx (putF "_maker" (.ref pm) (putF "_changed" (.ref pc) (putF "_signs" (.ref psg) (putF "_operations" (.ref po) (putF "root_hook" (hookV L.hook) (putF "kept" (.ref pk) (putF "root_parameters" (.ref pa) (putF "name" (.str L.name) []))))))))) = M8 at kk8 a8 u8
    have tpo : SqT K M8 po ots := keep_sqT u8 b9 (SqT.same s9 tpo)
    have tpa : SqT K M8 pa (L.ps.map V.str) := keep_sqT u8 b9 (SqT.same s9 tpa)
    have tpk : SqT K M8 pk kts := keep_sqT u8 b9 (SqT.same s9 tpk)
    have tps : SqT K M8 psg ((L.ops.map (fun z : Op => z.sign)).map V.str) := keep_sqT u8 b9 (SqT.same s9 tps)
    have hpc8 : M8 pc = some (.dK kvc) := u8 pc _ (ne_of (s9 _ _ hpc7) b9 (by intro q; cases q)) (s9 _ _ hpc7)
    have hpm8 : M8 pm = some (.dK kvm) := u8 pm _ (ne_of hpm b9 (by intro q; cases q)) hpm
    have hRc8 : ∀ (j : Nat) p, kvc[j]? = some p → ∃ o c, L.ops[j]? = some o ∧ p.2 = V.ref c ∧ M8 c = some (.tup (o.changed.map V.str)) := fun j p e => by
      obtain ⟨o, c, z1, z2, z3⟩ := hRc7 j p e
      exact ⟨o, c, z1, z2, keep_tup u8 b9 (s9 _ _ z3)⟩
    refine ⟨_, rfl, _, rfl, _, rfl, _, rfl, bt, p1, p2, L.name, L.ps, kts, L.kept, L.hook, rfl, keep_sqX kk8 ha h1, keep_sqX kk8 ha h2, hP.tups (fun t xs z => keep_tup kk8 ha z), sn, sp, sk, sh, by omega, by omega, fun pl G10 s10 npl hpl => ?_⟩
    have h3' : G10 p3 = some (.lst ots) := s10 _ _ (Kp.lst kk8 ha h3)
    have hO10 : OpsAt G10 ots L.ops := (hO.tups fun t xs z => keep_tup kk8 ha z).same s10
    refine ⟨_, rfl, .inl ⟨rfl, _, SqL.of hpl⟩, _, rfl, p3, rfl, ⟨_, SqL.of h3'⟩, fun D2 nD2 => ?_⟩
    refine lc_fm (walk_list (xs := ots)) (fun i => L.ops[i]?.map fun z => V.str (opLine z)) nD2 (by rw [hO.len]; omega) (fun _ s => SqL.of (s _ _ h3')) ?_ ?_
    · rintro j x G3 G4 NT NE hj s3 ⟨rfl, hx⟩ h0 h1
      have hj2 : j < L.ops.length := by rw [← hO.len]; exact hj
      obtain ⟨t', ht', c', hc1, hc2⟩ := hO10.op j _ (List.getElem?_eq_getElem hj2)
      rw [hx] at ht'
      cases ht'
      obtain ⟨q1, q2, q3, q4⟩ := so _ (List.getElem_mem hj2)
      refine ⟨t', _, rfl, SqT.of (s3 _ _ hc1), rfl, _, _, rfl, _, _, rfl, _, _, rfl, rfl, rfl, _, rfl, _, rfl, _, rfl, c', _, _, _, rfl, SqT.of (s3 _ _ hc2), q1, q2, q3, q4, fun H' s' => h1 _ _ ?_ s'⟩
      show L.ops[j]?.map _ = _
      rw [List.getElem?_eq_getElem hj2]
      rfl
    intro G11 s11 hD2
    rw [gath_map L.ops _ hO.len, show L.ops.map (fun z => V.str (opLine z)) = (L.ops.map opLine).map V.str by rw [List.map_map]; rfl] at hD2
    have hroot : (rootLines L.name L.ps L.kept L.hook).length ≤ 22 := by
      unfold rootLines
      simp only [List.length_append, List.length_map, List.length_cons, List.length_nil]
      cases L.hook <;> simp <;> omega
    refine ⟨pl, D2, _, _, rfl, rfl, s11 _ _ hpl, hD2, by rw [List.length_map, List.length_map, List.length_map, sizeLine_eq]; omega, ?_⟩
    have npl0 : M8 pl = none := npl
    have epl : upd G11 pl (.lst ((rootLines L.name L.ps L.kept L.hook).map V.str ++ (L.ops.map opLine).map V.str)) pl = some (.lst ((linesM L).map V.str)) := by
      rw [upd_same, ← List.map_append]
      rfl
    have s12 : Same M8 (upd G11 pl (.lst ((rootLines L.name L.ps L.kept L.hook).map V.str ++ (L.ops.map opLine).map V.str))) := same_upd' (s10.trans s11) npl0
    generalize upd G11 pl (.lst ((rootLines L.name L.ps L.kept L.hook).map V.str ++ (L.ops.map opLine).map V.str)) = G12 at epl s12
    refine ⟨⟨_, rfl⟩, _, rfl, _, pl, linesM L, rfl, rfl, .inl (SqL.of epl), ?_, ?_⟩
    · have el : ("
" : Str).length = 1 := by decide +kernel
      have q := sum_short (b := 200000) (lines_short sn sp sk sh so)
      have hln : (linesM L).length ≤ 32 := by
        unfold linesM
        rw [List.length_append, List.length_map]
        omega
      have : (linesM L).length * 200000 ≤ 32 * 200000 := Nat.mul_le_mul_right _ hln
      rw [el, Nat.mul_one]
      omega
    rw [join_eq, show Str.join ("\n" : Str) (linesM L) = textM L from rfl]
    refine ⟨_, rfl, a, C, dx, _, rfl, s12 _ _ a8, hC.cls, no _ (by simp), by omega, ?_⟩
    have kG12 : Keep a H G12 := kk8.trans (Keep.of s12)
    have b12 := s12 _ _ a8
    have l9 : (putF "_text" (.str (textM L)) (putF "_maker" (.ref pm) (putF "_changed" (.ref pc) (putF "_signs" (.ref psg) (putF "_operations" (.ref po) (putF "root_hook" (hookV L.hook) (putF "kept" (.ref pk) (putF "root_parameters" (.ref pa) (putF "name" (.str L.name) []))))))))).length ≤ 9 := Nat.le_trans (length_putF _ _ _) (Nat.succ_le_succ l8)
    have kk9 : Keep a H (upd G12 a (.ins C dx (putF "_text" (.str (textM L)) (putF "_maker" (.ref pm) (putF "_changed" (.ref pc) (putF "_signs" (.ref psg) (putF "_operations" (.ref po) (putF "root_hook" (hookV L.hook) (putF "kept" (.ref pk) (putF "root_parameters" (.ref pa) (putF "name" (.str L.name) []))))))))))) := kG12.trans Keep.upd
    have a9 : upd G12 a (.ins C dx (putF "_text" (.str (textM L)) (putF "_maker" (.ref pm) (putF "_changed" (.ref pc) (putF "_signs" (.ref psg) (putF "_operations" (.ref po) (putF "root_hook" (hookV L.hook) (putF "kept" (.ref pk) (putF "root_parameters" (.ref pa) (putF "name" (.str L.name) [])))))))))) a = some (.ins C dx (putF "_text" (.str (textM L)) (putF "_maker" (.ref pm) (putF "_changed" (.ref pc) (putF "_signs" (.ref psg) (putF "_operations" (.ref po) (putF "root_hook" (hookV L.hook) (putF "kept" (.ref pk) (putF "root_parameters" (.ref pa) (putF "name" (.str L.name) [])))))))))) := upd_same
    have u9 : Keep a G12 (upd G12 a (.ins C dx (putF "_text" (.str (textM L)) (putF "_maker" (.ref pm) (putF "_changed" (.ref pc) (putF "_signs" (.ref psg) (putF "_operations" (.ref po) (putF "root_hook" (hookV L.hook) (putF "kept" (.ref pk) (putF "root_parameters" (.ref pa) (putF "name" (.str L.name) []))))))))))) := Keep.upd
    generalize upd G12 a (.ins C dx (putF "_text" (.str (textM L)) (putF "_maker" (.ref pm) (putF "_changed" (.ref pc) (putF "_signs" (.ref psg) (putF "_operations" (.ref po) (putF "root_hook" (hookV L.hook) (putF "kept" (.ref pk) (putF "root_parameters" (.ref pa) (putF "name" (.str L.name) [])))))))))) = M9 at kk9 a9 u9
    have tpo : SqT K M9 po ots := keep_sqT u9 b12 (SqT.same s12 tpo)
    have tpa : SqT K M9 pa (L.ps.map V.str) := keep_sqT u9 b12 (SqT.same s12 tpa)
    have tpk : SqT K M9 pk kts := keep_sqT u9 b12 (SqT.same s12 tpk)
    have tps : SqT K M9 psg ((L.ops.map (fun z : Op => z.sign)).map V.str) := keep_sqT u9 b12 (SqT.same s12 tps)
    have e12 := s12 _ _ hpc8
    have f12 := s12 _ _ hpm8
    refine k M9 kk9 ⟨dx, pa, pk, po, psg, pc, pm, a9, ⟨tpa, ⟨kts, tpk, hP.tups (fun t xs z => keep_tup kk9 ha z)⟩, ⟨ots, tpo, hO.tups fun t xs z => keep_tup kk9 ha z⟩, tps, ⟨kvc, u9 pc _ (ne_of e12 b12 (by intro q; cases q)) e12, hkc, fun j p e => ?_⟩,
      ⟨kvm, u9 pm _ (ne_of f12 b12 (by intro q; cases q)) f12, hkm, hRm⟩⟩⟩
    obtain ⟨o, c, z1, z2, z3⟩ := hRc8 j p e
    exact ⟨o, c, z1, z2, keep_tup u9 b12 (s12 _ _ z3)⟩
end
end K04

namespace K04
open PySem PySem.Spec PyProof.Rows L2 EV TL LM
theorem RowsAt.nil {H : Hp} : RowsAt H [] [] := ⟨rfl, fun i k e => by simp at e⟩
theorem RowsAt.snoc {H : Hp} {us : List V} {rs : List Rw} {t : Addr} {r : Rw} (h : RowsAt H us rs) (ht : StrsAt H t r) : RowsAt H (us ++ [.ref t]) (rs ++ [r]) := by
  refine ⟨by rw [List.length_append, List.length_append, h.len]; rfl, fun i z e => ?_⟩
  by_cases hi : i < rs.length
  · rw [List.getElem?_append_left hi] at e
    rw [List.getElem?_append_left (by rw [h.len]; exact hi)]
    exact h.row i z e
  · rw [List.getElem?_append_right (Nat.le_of_not_lt hi)] at e
    have e0 : i - rs.length = 0 := by
      cases q : i - rs.length with
      | zero => rfl
      | succ j => rw [q] at e; simp at e
    rw [e0] at e
    obtain rfl : r = z := by simpa using e
    rw [List.getElem?_append_right (by rw [h.len]; exact Nat.le_of_not_lt hi), h.len, e0]
    exact ⟨t, rfl, ht⟩
theorem RowsAt.upd {H : Hp} {us : List V} {rs : List Rw} {D : Addr} {o : HO} (h : RowsAt H us rs) (n : ∀ v ∈ us, v ≠ .ref D) : RowsAt (L2.upd H D o) us rs :=
  ⟨h.len, fun i r e => by
    obtain ⟨a, z1, z2⟩ := h.row i r e
    have na : a ≠ D := fun q => n _ (List.mem_of_getElem? z1) (by rw [q])
    exact ⟨a, z1, by show L2.upd H D o a = _; rw [upd_ne na]; exact z2⟩⟩
section
variable {P : Program} {w : World} {K : Fg} {mg : Str → Option Value} {base : Heap}
def spRead (K : Fg) (C CB : Addr) : Sp := fun vs H Q E => ∃ z : Str, vs = [.ref C, .str z] ∧ z.length ≤ 1000000 ∧ PyData.strOk z = true ∧ (∀ k, readM z = .error k → Raised CB "at" (.int (k : Nat)) H E) ∧
  ∀ L, readM z = .ok L → ∀ a H', Same H H' → H a = none → LibAt K H' C a L → Q (.ref a) H'
theorem ok_read {f C CB : Addr} {fd : FuncData} (F : Fun K "read" "Library.read" s_Library_read f fd) (T : Cst K mg) (hC : LibC K C)
    (O_is_first_row : Ok P w K mg base 3 "_is_first_row" ["row"] (spRowB firstRow)) (O_is_hook_row : Ok P w K mg base 1 "_is_hook_row" ["row"] (spRowB hookRow))
    (O_parameters_of : Ok P w K mg base 4 "_parameters_of" ["rows"] spParams) (O_kept_of : Ok P w K mg base 4 "_kept_of" ["rows", "parameters"] (spKept K))
    (O_operations_of : OkX P w K mg base 6 "_operations_of" ["rows", "start", "parameters", "root_hook"] (spOps CB))
    (O_Library : OkI P w K mg base 3 "Library" C ["self", "name", "root_parameters", "kept", "root_hook", "operations"] (spInit K C))
    (O_BadLibrary : OkC P w K mg base 1 "BadLibrary" CB ["self", "at"] (spErr1 CB "at")) (ty_BadLibrary : PySem.W.typeIn K (.ref CB) = some (.type "type")) :
    FnOk P w K mg base (L2.CX P w) 7 f fd ["cls", "text"] (spRead K C CB) := by
  refine F.okX sc_Library_read (fun vs H Q E h => ?_) (fun cdv A outer s H vs Q E hr h => ?_)
  · obtain ⟨z, rfl, _⟩ := h
    rfl
  · obtain ⟨z, rfl, hz, ho, ke, ko⟩ := h
    refine ⟨_, (pss_cons (ps_if (pt_not (pt_val (pe_callB call_isi (by rfl) T.n_isinstance (by decide +kernel) (pa_cons (pv 1) (pa_cons (pe_bltn (v := .ty "str") rfl T.n_str (by decide +kernel) rfl) pa_nil))))) (pss_one (ps_raise rfl (takes_of rfl rfl rfl rfl) (pmk_x O_BadLibrary ty_BadLibrary (hr.mono (by decide)) (pa_cons (pe_un un_neg pe_int) pa_nil)))) pss_nil)
    (pss_cons (ps_setLc (i := 2) (own := [("line", 7)]) rfl sc_Library_read.nd rfl rfl (sw_true rfl rfl rfl (by decide +kernel)) (pi_list (pe_split (pv 1) pe_str)) (blkOk_by (own := [("line", 7)]) (N := ["cls", "text", "rows", "parameters", "at", "kept", "root_hook", "line"]) (sc := defScope s_Library_read) (by decide +kernel)) (fun _ _ _ _ _ => (pg_name (i := 7) sc_Library_read.nd rfl (Or.inl rfl))) (fun _ _ _ _ _ => pts_nil) (fun _ _ _ _ _ => (pe_split (pv 7) pe_str)))
    (pss_cons (ps_if (pt_not (pt_val (pe_callO O_is_first_row (hr.mono (by decide)) (pa_cons (pe_ix ix_list (pv 2) pe_int (fun _ _ => rfl)) pa_nil)))) (pss_one (ps_raise rfl (takes_of rfl rfl rfl rfl) (pmk_x O_BadLibrary ty_BadLibrary (hr.mono (by decide)) (pa_cons pe_int pa_nil)))) pss_nil)
    (pss_cons (ps_set (i := 3) sc_Library_read.nd rfl (Or.inl rfl) (pe_callO O_parameters_of (hr.mono (by decide)) (pa_cons (pe_slice sl_list (pv 2) (po_some pe_int) (po_some (pe_op op_add pe_int (pe_gv T.g_MOST_PARAMETERS)))) pa_nil)))
    (pss_cons (ps_if (pt_not (pt_truth (pv 3) (by intro _; rfl))) (pss_one (ps_raise rfl (takes_of rfl rfl rfl rfl) (pmk_x O_BadLibrary ty_BadLibrary (hr.mono (by decide)) (pa_cons pe_int pa_nil)))) pss_nil)
    (pss_cons (ps_set (i := 4) sc_Library_read.nd rfl (Or.inl rfl) (pe_op op_add pe_int (pe_callB call_len_seq (by rfl) T.n_len (by decide +kernel) (pa_cons (pv 3) pa_nil))))
    (pss_cons (ps_set (i := 5) sc_Library_read.nd rfl (Or.inl rfl) (pe_callO O_kept_of (hr.mono (by decide)) (pa_cons (pe_slice sl_list (pv 2) (po_some (pv 4)) (po_some (pe_op op_add (pv 4) (pe_gv T.g_MOST_KEPT)))) (pa_cons (pv 3) pa_nil))))
    (pss_cons (ps_set (i := 4) sc_Library_read.nd rfl (Or.inl rfl) (pe_op op_add (pv 4) (pe_callB call_len_seq (by rfl) T.n_len (by decide +kernel) (pa_cons (pv 5) pa_nil))))
    (pss_cons (ps_set (i := 6) sc_Library_read.nd rfl (Or.inl rfl) pe_non)
    (pss_cons (ps_mid (ps_if (PW.pt (pw_and (pt_cmpR op_lt (pv 4) (pe_callB call_len_seq (by rfl) T.n_len (by decide +kernel) (pa_cons (pv 2) pa_nil)) (nomark _)) (pw_and1 (pt_val (pe_callO O_is_hook_row (hr.mono (by decide)) (pa_cons (pe_ix ix_list (pv 2) (pv 4) (fun _ _ => rfl)) pa_nil)))))) (pss_cons (ps_set (i := 6) sc_Library_read.nd rfl (Or.inl rfl) (pe_ix ix_list (pe_ix ix_list (pv 2) (pv 4) (fun _ _ => rfl)) pe_int (fun _ _ => rfl)))
    (pss_one (ps_set (i := 4) sc_Library_read.nd rfl (Or.inl rfl) (pe_op op_add (pv 4) pe_int)))) pss_nil))
    (pss_one (ps_ret (pe_makeV O_Library (hr.mono (by decide)) (pv 0) (pa_cons (pe_ix ix_list (pe_ix ix_list (pv 2) pe_int (fun _ _ => rfl)) pe_int (fun _ _ => rfl)) (pa_cons (pv 3) (pa_cons (pv 5) (pa_cons (pv 6) (pa_cons (pe_callX (takes_of rfl rfl rfl rfl) O_operations_of (hr.mono (by decide)) (pa_cons (pv 2) (pa_cons (pv 4) (pa_cons (pv 3) (pa_cons (pv 6) pa_nil))))) pa_nil)))))))))))))))))), ?_⟩
    obtain ⟨hB, hl, hne⟩ := rows_ok hz ho
    have er : readM z = readRows (rowsM z) := rfl
    refine ⟨_, rfl, _, _, _, _, true, rfl, .ty "str", .base (.str z), kit_ty (by decide +kernel), _, rfl, iteF ?_⟩
    refine ⟨_, rfl, ⟨_, rfl⟩, z, _, rfl, rfl, by decide +kernel, by rw [sizeLine_eq]; omega, fun p np => ⟨p, rfl, ⟨_, SqL.of upd_same⟩, fun D nD => ?_⟩⟩
    have hp : upd H p (.lst ((Txt.split z "
").map V.str)) p = some (.lst ((Txt.split z "
").map V.str)) := upd_same
    have s1 : Same H (upd H p (.lst ((Txt.split z "
").map V.str))) := same_upd np
    generalize upd H p (.lst ((Txt.split z "
").map V.str)) = G1 at hp s1 nD
    have hq1 := split_len tl_nl nl_all z
    refine lc_it (walk_list (xs := (Txt.split z "
").map V.str)) (fun i G => Same G1 G ∧ ∃ us, G D = some (.lst us) ∧ RowsAt G us ((rowsM z).take i) ∧ ∀ v ∈ us, v ≠ V.ref D) ⟨same_upd nD, [], upd_same, RowsAt.nil, fun v hv => by cases hv⟩ (fun i G _ q => SqL.of (q.1 _ _ hp)) ?_ ?_
    · rintro i x G2 G3 hi ⟨s2, us, hD, hR, hn⟩ ⟨rfl, hx⟩
      obtain ⟨l, hl2, rfl⟩ : ∃ l, (Txt.split z "
")[i]? = some l ∧ V.str l = x := by
        rw [List.getElem?_map] at hx
        cases e : (Txt.split z "
")[i]? with
        | none => rw [e] at hx; cases hx
        | some l => rw [e] at hx; exact ⟨l, rfl, by injection hx⟩
      have hll := le_sum _ l (List.mem_of_getElem? hl2)
      have eri : (rowsM z)[i]? = some (Txt.split l " ") := by
        unfold rowsM
        rw [List.getElem?_map, hl2]
        rfl
      have ul : us.length ≤ 1000001 := by rw [hR.len, List.length_take]; omega
      refine ⟨rfl, _, rfl, ⟨_, rfl⟩, l, _, rfl, rfl, by decide +kernel, by rw [sizeLine_eq]; omega, fun q nq => ⟨us, same_upd nq _ _ hD, by rw [sizeLine_eq]; omega, ?_⟩⟩
      have qD : q ≠ D := fun e => by rw [e, hD] at nq; cases nq
      refine ⟨same_upd' (s2.trans (same_upd nq)) nD, us ++ [.ref q], upd_same, ?_, ?_⟩
      · rw [List.take_succ, eri]
        refine RowsAt.upd (RowsAt.snoc (hR.same (same_upd nq)) upd_same) fun v hv => ?_
        rcases List.mem_append.mp hv with hv | hv
        · exact hn v hv
        · rw [List.mem_singleton.mp hv]
          exact fun e => qD (by injection e)
      · intro v hv
        rcases List.mem_append.mp hv with hv | hv
        · exact hn v hv
        · rw [List.mem_singleton.mp hv]
          exact fun e => qD (by injection e)
    rintro G2 ⟨s2, us, hD, hR, hn⟩
    rw [List.length_map, List.take_of_length_le (by unfold rowsM; rw [List.length_map]; exact Nat.le_refl _)] at hR
    have sG2 : Same H G2 := s1.trans s2
    clear hp s1 s2 hn nD
    generalize hrows : rowsM z = rows at er hB hl hne hR
    obtain ⟨r0, rest, rfl⟩ : ∃ r rest, rows = r :: rest := by
      match rows, hne with
      | r :: rest, _ => exact ⟨r, rest, rfl⟩
    obtain ⟨a0, hu0, hs0⟩ := hR.row 0 r0 rfl
    have hB0 := (hB r0 (List.mem_cons_self ..)).1
    refine ⟨_, rfl, D, us, ((0 : Nat) : Int), .ref a0, rfl, rfl, SqL.of hD, atI_nat hu0, a0, r0, rfl, hs0, hB0, fun G3 s3 => ⟨_, rfl, ?_⟩⟩
    cases e1 : firstRow r0 with
    | false => exact iteT ⟨by show 1 ≤ 1000; decide, fun a9 na => ⟨G3, a9, _, rfl, rfl, na, fun H' d9 s9 nd ha hd => ⟨rfl, d9, _, ha, hd, nd, ke 0 (by rw [er]; unfold readRows; rw [show (r0 :: rest).headD [] = r0 from rfl, e1]; rfl) d9 _ ((sG2.trans s3).trans (same_raise s9 na nd)) upd_same⟩⟩⟩
    | true =>
      refine iteF ?_
      have er2 : readM z = if (paramsM (((r0 :: rest).drop 1).take 3) []).isEmpty = true then .error 1 else
          match opsOf (r0 :: rest) (if (hookAt (r0 :: rest) (1 + (paramsM (((r0 :: rest).drop 1).take 3) []).length + (keptM (((r0 :: rest).drop (1 + (paramsM (((r0 :: rest).drop 1).take 3) []).length)).take 2) (paramsM (((r0 :: rest).drop 1).take 3) []) []).length)).isSome = true
              then 1 + (paramsM (((r0 :: rest).drop 1).take 3) []).length + (keptM (((r0 :: rest).drop (1 + (paramsM (((r0 :: rest).drop 1).take 3) []).length)).take 2) (paramsM (((r0 :: rest).drop 1).take 3) []) []).length + 1
              else 1 + (paramsM (((r0 :: rest).drop 1).take 3) []).length + (keptM (((r0 :: rest).drop (1 + (paramsM (((r0 :: rest).drop 1).take 3) []).length)).take 2) (paramsM (((r0 :: rest).drop 1).take 3) []) []).length)
            (paramsM (((r0 :: rest).drop 1).take 3) []) (hookAt (r0 :: rest) (1 + (paramsM (((r0 :: rest).drop 1).take 3) []).length + (keptM (((r0 :: rest).drop (1 + (paramsM (((r0 :: rest).drop 1).take 3) []).length)).take 2) (paramsM (((r0 :: rest).drop 1).take 3) []) []).length)) with
          | .error k => .error k
          | .ok ops => .ok ⟨r0.getD 1 "", paramsM (((r0 :: rest).drop 1).take 3) [], keptM (((r0 :: rest).drop (1 + (paramsM (((r0 :: rest).drop 1).take 3) []).length)).take 2) (paramsM (((r0 :: rest).drop 1).take 3) []) [],
              hookAt (r0 :: rest) (1 + (paramsM (((r0 :: rest).drop 1).take 3) []).length + (keptM (((r0 :: rest).drop (1 + (paramsM (((r0 :: rest).drop 1).take 3) []).length)).take 2) (paramsM (((r0 :: rest).drop 1).take 3) []) []).length), ops⟩ := by
        rw [er]
        unfold readRows
        rw [show (r0 :: rest).headD [] = r0 from rfl, e1]
        rfl
      obtain ⟨gp1, gp2⟩ := params_good (((r0 :: rest).drop 1).take 3) [] (fun f hf => by cases hf)
      refine ⟨_, rfl, 1, rfl, _, _, rfl, rfl, _, rfl, D, us, rfl, SqL.of (s3 _ _ hD), fun c nc => ?_⟩
      have ec : upd G3 c (.lst (cutV us (some 1) (some (1 + 3)))) c = some (.lst ((us.drop 1).take 3)) := by
        rw [upd_same, show cutV us (some 1) (some (1 + 3)) = (us.take 4).drop 1 from cut_to us 1 4, List.drop_take]
      have s4 : Same G2 (upd G3 c (.lst (cutV us (some 1) (some (1 + 3))))) := s3.trans (same_upd nc)
      generalize upd G3 c (.lst (cutV us (some 1) (some (1 + 3)))) = G4 at ec s4
      refine ⟨c, _, _, rfl, ec, ((hR.same s4).drop 1).take 3, (fun r hr => (hB r (List.mem_of_mem_drop (List.mem_of_mem_take hr))).1), by rw [List.length_take]; omega, fun pp G5 s5 npp hpp => ?_⟩
      generalize hps : paramsM (((r0 :: rest).drop 1).take 3) [] = ps at er2 gp1 gp2 hpp
      have s25 := s4.trans s5
      refine ⟨_, rfl, _, .inl ⟨_, SqL.of hpp, rfl⟩, ?_⟩
      cases ep : ps with
      | nil => exact iteT ⟨by show 1 ≤ 1000; decide, fun a9 na => ⟨G5, a9, _, rfl, rfl, na, fun H' d9 s9 nd ha hd => ⟨rfl, d9, _, ha, hd, nd, ke 1 (by rw [er2, ep]; rfl) d9 _ ((sG2.trans s25).trans (same_raise s9 na nd)) upd_same⟩⟩⟩
      | cons p0 pr =>
      rw [← ep]
      have hne : ps.isEmpty = false := by rw [ep]; rfl
      rw [hne, if_neg Bool.false_ne_true] at er2
      rw [show (!!(List.map V.str ps).isEmpty) = false by rw [ep]; rfl]
      refine iteF ?_
      have lps : ps.length ≤ 3 := by
        rw [List.length_take] at gp2
        simp at gp2
        omega
      have lps2 : 1 + ps.length ≤ (r0 :: rest).length := by
        rw [List.length_take, List.length_drop] at gp2
        simp at gp2 ⊢
        omega
      refine ⟨_, rfl, pp, _, rfl, .inl (SqL.of hpp), 1, ((ps.length : Nat) : Int), rfl, by rw [List.length_map], ?_⟩
      have hD5 := s25 _ _ hD
      refine ⟨_, rfl, _, rfl, _, rfl, _, rfl, _, _, rfl, rfl, _, rfl, D, us, rfl, SqL.of hD5, fun c2 nc2 => ?_⟩
      have ec2 : upd G5 c2 (.lst (cutV us (some (1 + ((ps.length : Nat) : Int))) (some (1 + ((ps.length : Nat) : Int) + 2)))) c2 = some (.lst ((us.drop (1 + ps.length)).take 2)) := by
        rw [upd_same, show cutV us (some (1 + ((ps.length : Nat) : Int))) (some (1 + ((ps.length : Nat) : Int) + 2)) = (us.take (1 + ps.length + 2)).drop (1 + ps.length) from cut_to us (1 + ps.length) (1 + ps.length + 2), List.drop_take,
          show 1 + ps.length + 2 - (1 + ps.length) = 2 by omega]
      have s26 : Same G2 (upd G5 c2 (.lst (cutV us (some (1 + ((ps.length : Nat) : Int))) (some (1 + ((ps.length : Nat) : Int) + 2))))) := s25.trans (same_upd nc2)
      have s56 : Same G5 (upd G5 c2 (.lst (cutV us (some (1 + ((ps.length : Nat) : Int))) (some (1 + ((ps.length : Nat) : Int) + 2))))) := same_upd nc2
      generalize upd G5 c2 (.lst (cutV us (some (1 + ((ps.length : Nat) : Int))) (some (1 + ((ps.length : Nat) : Int) + 2)))) = G6 at ec2 s26 s56
      refine ⟨_, rfl, c2, pp, _, _, ps, rfl, ec2, ((hR.same s26).drop (1 + ps.length)).take 2, (fun r hr => (hB r (List.mem_of_mem_drop (List.mem_of_mem_take hr))).1), by rw [List.length_take]; omega, SqL.of (s56 _ _ hpp), by omega, fun pk kts G7 s7 npk hpk hP => ?_⟩
      obtain ⟨gk1, gk2⟩ := kept_good (((r0 :: rest).drop (1 + ps.length)).take 2) ps [] (fun f hf => sh_field (gp1 f hf)) (fun q hq => by cases hq)
      generalize hkept : keptM (((r0 :: rest).drop (1 + ps.length)).take 2) ps [] = kept at er2 gk1 gk2 hP
      have lk2 : kept.length ≤ 2 := by
        rw [List.length_take] at gk2
        simp at gk2
        omega
      have lk3 : 1 + ps.length + kept.length ≤ (r0 :: rest).length := by
        rw [List.length_take, List.length_drop] at gk2
        simp at gk2 lps2 ⊢
        omega
      have s27 := s26.trans s7
      refine ⟨_, rfl, _, rfl, pk, _, rfl, .inl (SqL.of hpk), ((1 + ps.length : Nat) : Int), ((kept.length : Nat) : Int), rfl, by rw [hP.len], ?_⟩
      refine ⟨fun σ' G' => Same G7 G' ∧ σ' = [some (.ref C), some (.str z), some (.ref D), some (.ref pp), some (.int (((if (hookAt (r0 :: rest) (1 + ps.length + kept.length)).isSome = true then 1 + ps.length + kept.length + 1 else 1 + ps.length + kept.length) : Nat) : Int)),
          some (.ref pk), some (hookV (hookAt (r0 :: rest) (1 + ps.length + kept.length))), none], ?_, ?_⟩
      · have hD7 := s27 _ _ hD
        refine ⟨_, rfl, _, rfl, D, _, rfl, .inl (SqL.of hD7), ((1 + ps.length + kept.length : Nat) : Int), ((us.length : Nat) : Int), rfl, rfl, _, rfl, ite2 (fun h1 => ?_) (fun h1 => ?_)⟩
        · have h1' : 1 + ps.length + kept.length < (r0 :: rest).length := by
            have := of_decide_eq_true h1
            rw [hR.len] at this
            omega
          have erow : (r0 :: rest)[1 + ps.length + kept.length]? = some (r0 :: rest)[1 + ps.length + kept.length] := List.getElem?_eq_getElem h1'
          obtain ⟨a, hua, hs⟩ := hR.row _ _ erow
          have hBr := (hB _ (List.getElem_mem h1')).1
          generalize (r0 :: rest)[1 + ps.length + kept.length] = r at erow hs hBr
          have hs7 := s27 _ _ hs
          refine ⟨_, rfl, _, rfl, D, us, ((1 + ps.length + kept.length : Nat) : Int), .ref a, rfl, rfl, SqL.of hD7, atI_nat hua, a, r, rfl, hs7, hBr, fun G8 s8 => ⟨_, rfl, ?_⟩⟩
          cases eh : hookRow r with
          | false =>
            have eK : hookAt (r0 :: rest) (1 + ps.length + kept.length) = none := by
              unfold hookAt
              rw [erow]
              show (if hookRow r = true then _ else _) = _
              rw [if_neg (by rw [eh]; exact Bool.false_ne_true)]
            rw [eK]
            exact iteF ⟨s8, rfl⟩
          | true =>
            obtain ⟨x, y, rfl⟩ : ∃ x y, r = [x, y] := by
              unfold hookRow at eh
              split at eh
              · exact ⟨_, _, rfl⟩
              · cases eh
            have eK : hookAt (r0 :: rest) (1 + ps.length + kept.length) = some y := by
              unfold hookAt
              rw [erow]
              show (if hookRow [x, y] = true then some y else _) = _
              rw [if_pos eh]
            rw [eK]
            exact iteT ⟨_, rfl, _, rfl, D, us, ((1 + ps.length + kept.length : Nat) : Int), .ref a, rfl, rfl, SqL.of (s8 _ _ hD7), atI_nat hua, a, _, ((1 : Nat) : Int), _, rfl, rfl, SqL.of (s8 _ _ hs7), at_str (i := 1) rfl, _, rfl, _, _, rfl, rfl, s8, rfl⟩
        · have h1' : (r0 :: rest)[1 + ps.length + kept.length]? = none := by
            rw [List.getElem?_eq_none_iff]
            have : ¬ (((1 + ps.length + kept.length : Nat) : Int) < ((us.length : Nat) : Int)) := fun q => h1 (decide_eq_true q)
            rw [hR.len] at this
            omega
          have eK : hookAt (r0 :: rest) (1 + ps.length + kept.length) = none := by
            unfold hookAt
            rw [h1']
          rw [eK]
          exact iteF ⟨Same.refl _, rfl⟩
      · rintro σ' G8 ⟨s8, rfl⟩
        have s28 := s27.trans s8
        have sH8 := sG2.trans s28
        have hD8 := s28 _ _ hD
        obtain ⟨x0, n0, rfl⟩ : ∃ x0 n0, r0 = [x0, n0] := by
          unfold firstRow at e1
          split at e1
          · exact ⟨_, _, rfl⟩
          · cases e1
        have cn : className n0 = true := by
          have q : (x0 == ("library" : Str) && className n0) = true := e1
          rw [Bool.and_eq_true] at q
          exact q.2
        generalize hHK : hookAt ([x0, n0] :: rest) (1 + ps.length + kept.length) = HK at er2
        have shk : ∀ h, HK = some h → Short h := by
          intro h e
          rw [e] at hHK
          unfold hookAt at hHK
          split at hHK
          · rename_i rr _
            split at hHK
            · rename_i c
              injection hHK with hHK
              unfold hookRow at c
              split at c
              · rw [Bool.and_eq_true] at c
                have q := sh_hooks _ (List.contains_iff_mem.mp c.2)
                rw [← hHK]
                exact q
              · cases c
            · cases hHK
          · cases hHK
        have lat : (if HK.isSome = true then 1 + ps.length + kept.length + 1 else 1 + ps.length + kept.length) ≤ ([x0, n0] :: rest).length := by
          cases HK with
          | none => exact lk3
          | some h =>
            show 1 + ps.length + kept.length + 1 ≤ _
            unfold hookAt at hHK
            split at hHK
            · rename_i rr e
              exact (List.getElem?_eq_some_iff.mp e).1
            · cases hHK
        generalize (if HK.isSome = true then 1 + ps.length + kept.length + 1 else 1 + ps.length + kept.length) = at3 at er2 lat
        have hpp8 : StrsAt G8 pp ps := s8 _ _ (s7 _ _ (s56 _ _ hpp))
        refine ⟨_, rfl, rfl, _, rfl, D, us, ((0 : Nat) : Int), .ref a0, rfl, rfl, SqL.of hD8, atI_nat hu0, a0, _, ((1 : Nat) : Int), _, rfl, rfl, SqL.of (s28 _ _ hs0), at_str (i := 1) rfl, _, rfl, _, rfl, _, rfl, _, rfl, _, rfl, _, rfl, _, rfl,
          D, pp, us, _, at3, ps, HK, rfl, hD8, hR.same s28, hB, by omega, lat, hpp8, by omega, (fun q hq => strOk_field (gp1 q hq)), (fun k e d H' s9 hx => ke k (by rw [er2, e]) d H' (sH8.trans s9) hx), fun ops eo po ots G9 s9 npo hpo hO9 x dx nx ndx nex => ?_⟩
        have eL : readM z = .ok ⟨n0, ps, kept, HK, ops⟩ := by rw [er2, eo]; rfl
        have sH9 := sH8.trans s9
        have nx2 : upd G9 dx (.own x) x = none := by rw [upd_ne (Ne.symm nex)]; exact nx
        have s910 : Same G9 (upd (upd G9 dx (.own x)) x (.ins C dx [])) := (same_upd ndx).trans (same_upd nx2)
        have hg : (∀ o ∈ ops, OpGood ps o) ∧ (ops.map (·.sign)).Nodup ∧ ops.length ≤ 6 := by
          unfold opsOf at eo
          split at eo
          · cases eo
          · exact ops_good _ _ [] ops eo (fun o ho => by cases ho) (by simp) (by simp)
        refine ⟨false, x, dx, pp, pk, po, ⟨n0, ps, kept, HK, ops⟩, kts, ots, rfl, upd_same, SqL.of (s910 _ _ (s9 _ _ hpp8)), SqL.of (s910 _ _ (s9 _ _ (s8 _ _ hpk))), hP.same ((s8.trans s9).trans s910), s910 _ _ hpo, hO9.same s910, hg.2.1,
          sh_class cn, (fun q hq => sh_field (gp1 q hq)), gk1, shk, by show ps.length ≤ 10; omega, by show kept.length ≤ 10; omega, by show ops.length ≤ 10; omega, ?_, fun H' kp lib => ⟨rfl, ko _ eL x H' (same_keep (sH9.trans s910) (sH9.free nx) kp) (sH9.free nx) lib⟩⟩
        intro o ho
        have g := hg.1 o ho
        exact ⟨g.sign, g.maker, fun q hq => sh_field (gp1 q (g.sub q hq)), by have := g.len; omega⟩
end
end K04

namespace K04
open PySem PySem.Spec PyProof.Rows L2 EV
/-! ### the bag of draws -/
/-- the bag at b: digits, a mixed number, a cell -/
def BagAt (H : Hp) (b : Addr) : Prop := ∃ d m c : Int, H b = some (.lst [.int d, .int m, .int c]) ∧ 0 ≤ d ∧ 0 ≤ m ∧ m < 4294967296 ∧ 0 ≤ c ∧ c < 1000000000000000000
theorem BagAt.same {H H' : Hp} {b : Addr} (h : BagAt H b) (s : Same H H') : BagAt H' b := by
  obtain ⟨d, q, c, h1, h2⟩ := h
  exact ⟨d, q, c, s _ _ h1, h2⟩
theorem BagAt.ne {H : Hp} {b a : Addr} (h : BagAt H b) (n : H a = none) : a ≠ b := fun e => by
  obtain ⟨_, _, _, y, _⟩ := h
  rw [e, y] at n
  cases n
def spTake : Sp := fun vs H Q _ => ∃ (b : Addr) (many : Int), vs = [.ref b, .int many] ∧ BagAt H b ∧ 0 < many ∧ many.natAbs < 2 ^ 200 ∧
  ∀ (r : Int) (H' : Hp), 0 ≤ r → r < many → Keep b H H' → BagAt H' b → Q (.int r) H'
section
variable {P : Program} {w : World} {K : Fg} {mg : Str → Option Value} {base : Heap}
theorem pow2n (i : Int) (h : i.natAbs < 9223372036854775808) : i.natAbs < 2 ^ 64 := Nat.lt_of_lt_of_le h (by decide)
theorem ok_law_take {f : Addr} {fd : FuncData} (F : Fun K "_law_take" "_law_take" s_law_take f fd) (T : Cst K mg) : FnOk P w K mg base CX0 1 f fd ["bag", "many"] spTake := by
  refine F.ok sc_law_take (fun vs H Q E h => ?_) (fun cdv A outer s H vs Q E hr h => ?_)
  · obtain ⟨b, many, rfl, _⟩ := h
    rfl
  · obtain ⟨b, many, rfl, ⟨d, m, c, hb, d0, m0, m1, c0, cn⟩, h0, h200, k⟩ := h
    refine ⟨_, (pss_cons (ps_if (pt_cmpR op_gt (pe_ix ix_list (pv 0) pe_int (fun _ _ => rfl)) pe_int (nomark _)) (pss_cons (ps_set (i := 2) sc_law_take.nd rfl (Or.inl rfl) (pe_op op_mod (pe_callTy call_int1 (by rfl) T.n_int (by decide +kernel) (pa_cons (pe_ix ix_list (pv 0) pe_int (fun _ _ => rfl)) pa_nil)) (pv 1)))
    (pss_cons (ps_asg (pe_op op_fdivW (pe_ix ix_list (pv 0) pe_int (fun _ _ => rfl)) (pv 1)) (pg_sub (pv 0) pe_int set_list))
    (pss_one (ps_ret (pv 2))))) pss_nil)
    (pss_cons (ps_asg (pe_op op_mod (pe_callTy call_int1 (by rfl) T.n_int (by decide +kernel) (pa_cons (pe_op op_add (pe_op op_add (pe_op op_mul (pe_ix ix_list (pv 0) pe_int (fun _ _ => rfl)) pe_int) (pe_ix ix_list (pv 0) pe_int (fun _ _ => rfl))) pe_int) pa_nil)) pe_int) (pg_sub (pv 0) pe_int set_list))
    (pss_one (ps_ret (pe_op op_mod (pe_op op_fdiv (pe_op op_mod (pe_callTy call_int1 (by rfl) T.n_int (by decide +kernel) (pa_cons (pe_op op_add (pe_op op_mul (pe_op op_fdiv (pe_ix ix_list (pv 0) pe_int (fun _ _ => rfl)) pe_int) pe_int) (pe_ix ix_list (pv 0) pe_int (fun _ _ => rfl))) pa_nil)) pe_int) pe_int) (pv 1)))))), ?_⟩
    refine ⟨_, rfl, b, _, 0, _, rfl, rfl, SqL.of hb, rfl, _, _, rfl, rfl, _, rfl, ?_⟩
    refine ite2 (fun hd => ?_) (fun hd => ?_)
    · have hd' : 0 < d := of_decide_eq_true hd
      refine ⟨_, rfl, b, _, 0, _, rfl, rfl, SqL.of hb, rfl, .inl ⟨_, rfl, _, rfl, _, _, rfl, rfl, h0, ?_⟩⟩
      refine ⟨_, rfl, b, _, 0, _, rfl, rfl, SqL.of hb, rfl, _, rfl, _, _, rfl, rfl, wide_div h0 h200 (by decide) (by decide), ?_⟩
      refine ⟨_, rfl, b, _, 0, 0, rfl, rfl, hb, rfl, ?_⟩
      refine ⟨_, rfl, k _ _ (Int.emod_nonneg _ (by omega)) (Int.emod_lt_of_pos _ h0) Keep.upd ⟨d / many, m, c, upd_same, Int.ediv_nonneg d0 (by omega), m0, m1, c0, cn⟩⟩
    · refine ⟨_, rfl, b, _, 1, _, rfl, rfl, SqL.of hb, rfl, _, _, rfl, rfl, .inl ⟨by omega, by omega⟩, _, rfl, b, _, 2, _, rfl, rfl, SqL.of hb, rfl, _, _, rfl, rfl, _, _, rfl, rfl, .inl ⟨_, rfl, _, _, rfl, rfl, by show (0 : Int) < 2147483587; decide, ?_⟩⟩
      refine ⟨_, rfl, b, _, 1, 1, rfl, rfl, hb, rfl, ?_⟩
      have z0 := Int.emod_nonneg (m * 39373 + c + 12347) (show (2147483587 : Int) ≠ 0 by decide)
      have z1 := Int.emod_lt_of_pos (m * 39373 + c + 12347) (show (0 : Int) < 2147483587 by decide)
      have hb1 : upd H b (.lst ([V.int d, .int m, .int c].set 1 (.int ((m * 39373 + c + 12347) % 2147483587)))) b = some (.lst [.int d, .int ((m * 39373 + c + 12347) % 2147483587), .int c]) := upd_same
      refine ⟨_, rfl, b, _, 1, _, rfl, rfl, SqL.of hb1, rfl, _, _, rfl, rfl, ⟨by decide, by decide⟩, _, _, rfl, rfl, .inl ⟨by omega, by omega⟩, _, rfl, b, _, 2, _, rfl, rfl, SqL.of hb1, rfl, _, _, rfl, rfl,
        .inl ⟨_, rfl, _, _, rfl, rfl, by show (0 : Int) < 2147483629; decide, _, _, rfl, rfl, ⟨by decide, by decide⟩, _, rfl, _, _, rfl, rfl, h0, ?_⟩⟩
      exact k _ _ (Int.emod_nonneg _ (by omega)) (Int.emod_lt_of_pos _ h0) Keep.upd ⟨d, _, c, upd_same, d0, z0, by omega, c0, cn⟩
def spBag (K : Fg) : Sp := fun vs H Q _ => ∃ (a : Addr) (ns : List Int) (i salt : Nat), vs = [.ref a, .int (i : Nat), .int (salt : Nat)] ∧ SqL K H a (ns.map V.int) ∧ i ≤ 63 ∧ salt ≤ 100000 ∧
  ∀ (b : Addr) (H' : Hp), H b = none → Same H H' → BagAt H' b → Q (.ref b) H'
theorem cut_take (xs : List V) (k : Nat) : cutV xs none (some (k : Int)) = xs.take k := by
  unfold cutV
  rw [HT.sIx_nat, HT.sIx_none, List.drop_zero, Nat.sub_zero]
  rcases Nat.lt_or_ge xs.length k with h | h
  · rw [Nat.min_eq_right (Nat.le_of_lt h), List.take_of_length_le (Nat.le_refl _), List.take_of_length_le (Nat.le_of_lt h)]
  · rw [Nat.min_eq_left h]
theorem at_ints {ns : List Int} {i : Nat} (h : i < ns.length) : ∃ z, atI (ns.map V.int) (i : Int) = some (V.int z) := ⟨ns[i], atI_nat (by rw [List.getElem?_map, List.getElem?_eq_getElem h]; rfl)⟩
theorem ok_law_bag {f : Addr} {fd : FuncData} (F : Fun K "_law_bag" "_law_bag" s_law_bag f fd) (T : Cst K mg) : FnOk P w K mg base CX0 1 f fd ["script", "at", "salt"] (spBag K) := by
  refine F.ok sc_law_bag (fun vs H Q E h => ?_) (fun cdv A outer s H vs Q E hr h => ?_)
  · obtain ⟨a, ns, i, salt, rfl, _⟩ := h
    rfl
  · obtain ⟨a, ns, i, salt, rfl, hS, i3, hsalt, k⟩ := h
    refine ⟨_, (pss_cons (ps_set (i := 3) sc_law_bag.nd rfl (Or.inl rfl) (pe_mid (pe_ifExp (pt_cmpR op_lt (pv 1) (pe_callB call_len_seq (by rfl) T.n_len (by decide +kernel) (pa_cons (pv 0) pa_nil)) (nomark _)) (pe_ix ix_list (pv 0) (pv 1) (fun _ _ => rfl)) pe_int)))
    (pss_cons (ps_set (i := 4) sc_law_bag.nd rfl (Or.inl rfl) (pe_op op_add (pv 2) (pe_op op_mul pe_int (pv 1))))
    (pss_cons (ps_for PassesOwn.never rfl (pi_enum (by rfl) T.n_enumerate (pa_cons (pe_slice sl_list (pv 0) po_none (po_some pe_int)) pa_nil)) (pg_tup rfl (pgs_cons (pg_name (i := 5) sc_law_bag.nd rfl (Or.inl rfl)) (pgs_cons (pg_name (i := 6) sc_law_bag.nd rfl (Or.inl rfl)) pgs_nil))) (pss_one (ps_set (i := 4) sc_law_bag.nd rfl (Or.inl rfl) (pe_op op_mod (pe_callTy call_int1 (by rfl) T.n_int (by decide +kernel) (pa_cons (pe_op op_add (pe_op op_add (pe_op op_mul (pv 4) pe_int) (pe_op op_mod (pe_callTy call_int1 (by rfl) T.n_int (by decide +kernel) (pa_cons (pv 6) pa_nil)) pe_int)) (pe_op op_mul pe_int (pv 5))) pa_nil)) pe_int))))
    (pss_cons (ps_if (pt_cmpR op_ge (pe_callB call_abs (by rfl) T.n_abs (by decide +kernel) (pa_cons (pv 3) pa_nil)) (pe_op op_pow pe_int pe_int) (nomark _)) (pss_one (ps_ret (pe_lst (pa_cons (pe_callB call_abs (by rfl) T.n_abs (by decide +kernel) (pa_cons (pv 3) pa_nil)) (pa_cons (pv 4) (pa_cons pe_int pa_nil)))))) pss_nil)
    (pss_one (ps_ret (pe_lst (pa_cons pe_int (pa_cons (pv 4) (pa_cons (pe_callB call_abs (by rfl) T.n_abs (by decide +kernel) (pa_cons (pv 3) pa_nil)) pa_nil)))))))))), ?_⟩
    refine ⟨fun v H1 => (∃ z : Int, v = .int z) ∧ H = H1, ⟨_, rfl, _, rfl, a, _, rfl, .inl hS, _, _, rfl, rfl, _, rfl, ite2 (fun hd => ?_) (fun hd => ⟨⟨_, rfl⟩, rfl⟩)⟩, ?_⟩
    · have hd' := of_decide_eq_true hd
      rw [List.length_map] at hd'
      obtain ⟨z, hz⟩ := at_ints (ns := ns) (i := i) (by omega)
      exact ⟨_, rfl, _, rfl, a, _, _, _, rfl, rfl, hS, hz, ⟨z, rfl⟩, rfl⟩
    · rintro _ _ ⟨⟨z, rfl⟩, rfl⟩
      refine ⟨_, rfl, _, rfl, _, _, rfl, rfl, .inl ⟨by decide, by decide⟩, _, _, rfl, rfl, ?_⟩
      refine ⟨_, rfl, 63, rfl, a, _, rfl, hS, fun c nc => ?_⟩
      have ec : upd H c (.lst (cutV (ns.map V.int) none (some 63))) c = some (.lst ((ns.take 63).map V.int)) := by
        rw [upd_same, show cutV (ns.map V.int) none (some 63) = (ns.map V.int).take 63 from cut_take _ 63, ← List.map_take]
      have s1 : Same H (upd H c (.lst (cutV (ns.map V.int) none (some 63)))) := same_upd nc
      generalize upd H c (.lst (cutV (ns.map V.int) none (some 63))) = G at ec s1
      refine ⟨c, _, rfl, SqL.of ec, for_it walk_enum (fun j σ G' => ∃ (mm : Int) (u1 u2 : Option V), σ = [some (.ref a), some (.int (i : Nat)), some (.int (salt : Nat)), some (.int z), some (.int mm), u1, u2] ∧ 0 ≤ mm ∧ mm < 4294967296 ∧ Same G G')
        ⟨_, none, none, rfl, by omega, by omega, Same.refl _⟩ (fun j σ G' _ q => by
          obtain ⟨_, _, _, _, _, _, s⟩ := q
          exact SqL.of (s _ _ ec)) ?_ ?_⟩
      · rintro j x σ G1 G2 hj ⟨mm, u1, u2, rfl, m0, m1, s2⟩ ⟨T', kx, y, rfl, nT, rfl, ek, ey⟩
        have ek' : V.int ((j : Nat) : Int) = kx := by injection ek
        subst ek'
        obtain ⟨e, rfl⟩ : ∃ e, V.int e = y := by
          have ey' : ((ns.take 63).map V.int)[j]? = some y := ey
          rw [List.getElem?_map] at ey'
          cases q : (ns.take 63)[j]? with
          | none => rw [q] at ey'; cases ey'
          | some e => rw [q] at ey'; exact ⟨e, by injection ey'⟩
        refine ⟨T', _, rfl, SqT.of upd_same, rfl, _, _, rfl, _, _, rfl, rfl, _, rfl, _, _, rfl, rfl, .inl ⟨by omega, by omega⟩, _, rfl, .inl ⟨_, rfl, _, _, rfl, rfl, by show (0 : Int) < 2147483647; decide, _, _, rfl, rfl, _, rfl, _, _, rfl, rfl, .inl ⟨by decide, by decide⟩, _, _, rfl, rfl,
          .inl ⟨_, rfl, _, _, rfl, rfl, by show (0 : Int) < 2147483629; decide, _, _, _, rfl, Int.emod_nonneg _ (by decide), ?_, s2.trans (same_upd nT)⟩⟩⟩
        have := Int.emod_lt_of_pos (mm * 48271 + e % 2147483647 + 97 * ((j : Nat) : Int)) (show (0 : Int) < 2147483629 by decide)
        omega
      · rintro σ G1 ⟨mm, u1, u2, rfl, m0, m1, s2⟩
        refine ⟨_, rfl, _, rfl, _, _, rfl, rfl, ⟨by decide, by decide, by decide⟩, _, _, rfl, rfl, _, rfl, ite2 (fun hd => ?_) (fun hd => ?_)⟩
        · refine ⟨_, rfl, _, rfl, _, rfl, by show 3 ≤ sizeLine; decide, fun b nb => ?_⟩
          exact k b _ (s1.free (s2.free nb)) ((s1.trans s2).trans (same_upd nb)) ⟨_, _, _, upd_same, by split <;> omega, m0, m1, by decide, by decide⟩
        · refine ⟨_, rfl, _, rfl, _, rfl, by show 3 ≤ sizeLine; decide, fun b nb => ?_⟩
          have hc : (if z < 0 then -z else z) < 1000000000000000000 := Int.not_le.mp fun q => hd (decide_eq_true q)
          exact k b _ (s1.free (s2.free nb)) ((s1.trans s2).trans (same_upd nb)) ⟨_, _, _, upd_same, by decide, m0, m1, by split <;> omega, hc⟩
def spOf : Sp := fun vs H Q _ => ∃ (b l : Addr) (xs : List V), vs = [.ref b, .ref l] ∧ BagAt H b ∧ H l = some (.lst xs) ∧ l ≠ b ∧ 0 < xs.length ∧ xs.length ≤ 1000 ∧ ∀ (x : V) (H' : Hp), x ∈ xs → Keep b H H' → BagAt H' b → Q x H'
theorem small200 {z : Int} (h0 : 0 ≤ z) (h : z ≤ 1000000) : z.natAbs < 2 ^ 200 := Nat.lt_of_le_of_lt (show z.natAbs ≤ 1000000 by omega) (by decide)
theorem ok_law_of {f : Addr} {fd : FuncData} (F : Fun K "_law_of" "_law_of" s_law_of f fd) (T : Cst K mg) (O_law_take : Ok P w K mg base 1 "_law_take" ["bag", "many"] spTake) :
    FnOk P w K mg base CX0 2 f fd ["bag", "some"] spOf := by
  refine F.ok sc_law_of (fun vs H Q E h => ?_) (fun cdv A outer s H vs Q E hr h => ?_)
  · obtain ⟨b, l, xs, rfl, _⟩ := h
    rfl
  · obtain ⟨b, l, xs, rfl, B, hl, lb, p0, p1, k⟩ := h
    refine ⟨_, (pss_one (ps_ret (pe_ix ix_list (pv 1) (pe_callO O_law_take (hr.mono (by decide)) (pa_cons (pv 0) (pa_cons (pe_callB call_len_seq (by rfl) T.n_len (by decide +kernel) (pa_cons (pv 1) pa_nil)) pa_nil))) (fun _ _ => rfl)))), ?_⟩
    refine ⟨_, rfl, _, rfl, _, rfl, l, xs, rfl, .inl (SqL.of hl), ?_⟩
    refine ⟨b, _, rfl, B, by omega, small200 (by omega) (by omega), fun r H' r0 r1 kp B' => ?_⟩
    obtain ⟨j, rfl⟩ := Int.eq_ofNat_of_zero_le r0
    have hj : j < xs.length := by omega
    exact ⟨l, xs, _, xs[j], rfl, rfl, SqL.of (kp _ _ lb hl), atI_nat (List.getElem?_eq_getElem hj), k _ _ (List.getElem_mem hj) kp B'⟩
end
end K04

namespace K04
open PySem PySem.Spec PyProof.Rows L2 EV TL LM
/-- the makers of an arity, with or without the hook -/
def allowed (n : Nat) (hk : Bool) : List Str := (makersOf n).filter fun m => hk || !(m == ("hook" : Str))
section
variable {P : Program} {w : World} {K : Fg} {mg : Str → Option Value} {base : Heap}
def spMakers : Sp := fun vs H Q _ => ∃ (n : Nat) (hk : Bool), vs = [.int (n : Nat), .bl hk] ∧ n ≤ 2 ∧ ∀ p H', Same H H' → H p = none → StrsAt H' p (allowed n hk) → Q (.ref p) H'
theorem makers_len (n : Nat) : (makersOf n).length ≤ 17 := by
  match n with
  | 0 => decide
  | 1 => decide
  | _ + 2 => exact Nat.le_refl 17
theorem ok_makers {f : Addr} {fd : FuncData} (F : Fun K "makers" "Library.makers" s_Library_makers f fd) (T : Cst K mg) : FnOk P w K mg base CX0 1 f fd ["arity", "hook"] spMakers := by
  obtain ⟨aM, a0, a1, a2, m_MAKERS, tM, t0, t1, t2⟩ := T.g_MAKERS
  refine F.ok sc_Library_makers (fun vs H Q E h => ?_) (fun cdv A outer s H vs Q E hr h => ?_)
  · obtain ⟨n, hk, rfl, _⟩ := h
    rfl
  · obtain ⟨n, hk, rfl, hn, k⟩ := h
    obtain ⟨b, hat, tb⟩ := makers_at hn t0 t1 t2
    refine ⟨_, (pss_one (ps_ret (pe_lc (own := [("maker", 2)]) rfl sc_Library_makers.nd (pi_tup (pe_ix ix_tup (pe_glob (v := .ref _) rfl m_MAKERS rfl) (pv 0) (fun _ _ => rfl))) (blkOk_by (own := [("maker", 2)]) (N := ["arity", "hook", "maker"]) (sc := defScope s_Library_makers) (by decide +kernel)) (fun _ _ _ _ _ => (pg_name (i := 2) sc_Library_makers.nd rfl (Or.inl rfl))) (fun _ _ _ _ _ => (pts_one (PW.pt (pw_or (pt_truthK (K := K) (pv 1) (by intro _; rfl)) (pw_or1 (pt_cmpR op_ne (pv 2) pe_str (nomark _))))))) (fun _ _ _ _ _ => (pv 2))))), ?_⟩
    refine ⟨_, rfl, aM, _, _, _, rfl, rfl, tM.sq, hat, b, rfl, ⟨_, tb.sq⟩, fun D nD => ?_⟩
    refine lc_fm (walk_tup (xs := (makersOf n).map V.str)) (fun i => (makersOf n)[i]?.bind fun m => if (hk || !(m == ("hook" : Str))) = true then some (V.str m) else none) nD (by rw [List.length_map]; have := makers_len n; omega) (fun _ _ => tb.sq) ?_ ?_
    · rintro i x G1 G2 NT NE hi s2 ⟨rfl, hx⟩ h0 h1
      obtain ⟨m, hm, rfl⟩ : ∃ m, (makersOf n)[i]? = some m ∧ V.str m = x := by
        rw [List.getElem?_map] at hx
        cases e : (makersOf n)[i]? with
        | none => rw [e] at hx; cases hx
        | some m => rw [e] at hx; exact ⟨m, rfl, by injection hx⟩
      have ef : ((makersOf n)[i]?.bind fun m => if (hk || !(m == ("hook" : Str))) = true then some (V.str m) else none) = if (hk || !(m == ("hook" : Str))) = true then some (V.str m) else none := by rw [hm]; rfl
      refine ⟨rfl, ?_⟩
      cases hk with
      | true => exact ⟨_, rfl, true, rfl, iteT (iteT ⟨_, rfl, h1 _ _ ef (Same.refl _)⟩)⟩
      | false =>
        refine ⟨_, rfl, false, rfl, iteF ⟨_, rfl, rfl, _, rfl, ?_⟩⟩
        rw [eq_str]
        cases e : (m == ("hook" : Str)) with
        | true =>
          rw [e] at ef
          exact iteF (h0 ef _ (Same.refl _))
        | false =>
          rw [e] at ef
          exact iteT ⟨_, rfl, h1 _ _ ef (Same.refl _)⟩
    · intro G1 s2 hD
      rw [gath_filter (makersOf n) _ V.str (by rw [List.length_map])] at hD
      exact k D G1 s2 nD hD
/-! ### what is asked of a library -/
/-- the fields, looked up -/
structure LookF (fs : List (Str × V)) (n txt : Str) (hk : Option Str) (pa pk po psg pc pm : Addr) : Prop where
  name : fs.lookup ("name" : Str) = some (.str n)
  root_parameters : fs.lookup ("root_parameters" : Str) = some (.ref pa)
  kept : fs.lookup ("kept" : Str) = some (.ref pk)
  root_hook : fs.lookup ("root_hook" : Str) = some (hookV hk)
  ops : fs.lookup ("_operations" : Str) = some (.ref po)
  signs : fs.lookup ("_signs" : Str) = some (.ref psg)
  changed : fs.lookup ("_changed" : Str) = some (.ref pc)
  maker : fs.lookup ("_maker" : Str) = some (.ref pm)
  text : fs.lookup ("_text" : Str) = some (.str txt)
theorem names_ne : ((["name", "root_parameters", "kept", "root_hook", "_operations", "_signs", "_changed", "_maker", "_text"] : List Str)).Nodup := by decide +kernel
theorem look_at {fs : List (Str × V)} {f g : Str} {v : V} (h : f ≠ g) : (putF g v fs).lookup f = fs.lookup f := by rw [lookup_putF, if_neg h]
theorem look_here {fs : List (Str × V)} {f : Str} {v : V} : (putF f v fs).lookup f = some v := by rw [lookup_putF, if_pos rfl]
theorem lookF {n txt : Str} {hk : Option Str} {pa pk po psg pc pm : Addr} : LookF (libF n txt hk pa pk po psg pc pm) n txt hk pa pk po psg pc pm := by
  unfold libF
  constructor <;> repeat (first | exact look_here | rw [look_at (by decide +kernel)])
theorem lookF_no {n txt : Str} {hk : Option Str} {pa pk po psg pc pm : Addr} {m : Str} (h : m ∉ (["name", "root_parameters", "kept", "root_hook", "_operations", "_signs", "_changed", "_maker", "_text"] : List Str)) : (libF n txt hk pa pk po psg pc pm).lookup m = none := by
  unfold libF
  simp only [List.mem_cons, List.not_mem_nil, or_false, not_or] at h
  obtain ⟨h1, h2, h3, h4, h5, h6, h7, h8, h9⟩ := h
  rw [look_at h9, look_at h8, look_at h7, look_at h6, look_at h5, look_at h4, look_at h3, look_at h2, look_at h1]
  rfl
def spHas (K : Fg) (C : Addr) : Sp := fun vs H Q _ => ∃ (a : Addr) (L : Lib) (s : Str), vs = [.ref a, .str s] ∧ LibAt K H C a L ∧ Q (.bl ((L.ops.map (·.sign)).contains s)) H
theorem ok_contains {f C : Addr} {fd : FuncData} (F : Fun K "__contains__" "Library.__contains__" s_Library___contains__ f fd) (T : Cst K mg) (hC : LibC K C) : FnOk P w K mg base CX0 1 f fd ["self", "x"] (spHas K C) := by
  refine F.ok sc_Library___contains__ (fun vs H Q E h => ?_) (fun cdv A outer s H vs Q E hr h => ?_)
  · obtain ⟨a, L, z, rfl, _⟩ := h
    rfl
  · obtain ⟨a, L, z, rfl, ⟨dx, pa, pk, po, psg, pc, pm, ha, R⟩, k⟩ := h
    refine ⟨_, (pss_one (ps_ret (pe_cmpR op_in_seq (pv 1) (pe_fld (pv 0) rfl) (by rfl)))), ?_⟩
    refine ⟨_, rfl, _, rfl, a, C, dx, _, _, rfl, ha, hC.cls, hC.no _ (by simp), lookF.signs, psg, _, rfl, .inr R.signs, rfl, flat_strs _, ?_⟩
    rw [inV_strs]
    exact k
end
end K04

namespace K04
open PySem PySem.Spec PyProof.Rows L2 EV TL LM
/-! ### the law's own list of makers -/
def ways : List Str := ["call", "names", "renew", "copy"]
def mkStep (n : Nat) (found : List Str) (way : Str) : List Str :=
  let f1 := found ++ [way ++ (" own" : Str)]
  if n = 2 then
    let f2 := f1 ++ [way ++ (" other" : Str), way ++ (" deeper" : Str)]
    if (["call", "names"] : List Str).contains way then f2 ++ [way ++ (" common" : Str)] else f2
  else f1
def mkAll (n : Nat) (hk : Bool) : List Str :=
  if n = 0 then ([("named" : Str), ("call own" : Str), ("names own" : Str), ("bare own" : Str)] : List Str) else (ways.foldl (mkStep n) [("named" : Str)] ++ [("bare own" : Str)]) ++ (if hk then [("hook" : Str)] else [])
theorem mkAll_is : ∀ n ≤ 2, ∀ hk, mkAll n hk = allowed n hk := by decide +kernel
theorem mkStep_len (n : Nat) (found : List Str) (way : Str) : (mkStep n found way).length ≤ found.length + 4 := by
  unfold mkStep
  dsimp only
  split
  · split
    · simp only [List.length_append, List.length_cons, List.length_nil]; omega
    · simp only [List.length_append, List.length_cons, List.length_nil]; omega
  · simp only [List.length_append, List.length_cons, List.length_nil]; omega
section
variable {P : Program} {w : World} {K : Fg} {mg : Str → Option Value} {base : Heap}
/-- hooked: None, or any text -/
def spLawMakers : Sp := fun vs H Q _ => ∃ (n : Nat) (hk : Option Str), vs = [.int (n : Nat), hookV hk] ∧ n ≤ 2 ∧ ∀ p H', Same H H' → H p = none → StrsAt H' p (allowed n hk.isSome) → Q (.ref p) H'
theorem ok_law_makers {f : Addr} {fd : FuncData} (F : Fun K "_law_makers" "_law_makers" s_law_makers f fd) (T : Cst K mg) : FnOk P w K mg base CX0 1 f fd ["arity", "hooked"] spLawMakers := by
  refine F.ok sc_law_makers (fun vs H Q E h => ?_) (fun cdv A outer s H vs Q E hr h => ?_)
  · obtain ⟨n, hk, rfl, _⟩ := h
    rfl
  · obtain ⟨n, hk, rfl, hn, k⟩ := h
    refine ⟨_, (pss_cons (ps_if (pt_cmpR op_eq (pv 0) pe_int (nomark _)) (pss_one (ps_ret (pe_lst (pa_cons pe_str (pa_cons pe_str (pa_cons pe_str (pa_cons pe_str pa_nil))))))) pss_nil)
    (pss_cons (ps_set (i := 2) sc_law_makers.nd rfl (Or.inl rfl) (pe_lst (pa_cons pe_str pa_nil)))
    (pss_cons (ps_for PassesOwn.never rfl (pi_list (pe_lst (pa_cons pe_str (pa_cons pe_str (pa_cons pe_str (pa_cons pe_str pa_nil)))))) (pg_name (i := 3) sc_law_makers.nd rfl (Or.inl rfl)) (pss_cons (ps_expr (pe_bm PySem.F.plainAttrs_list PySem.F.slot_list_append PySem.F.type_list_append mt_append (pv 2) (pa_cons (pe_op op_add_str (pv 3) pe_str) pa_nil)))
    (pss_one (ps_if (pt_cmpR op_eq (pv 0) pe_int (nomark _)) (pss_cons (ps_set (i := 2) sc_law_makers.nd rfl (Or.inl rfl) (pe_op op_cat (pv 2) (pe_lst (pa_cons (pe_op op_add_str (pv 3) pe_str) (pa_cons (pe_op op_add_str (pv 3) pe_str) pa_nil)))))
    (pss_one (ps_if (pt_cmpR op_in_seq (pv 3) (pe_lst (pa_cons pe_str (pa_cons pe_str pa_nil))) (by rfl)) (pss_one (ps_expr (pe_bm PySem.F.plainAttrs_list PySem.F.slot_list_append PySem.F.type_list_append mt_append (pv 2) (pa_cons (pe_op op_add_str (pv 3) pe_str) pa_nil)))) pss_nil))) pss_nil))))
    (pss_one (ps_ret (pe_op op_cat (pe_op op_cat (pv 2) (pe_lst (pa_cons pe_str pa_nil))) (pe_mid (pe_ifExp (pt_cmpR op_isN (pv 1) pe_non (nomark _)) (pe_lst pa_nil) (pe_lst (pa_cons pe_str pa_nil)))))))))), ?_⟩
    rw [← mkAll_is n hn hk.isSome] at k
    refine ⟨_, rfl, rfl, _, rfl, ?_⟩
    rw [show (V.int 0 : V) = V.int ((0 : Nat) : Int) from rfl, len_is]
    refine ite2 (fun h0 => ?_) (fun h0 => ?_)
    · have e0 : n = 0 := of_decide_eq_true h0
      subst e0
      refine ⟨by show 4 ≤ sizeLine; decide, fun p np => k p _ (same_upd np) np upd_same⟩
    · have e0 : n ≠ 0 := fun z => h0 (decide_eq_true z)
      refine ⟨by show 1 ≤ sizeLine; decide, fun p0 np0 => ⟨by show 4 ≤ sizeLine; decide, fun l nl => ?_⟩⟩
      have hl : upd (upd H p0 (.lst [V.str "named"])) l (.lst [V.str "call", V.str "names", V.str "renew", V.str "copy"]) l = some (.lst (ways.map V.str)) := upd_same
      have pl0 : p0 ≠ l := fun e => by rw [← e, upd_same] at nl; cases nl
      have hp0 : upd (upd H p0 (.lst [V.str "named"])) l (.lst [V.str "call", V.str "names", V.str "renew", V.str "copy"]) p0 = some (.lst ([("named" : Str)].map V.str)) := by
        rw [upd_ne pl0]
        exact upd_same
      have s0 : Same H (upd (upd H p0 (.lst [V.str "named"])) l (.lst [V.str "call", V.str "names", V.str "renew", V.str "copy"])) := (same_upd np0).trans (same_upd nl)
      have nlH : H l = none := (same_upd np0).free nl
      generalize upd (upd H p0 (.lst [V.str "named"])) l (.lst [V.str "call", V.str "names", V.str "renew", V.str "copy"]) = G0 at hl hp0 s0
      refine ⟨l, rfl, ⟨_, SqL.of hl⟩, ?_⟩
      refine for_list (xs := ways.map V.str) (fun i σ G => ∃ (found : List Str) (p : Addr) (u : Option V), σ = [some (.int (n : Nat)), some (hookV hk), some (.ref p), u] ∧ Same H G ∧ G l = some (.lst (ways.map V.str)) ∧ p ≠ l ∧ H p = none ∧ StrsAt G p found ∧
          found.length ≤ 1 + 4 * i ∧ found = (ways.take i).foldl (mkStep n) [("named" : Str)])
        ⟨_, p0, none, rfl, s0, hl, pl0, np0, hp0, Nat.le_refl _, rfl⟩ (fun i σ G _ q => by
          obtain ⟨_, _, _, _, _, h, _⟩ := q
          exact SqL.of h) ?_ ?_
      · rintro i x σ G hx ⟨found, p, u, rfl, s1, hl1, pl, np, hp, hf, ef⟩
        obtain ⟨way, hw, rfl⟩ : ∃ way, ways[i]? = some way ∧ V.str way = x := by
          rw [List.getElem?_map] at hx
          cases e : ways[i]? with
          | none => rw [e] at hx; cases hx
          | some way => rw [e] at hx; exact ⟨way, rfl, by injection hx⟩
        have hi4 : i < 4 := (List.getElem?_eq_some_iff.mp hw).1
        have hwl : way.length ≤ 5 := by
          have key : ∀ w ∈ ways, w.length ≤ 5 := by decide +kernel
          exact key way (List.mem_of_getElem? hw)
        have estep : mkStep n found way = (ways.take (i + 1)).foldl (mkStep n) [("named" : Str)] := by
          rw [List.take_succ, hw, List.foldl_append, ← ef]
          rfl
        have l1 : (" own" : Str).length = 4 := by decide +kernel
        have l2 : (" other" : Str).length = 6 := by decide +kernel
        have l3 : (" deeper" : Str).length = 7 := by decide +kernel
        have l4 : (" common" : Str).length = 7 := by decide +kernel
        refine ⟨_, rfl, .inl ⟨rfl, _, SqL.of hp⟩, _, rfl, way, _, rfl, rfl, by rw [l1, sizeLine_eq]; omega, p, _, _, rfl, rfl, hp, by rw [List.length_map, sizeLine_eq]; omega, ?_⟩
        have e1 : upd G p (.lst (found.map V.str ++ [V.str (way ++ (" own" : Str))])) p = some (.lst ((found ++ [way ++ (" own" : Str)]).map V.str)) := by
          rw [upd_same, List.map_append]
          rfl
        have s2 : Same H (upd G p (.lst (found.map V.str ++ [V.str (way ++ (" own" : Str))]))) := same_upd' s1 np
        have hl2 : upd G p (.lst (found.map V.str ++ [V.str (way ++ (" own" : Str))])) l = some (.lst (ways.map V.str)) := by
          rw [upd_ne (Ne.symm pl)]
          exact hl1
        generalize upd G p (.lst (found.map V.str ++ [V.str (way ++ (" own" : Str))])) = G2 at e1 s2 hl2
        have lf1 : (found ++ [way ++ (" own" : Str)]).length ≤ 2 + 4 * i := by
          rw [List.length_append]
          show found.length + 1 ≤ _
          omega
        have lnx := mkStep_len n found way
        refine ⟨_, rfl, rfl, _, rfl, ?_⟩
        rw [show (V.int 2 : V) = V.int ((2 : Nat) : Int) from rfl, len_is]
        refine ite2 (fun h2 => ?_) (fun h2 => ?_)
        · have e2 : n = 2 := of_decide_eq_true h2
          refine ⟨_, rfl, _, rfl, way, _, rfl, rfl, by rw [l2, sizeLine_eq]; omega, _, rfl, way, _, rfl, rfl, by rw [l3, sizeLine_eq]; omega, by show 2 ≤ sizeLine; decide, fun q nq => ?_⟩
          have hq : upd G2 q (.lst [V.str (way ++ (" other" : Str)), V.str (way ++ (" deeper" : Str))]) q = some (.lst [V.str (way ++ (" other" : Str)), V.str (way ++ (" deeper" : Str))]) := upd_same
          have s3 : Same G2 (upd G2 q (.lst [V.str (way ++ (" other" : Str)), V.str (way ++ (" deeper" : Str))])) := same_upd nq
          generalize upd G2 q (.lst [V.str (way ++ (" other" : Str)), V.str (way ++ (" deeper" : Str))]) = G3 at hq s3
          refine ⟨p, q, _, _, rfl, rfl, s3 _ _ e1, hq, by rw [List.length_map, sizeLine_eq]; show _ + 2 ≤ _; omega, fun p2 np2 => ?_⟩
          have hp2 : upd G3 p2 (.lst ((found ++ [way ++ (" own" : Str)]).map V.str ++ [V.str (way ++ (" other" : Str)), V.str (way ++ (" deeper" : Str))])) p2 = some (.lst ((found ++ [way ++ (" own" : Str)] ++ [way ++ (" other" : Str), way ++ (" deeper" : Str)]).map V.str)) := by
            rw [upd_same, List.map_append (l₂ := [way ++ (" other" : Str), way ++ (" deeper" : Str)])]
            rfl
          have s4 : Same G3 (upd G3 p2 (.lst ((found ++ [way ++ (" own" : Str)]).map V.str ++ [V.str (way ++ (" other" : Str)), V.str (way ++ (" deeper" : Str))]))) := same_upd np2
          have np2H : H p2 = none := (s2.trans s3).free np2
          have p2l : p2 ≠ l := fun e => by
            rw [e, s3 _ _ hl2] at np2
            cases np2
          generalize upd G3 p2 (.lst ((found ++ [way ++ (" own" : Str)]).map V.str ++ [V.str (way ++ (" other" : Str)), V.str (way ++ (" deeper" : Str))])) = G4 at hp2 s4
          refine ⟨_, rfl, by show 2 ≤ sizeLine; decide, fun l5 nl5 => ⟨l5, _, rfl, .inl (SqL.of upd_same), rfl, rfl, _, rfl, ?_⟩⟩
          have s5 : Same G4 (upd G4 l5 (.lst [V.str "call", V.str "names"])) := same_upd nl5
          rw [show inV (.str way) [V.str "call", V.str "names"] = (["call", "names"] : List Str).contains way from inV_strs way ["call", "names"]]
          generalize upd G4 l5 (.lst [V.str "call", V.str "names"]) = G5 at s5
          have hp5 := s5 _ _ hp2
          have s15 : Same H G5 := ((s2.trans s3).trans s4).trans s5
          have hl5 := s5 _ _ (s4 _ _ (s3 _ _ hl2))
          cases ec : (["call", "names"] : List Str).contains way with
          | true =>
            refine iteT ⟨_, rfl, .inl ⟨rfl, _, SqL.of hp5⟩, _, rfl, way, _, rfl, rfl, by rw [l4, sizeLine_eq]; omega, p2, _, _, rfl, rfl, hp5, by simp only [List.length_map, List.length_append, List.length_cons, List.length_nil]; rw [sizeLine_eq]; omega,
              mkStep n found way, p2, _, rfl, same_upd' s15 np2H, by rw [upd_ne (Ne.symm p2l)]; exact hl5, p2l, np2H, ?_, by omega, estep⟩
            show upd G5 p2 _ p2 = some (.lst ((mkStep n found way).map V.str))
            rw [upd_same]
            unfold mkStep
            simp only [e2, if_true, ec]
            rw [List.map_append (l₂ := [way ++ (" common" : Str)])]
            rfl
          | false =>
            refine iteF ⟨mkStep n found way, p2, _, rfl, s15, hl5, p2l, np2H, ?_, by omega, estep⟩
            show G5 p2 = some (.lst ((mkStep n found way).map V.str))
            unfold mkStep
            simp only [e2, if_true, ec, Bool.false_eq_true, if_false]
            exact hp5
        · have e2 : n ≠ 2 := fun z => h2 (decide_eq_true z)
          refine ⟨mkStep n found way, p, _, rfl, s2, hl2, pl, np, ?_, by omega, estep⟩
          show G2 p = some (.lst ((mkStep n found way).map V.str))
          unfold mkStep
          simp only [e2, if_false]
          exact e1
      · rintro σ G ⟨found, p, u, rfl, s1, hl1, pl, np, hp, hf, ef⟩
        refine ⟨_, rfl, by show 1 ≤ sizeLine; decide, fun q nq => ?_⟩
        have hq : upd G q (.lst [V.str "bare own"]) q = some (.lst [V.str "bare own"]) := upd_same
        have s2 : Same G (upd G q (.lst [V.str "bare own"])) := same_upd nq
        generalize upd G q (.lst [V.str "bare own"]) = G2 at hq s2
        have hf17 : found.length ≤ 17 := hf
        refine ⟨p, q, _, _, rfl, rfl, s2 _ _ hp, hq, by rw [List.length_map, sizeLine_eq]; show _ + 1 ≤ _; omega, fun p2 np2 => ?_⟩
        have hp2 : upd G2 p2 (.lst (found.map V.str ++ [V.str "bare own"])) p2 = some (.lst ((found ++ [("bare own" : Str)]).map V.str)) := by
          rw [upd_same, List.map_append]
          rfl
        have s3 : Same G2 (upd G2 p2 (.lst (found.map V.str ++ [V.str "bare own"]))) := same_upd np2
        generalize upd G2 p2 (.lst (found.map V.str ++ [V.str "bare own"])) = G3 at hp2 s3
        refine ⟨fun v G' => ∃ r, v = V.ref r ∧ Same G3 G' ∧ G' r = some (.lst ((if hk.isSome = true then [("hook" : Str)] else []).map V.str)), ?_, ?_⟩
        · refine ⟨_, rfl, rfl, _, rfl, ?_⟩
          rw [hook_non]
          cases hk with
          | none => exact iteT ⟨by show 0 ≤ sizeLine; decide, fun r nr => ⟨r, rfl, same_upd nr, upd_same⟩⟩
          | some h => exact iteF ⟨by show 1 ≤ sizeLine; decide, fun r nr => ⟨r, rfl, same_upd nr, upd_same⟩⟩
        · rintro v G4 ⟨r, rfl, s4, hr4⟩
          have eall : mkAll n hk.isSome = (found ++ [("bare own" : Str)]) ++ (if hk.isSome = true then [("hook" : Str)] else []) := by
            unfold mkAll
            rw [if_neg e0, ef]
            rfl
          have ltail : (if hk.isSome = true then [("hook" : Str)] else []).length ≤ 1 := by split <;> simp
          refine ⟨p2, r, _, _, rfl, rfl, s4 _ _ hp2, hr4, by simp only [List.length_map, List.length_append, List.length_cons, List.length_nil]; rw [sizeLine_eq]; omega, fun p3 np3 => ?_⟩
          refine k p3 _ ((((s1.trans s2).trans s3).trans s4).trans (same_upd np3)) ((((s1.trans s2).trans s3).trans s4).free np3) ?_
          show upd G4 p3 _ p3 = _
          rw [upd_same, eall, List.map_append (l₁ := found ++ [("bare own" : Str)])]
end
end K04

namespace K04
open PySem PySem.Spec PyProof.Rows L2 EV TL LM
/-! ### words that are drawn -/
def chr (c : Nat) : Str := ⟨#[c]⟩
def alpha : List Nat := [97, 98, 99, 100, 101, 102, 103, 104, 105, 106, 107, 108, 109, 110, 111, 112, 113, 114, 115, 116, 117, 118, 119, 120, 121, 122]
theorem alpha_signs : signsV "abcdefghijklmnopqrstuvwxyz" = alpha.map fun c => V.str (chr c) := by
  unfold signsV
  rw [show (("abcdefghijklmnopqrstuvwxyz" : Str)).cps.toList = alpha by decide +kernel]
  rfl
def wordOf (ah : Bool) (stem : Str) (c : Nat) : Str := if ah = true then chr c ++ stem else stem ++ chr c
def wordX (ah : Bool) (stem : Str) (c : Nat) : Str := if noFields.contains (wordOf ah stem c) = true then wordOf ah stem c ++ ("x" : Str) else wordOf ah stem c
theorem tl_chr (c : Nat) : tl (chr c) = [c] := rfl
theorem word_tl (ah : Bool) (stem : Str) (c : Nat) : tl (wordOf ah stem c) = if ah = true then c :: tl stem else tl stem ++ [c] := by
  unfold wordOf
  cases ah
  · show tl (stem ++ chr c) = _
    rw [tl_append, tl_chr]
    rfl
  · show tl (chr c ++ stem) = _
    rw [tl_append, tl_chr]
    rfl
theorem word_len (ah : Bool) (stem : Str) (c : Nat) : (wordOf ah stem c).length = stem.length + 1 := by
  rw [len_tl, word_tl, len_tl]
  cases ah <;> simp
theorem within_app {lo hi : Nat} (a b : List Nat) : within lo hi (a ++ b) = (within lo hi a && within lo hi b) := List.all_append
theorem word_in {ah : Bool} {stem : Str} {c : Nat} (hs : within 97 122 (tl stem) = true) (h1 : 97 ≤ c) (h2 : c ≤ 122) : within 97 122 (tl (wordOf ah stem c)) = true := by
  rw [word_tl]
  have hc : within 97 122 [c] = true := by
    show ((decide (97 ≤ c) && decide (c ≤ 122)) && true) = true
    rw [decide_eq_true h1, decide_eq_true h2]
    rfl
  cases ah
  · show within 97 122 (tl stem ++ [c]) = true
    rw [within_app, hs, hc]
    rfl
  · show within 97 122 ([c] ++ tl stem) = true
    rw [within_app, hs, hc]
    rfl
theorem no_len : ∀ w ∈ noFields, w.length ≤ 7 ∧ noFields.contains (w ++ ("x" : Str)) = false := by decide +kernel
theorem wordX_field {ah : Bool} {stem : Str} {c : Nat} (hs : within 97 122 (tl stem) = true) (hl : stem.length ≤ 7) (h1 : 97 ≤ c) (h2 : c ≤ 122) : fieldName (wordX ah stem c) = true := by
  have hw := word_in (ah := ah) hs h1 h2
  have hlen := word_len ah stem c
  unfold wordX
  by_cases h : noFields.contains (wordOf ah stem c) = true
  · rw [if_pos h]
    obtain ⟨l7, nx⟩ := no_len _ (List.contains_iff_mem.mp h)
    unfold fieldName small
    rw [nx]
    have e : (wordOf ah stem c ++ ("x" : Str)).length = stem.length + 2 := by rw [len_app, hlen]; rfl
    have hx : within 97 122 (tl ("x" : Str)) = true := by decide +kernel
    rw [e, tl_append, within_app, hw, hx, decide_eq_true (by omega), decide_eq_true (by omega)]
    rfl
  · rw [if_neg h]
    unfold fieldName small
    rw [Bool.eq_false_iff.mpr h, hlen, hw, decide_eq_true (by omega), decide_eq_true (by omega)]
    rfl
theorem word_inj {ah : Bool} {stem : Str} {c d : Nat} (h : wordOf ah stem c = wordOf ah stem d) : c = d := by
  have e := congrArg tl h
  rw [word_tl, word_tl] at e
  cases ah
  · have e' : tl stem ++ [c] = tl stem ++ [d] := e
    have := List.append_cancel_left e'
    injection this
  · have e' : c :: tl stem = d :: tl stem := e
    injection e'
theorem wordX_inj {ah : Bool} {stem : Str} {c d : Nat} (h : wordX ah stem c = wordX ah stem d) : c = d := by
  have lc := word_len ah stem c
  have ld := word_len ah stem d
  have lx : ("x" : Str).length = 1 := by decide +kernel
  unfold wordX at h
  by_cases h1 : noFields.contains (wordOf ah stem c) = true
  · by_cases h2 : noFields.contains (wordOf ah stem d) = true
    · rw [if_pos h1, if_pos h2] at h
      refine word_inj (ah := ah) (stem := stem) (ext_tl ?_)
      have e := congrArg tl h
      rw [tl_append, tl_append] at e
      exact List.append_cancel_right e
    · rw [if_pos h1, if_neg h2] at h
      have e := congrArg Str.length h
      rw [len_app, lc, ld, lx] at e
      omega
  · by_cases h2 : noFields.contains (wordOf ah stem d) = true
    · rw [if_neg h1, if_pos h2] at h
      have e := congrArg Str.length h
      rw [len_app, lc, ld, lx] at e
      omega
    · rw [if_neg h1, if_neg h2] at h
      exact word_inj h
theorem erase_map {α β : Type} (f : α → β) : ∀ (l : List α) (j : Nat), (l.map f).eraseIdx j = (l.eraseIdx j).map f
  | [], _ => rfl
  | _ :: _, 0 => rfl
  | x :: l, j + 1 => by
    show f x :: (l.map f).eraseIdx j = f x :: (l.eraseIdx j).map f
    rw [erase_map f l j]
theorem erase_perm {α : Type} : ∀ (l : List α) (j : Nat) (h : j < l.length), (l[j] :: l.eraseIdx j).Perm l
  | _ :: _, 0, _ => List.Perm.refl _
  | x :: l, j + 1, h => (List.Perm.swap x (l[j]'(Nat.lt_of_succ_lt_succ h)) (l.eraseIdx j)).trans ((erase_perm l j (Nat.lt_of_succ_lt_succ h)).cons x)
theorem keep_new {b l : Addr} {H G : Hp} {o : HO} (k : Keep b H G) (n : H l = none) : Keep b H (upd G l o) := fun a u na z => by
  rw [upd_ne (ne_of_none z n)]
  exact k a u na z
theorem BagAt.upd {H : Hp} {b l : Addr} {o : HO} (h : BagAt H b) (n : l ≠ b) : BagAt (L2.upd H l o) b := by
  obtain ⟨d, q, c, h1, h2⟩ := h
  exact ⟨d, q, c, by rw [upd_ne (Ne.symm n)]; exact h1, h2⟩
section
variable {P : Program} {w : World} {K : Fg} {mg : Str → Option Value} {base : Heap}
def spWords : Sp := fun vs H Q _ => ∃ (b : Addr) (many : Nat), vs = [.ref b, .int (many : Nat)] ∧ BagAt H b ∧ many ≤ 26 ∧
  ∀ (p : Addr) (ws : List Str) (H' : Hp), Keep b H H' → BagAt H' b → H p = none → p ≠ b → StrsAt H' p ws → ws.length = many → ws.Nodup → (∀ w ∈ ws, fieldName w = true) → Q (.ref p) H'
theorem ok_law_words {f : Addr} {fd : FuncData} (F : Fun K "_law_words" "_law_words" s_law_words f fd) (T : Cst K mg) (O_law_take : Ok P w K mg base 1 "_law_take" ["bag", "many"] spTake) (O_law_of : Ok P w K mg base 2 "_law_of" ["bag", "some"] spOf) :
    FnOk P w K mg base CX0 3 f fd ["bag", "many"] spWords := by
  refine F.ok sc_law_words (fun vs H Q E h => ?_) (fun cdv A outer s H vs Q E hr h => ?_)
  · obtain ⟨b, many, rfl, _⟩ := h
    rfl
  · obtain ⟨b, many, rfl, B, hm, k⟩ := h
    refine ⟨_, (pss_cons (ps_par3 (i := 2) (j := 3) (l := 4) (by rfl) sc_law_words.nd rfl rfl rfl (by decide) (by decide) (by decide) rfl rfl rfl (pa_cons (pe_callTy (call_list_text rfl) (by rfl) T.n_list (by decide +kernel) (pa_cons pe_str pa_nil)) (pa_cons (pe_lst pa_nil) (pa_cons pe_str pa_nil))) (by rfl))
    (pss_cons (ps_for PassesOwn.never rfl (pi_range1 rfl T.n_range (pa_cons (pe_callO O_law_take (hr.mono (by decide)) (pa_cons (pv 0) (pa_cons pe_int pa_nil))) pa_nil)) (pg_name (i := 5) sc_law_words.nd rfl (Or.inl rfl)) (pss_one (ps_set (i := 4) sc_law_words.nd rfl (Or.inl rfl) (pe_op op_add_str (pv 4) (pe_callO O_law_of (hr.mono (by decide)) (pa_cons (pv 0) (pa_cons (pe_lst (pa_cons pe_str (pa_cons pe_str (pa_cons pe_str (pa_cons pe_str (pa_cons pe_str (pa_cons pe_str pa_nil))))))) pa_nil)))))))
    (pss_cons (ps_set (i := 6) sc_law_words.nd rfl (Or.inl rfl) (pe_cmpR op_eq (pe_callO O_law_take (hr.mono (by decide)) (pa_cons (pv 0) (pa_cons pe_int pa_nil))) pe_int (nomark _)))
    (pss_cons (ps_for PassesOwn.never rfl (pi_range1 rfl T.n_range (pa_cons (pv 1) pa_nil)) (pg_name (i := 5) sc_law_words.nd rfl (Or.inl rfl)) (pss_cons (ps_set (i := 7) sc_law_words.nd rfl (Or.inl rfl) (pe_bm PySem.F.plainAttrs_list PySem.F.slot_list_pop PySem.F.type_list_pop mt_popAt (pv 2) (pa_cons (pe_callO O_law_take (hr.mono (by decide)) (pa_cons (pv 0) (pa_cons (pe_callB call_len_seq (by rfl) T.n_len (by decide +kernel) (pa_cons (pv 2) pa_nil)) pa_nil))) pa_nil)))
    (pss_cons (ps_set (i := 8) sc_law_words.nd rfl (Or.inl rfl) (pe_mid (pe_ifExp (pt_truth (pv 6) (by intro _; rfl)) (pe_op op_add_str (pv 7) (pv 4)) (pe_op op_add_str (pv 4) (pv 7)))))
    (pss_one (ps_expr (pe_bm PySem.F.plainAttrs_list PySem.F.slot_list_append PySem.F.type_list_append mt_append (pv 3) (pa_cons (pe_mid (pe_ifExp (pt_cmpR op_in_seq (pv 8) (pe_lst (pa_cons pe_str (pa_cons pe_str (pa_cons pe_str (pa_cons pe_str (pa_cons pe_str (pa_cons pe_str pa_nil))))))) (by rfl)) (pe_op op_add_str (pv 8) pe_str) (pv 8))) pa_nil)))))))
    (pss_one (ps_ret (pv 3))))))), ?_⟩
    refine ⟨_, rfl, by decide +kernel, fun l nl => ⟨by show 0 ≤ sizeLine; decide, fun p np => ?_⟩⟩
    have hz0 : ∀ c ∈ alpha, 97 ≤ c ∧ c ≤ 122 := by decide +kernel
    have pl : p ≠ l := fun e => by rw [e, upd_same] at np; cases np
    have npH : H p = none := (same_upd nl).free np
    have lb := B.ne nl
    have pb := B.ne npH
    have kG : Keep b H (upd (upd H l (.lst (signsV "abcdefghijklmnopqrstuvwxyz"))) p (.lst [])) := keep_new (keep_new (Keep.refl H) nl) npH
    have B0 : BagAt (upd (upd H l (.lst (signsV "abcdefghijklmnopqrstuvwxyz"))) p (.lst [])) b := (B.upd lb).upd pb
    have hl0 : upd (upd H l (.lst (signsV "abcdefghijklmnopqrstuvwxyz"))) p (.lst []) l = some (.lst (alpha.map fun c => V.str (chr c))) := by
      rw [upd_ne (Ne.symm pl), upd_same, alpha_signs]
    have hp0 : upd (upd H l (.lst (signsV "abcdefghijklmnopqrstuvwxyz"))) p (.lst []) p = some (.lst []) := upd_same
    generalize upd (upd H l (.lst (signsV "abcdefghijklmnopqrstuvwxyz"))) p (.lst []) = G0 at kG B0 hl0 hp0
    refine ⟨_, _, _, rfl, _, rfl, b, 8, rfl, B0, by decide, by decide, fun r H1 r0 r1 k1 B1 => ⟨r, rfl, by omega, by omega, ?_⟩⟩
    refine for_range (lo := 0) (n := r.toNat) (fun i σ G => ∃ (z : Str) (u : Option V), σ = [some (.ref b), some (.int (many : Nat)), some (.ref l), some (.ref p), some (.str z), u, none, none, none] ∧ z.length ≤ i ∧ within 97 122 (tl z) = true ∧ Keep b G0 G ∧ BagAt G b)
      ⟨"", none, rfl, by decide +kernel, by decide +kernel, k1, B1⟩ ?_ ?_
    · rintro i σ G hi ⟨z, u, rfl, hz, hw, kk, Bg⟩
      have i8 : i < 8 := by omega
      refine ⟨_, rfl, _, rfl, by show 6 ≤ sizeLine; decide, fun l2 nl2 => ⟨b, l2, _, rfl, Bg.same (same_upd nl2), upd_same, Bg.ne nl2, by show 0 < 6; decide, by show 6 ≤ 1000; decide, fun x G2 hx k2 B2 => ?_⟩⟩
      obtain ⟨s, rfl, sl, sw⟩ : ∃ s, x = V.str s ∧ s.length = 1 ∧ within 97 122 (tl s) = true := by
        simp only [List.mem_cons, List.not_mem_nil, or_false] at hx
        rcases hx with rfl | rfl | rfl | rfl | rfl | rfl <;> exact ⟨_, rfl, by decide +kernel, by decide +kernel⟩
      refine ⟨_, _, rfl, rfl, by rw [sl, sizeLine_eq]; omega, _, _, rfl, by rw [len_app, sl]; omega, by rw [tl_append, within_app, hw, sw]; rfl, kk.trans ((Keep.of (same_upd nl2)).trans k2), B2⟩
    · rintro σ G ⟨z, u, rfl, hz, hw, kk, Bg⟩
      have hz7 : z.length ≤ 7 := by omega
      refine ⟨_, rfl, b, 2, rfl, Bg, by decide, by decide, fun r2 G1 _ _ k2 B2 => ⟨rfl, ?_⟩⟩
      generalize decide (V.int r2 = V.int 0) = ah
      have k02 := kk.trans k2
      refine ⟨_, rfl, _, rfl, by omega, by omega, ?_⟩
      refine for_range (lo := 0) (n := (((many : Nat) : Int)).toNat) (fun i σ G => ∃ (cs L : List Nat) (u1 u2 u3 : Option V), σ = [some (.ref b), some (.int (many : Nat)), some (.ref l), some (.ref p), some (.str z), u1, some (.bl ah), u2, u3] ∧
          G l = some (.lst (L.map fun c => V.str (chr c))) ∧ StrsAt G p (cs.map (wordX ah z)) ∧ (cs ++ L).Nodup ∧ (∀ c ∈ cs ++ L, 97 ≤ c ∧ c ≤ 122) ∧ cs.length = i ∧ L.length = 26 - i ∧ Keep b H G ∧ BagAt G b)
        ⟨[], alpha, _, none, none, rfl, k02 _ _ lb hl0, k02 _ _ pb hp0, by decide +kernel, hz0, rfl, by decide +kernel, kG.trans k02, B2⟩ ?_ ?_
      · rintro i σ G hi ⟨cs, L, u1, u2, u3, rfl, hl1, hp1, nd, hr, lc, lL, kH, Bg1⟩
        have hLp : 0 < L.length := by omega
        refine ⟨_, rfl, .inl ⟨rfl, _, SqL.of hl1⟩, _, rfl, _, rfl, l, _, rfl, .inl (SqL.of hl1), b, _, rfl, Bg1, by rw [List.length_map]; omega, small200 (by omega) (by rw [List.length_map]; omega), fun r' G1' q0 q1 k1' B1' => ?_⟩
        obtain ⟨j, rfl⟩ := Int.eq_ofNat_of_zero_le q0
        rw [List.length_map] at q1
        have hj : j < L.length := by omega
        have hseq : seqIndex? ((j : Nat) : Int) (L.map fun c => V.str (chr c)).length = some j := by
          refine (ixN_seq (n := (L.map fun c => V.str (chr c)).length) (i := ((j : Nat) : Int)) (j := j) ?_).1
          unfold ixN
          rw [if_pos (by omega), if_pos (by rw [List.length_map]; omega), Int.toNat_natCast]
        have hget : (L.map fun c => V.str (chr c))[j]? = some (V.str (chr L[j])) := by
          rw [List.getElem?_map, List.getElem?_eq_getElem hj]
          rfl
        refine ⟨l, _, ((j : Nat) : Int), j, _, rfl, rfl, k1' _ _ lb hl1, by omega, by omega, hseq, hget, ?_⟩
        have hl2 : upd G1' l (.lst ((L.map fun c => V.str (chr c)).eraseIdx j)) l = some (.lst ((L.eraseIdx j).map fun c => V.str (chr c))) := by
          rw [upd_same, erase_map]
        have hp2 : StrsAt (upd G1' l (.lst ((L.map fun c => V.str (chr c)).eraseIdx j))) p (cs.map (wordX ah z)) := by
          show upd G1' l _ p = _
          rw [upd_ne pl]
          exact k1' _ _ pb hp1
        have kH2 : Keep b H (upd G1' l (.lst ((L.map fun c => V.str (chr c)).eraseIdx j))) := keep_new (kH.trans k1') nl
        have B2' : BagAt (upd G1' l (.lst ((L.map fun c => V.str (chr c)).eraseIdx j))) b := B1'.upd lb
        generalize upd G1' l (.lst ((L.map fun c => V.str (chr c)).eraseIdx j)) = G2 at hl2 hp2 kH2 B2'
        have hc := hr L[j] (List.mem_append_right _ (List.getElem_mem hj))
        have perm : (cs ++ [L[j]] ++ L.eraseIdx j).Perm (cs ++ L) := by
          rw [List.append_assoc]
          exact (List.Perm.refl cs).append (erase_perm L j hj)
        have lc1 : (chr L[j]).length = 1 := rfl
        generalize L[j] = c at hc perm lc1
        refine ⟨fun v G' => v = V.str (wordOf ah z c) ∧ G2 = G', ⟨_, rfl, ah, rfl, ?_⟩, ?_⟩
        · cases ah with
          | true => exact iteT ⟨_, rfl, _, rfl, _, _, rfl, rfl, by rw [lc1, sizeLine_eq]; omega, rfl, rfl⟩
          | false => exact iteF ⟨_, rfl, _, rfl, _, _, rfl, rfl, by rw [lc1, sizeLine_eq]; omega, rfl, rfl⟩
        · rintro v G' ⟨rfl, rfl⟩
          have wl := word_len ah z c
          refine ⟨_, rfl, .inl ⟨rfl, _, SqL.of hp2⟩, fun v G' => v = V.str (wordX ah z c) ∧ Same G2 G', ⟨_, rfl, by show 6 ≤ sizeLine; decide, fun l5 nl5 => ⟨l5, _, rfl, .inl (SqL.of upd_same), rfl, rfl, _, rfl, ?_⟩⟩, ?_⟩
          · rw [show inV (.str (wordOf ah z c)) [V.str "by", V.str "changes", V.str "name", V.str "of", V.str "to", V.str "world"] = noFields.contains (wordOf ah z c) from inV_strs _ noFields]
            have lx : ("x" : Str).length = 1 := by decide +kernel
            cases e : noFields.contains (wordOf ah z c) with
            | true =>
              refine iteT ⟨_, rfl, _, _, rfl, rfl, by rw [wl, lx, sizeLine_eq]; omega, ?_, same_upd nl5⟩
              unfold wordX
              rw [if_pos e]
            | false =>
              refine iteF ⟨_, rfl, ?_, same_upd nl5⟩
              unfold wordX
              rw [if_neg (by rw [e]; exact Bool.false_ne_true)]
          · rintro v G3 ⟨rfl, s3⟩
            have hp3 := s3 _ _ hp2
            have pll : cs.length ≤ 26 := by omega
            refine ⟨p, _, _, rfl, rfl, hp3, by rw [List.length_map, List.length_map, sizeLine_eq]; omega, cs ++ [c], L.eraseIdx j, _, _, _, rfl, by rw [upd_ne (Ne.symm pl)]; exact s3 _ _ hl2, ?_, perm.nodup_iff.mpr nd, fun d hd => hr d (perm.mem_iff.mp hd), by rw [List.length_append, lc]; rfl, ?_, keep_new (kH2.trans (Keep.of s3)) npH, (B2'.same s3).upd pb⟩
            · show upd G3 p _ p = _
              rw [upd_same, List.map_append, List.map_append]
              rfl
            · rw [List.length_eraseIdx_of_lt hj, lL]
              omega
      · rintro σ G ⟨cs, L, u1, u2, u3, rfl, hl1, hp1, nd, hr, lc, lL, kH, Bg1⟩
        refine ⟨_, rfl, k p (cs.map (wordX ah z)) G kH Bg1 npH pb hp1 (by rw [List.length_map, lc]; omega) ?_ ?_⟩
        · rw [List.nodup_append] at nd
          refine List.Pairwise.map _ (fun a c hac e => hac (wordX_inj e)) nd.1
        · intro w hw'
          obtain ⟨c, hc, rfl⟩ := List.mem_map.mp hw'
          exact wordX_field hw hz7 (hr c (List.mem_append_left _ hc)).1 (hr c (List.mem_append_left _ hc)).2
end
end K04

namespace K04
open PySem PySem.Spec PyProof.Rows L2 EV TL LM
/-! ### titles that are drawn -/
def alphaU : List Nat := [65, 66, 67, 68, 69, 70, 71, 72, 73, 74, 75, 76, 77, 78, 79, 80, 81, 82, 83, 84, 85, 86, 87, 88, 89, 90]
theorem alphaU_signs : signsV "ABCDEFGHIJKLMNOPQRSTUVWXYZ" = alphaU.map fun c => V.str (chr c) := by
  unfold signsV
  rw [show (("ABCDEFGHIJKLMNOPQRSTUVWXYZ" : Str)).cps.toList = alphaU by decide +kernel]
  rfl
theorem lower_chr : ∀ c ∈ alphaU, Txt.lower (chr c) = chr (c + 32) := by decide +kernel
def titleOf (ah : Bool) (stem : Str) (c : Nat) : Str := if ah = true then chr c ++ stem else ("Q" : Str) ++ stem ++ chr (c + 32)
theorem tl_Q : tl ("Q" : Str) = [81] := by decide +kernel
theorem title_tl (ah : Bool) (stem : Str) (c : Nat) : tl (titleOf ah stem c) = if ah = true then c :: tl stem else 81 :: (tl stem ++ [c + 32]) := by
  unfold titleOf
  cases ah
  · show tl (("Q" : Str) ++ stem ++ chr (c + 32)) = _
    rw [tl_append, tl_append, tl_chr, tl_Q]
    rfl
  · show tl (chr c ++ stem) = _
    rw [tl_append, tl_chr]
    rfl
theorem title_class {ah : Bool} {stem : Str} {c : Nat} (hs : within 97 122 (tl stem) = true) (hl : stem.length ≤ 6) (h1 : 65 ≤ c) (h2 : c ≤ 90) : className (titleOf ah stem c) = true := by
  have e := title_tl ah stem c
  have el := len_tl (titleOf ah stem c)
  have es := len_tl stem
  unfold className
  cases ah
  · have e' : tl (titleOf false stem c) = 81 :: (tl stem ++ [c + 32]) := e
    rw [e', List.length_cons, List.length_append] at el
    have hc : within 97 122 [c + 32] = true := by
      show ((decide (97 ≤ c + 32) && decide (c + 32 ≤ 122)) && true) = true
      rw [decide_eq_true (by omega), decide_eq_true (by omega)]
      rfl
    rw [e', show (81 :: (tl stem ++ [c + 32])).take 1 = [81] from rfl, show (81 :: (tl stem ++ [c + 32])).drop 1 = tl stem ++ [c + 32] from rfl, within_app, hs, hc, decide_eq_true (by omega), decide_eq_true (by rw [el, ← es]; show stem.length + 1 + 1 ≤ 8; omega)]
    rfl
  · have e' : tl (titleOf true stem c) = c :: tl stem := e
    rw [e', List.length_cons] at el
    have hc : within 65 90 [c] = true := by
      show ((decide (65 ≤ c) && decide (c ≤ 90)) && true) = true
      rw [decide_eq_true h1, decide_eq_true h2]
      rfl
    rw [e', show (c :: tl stem).take 1 = [c] from rfl, show (c :: tl stem).drop 1 = tl stem from rfl, hs, hc, decide_eq_true (by omega), decide_eq_true (by omega)]
    rfl
theorem title_inj {ah : Bool} {stem : Str} {c d : Nat} (h : titleOf ah stem c = titleOf ah stem d) : c = d := by
  have e := congrArg tl h
  rw [title_tl, title_tl] at e
  cases ah
  · have e' : 81 :: (tl stem ++ [c + 32]) = 81 :: (tl stem ++ [d + 32]) := e
    injection e' with _ e2
    have := List.append_cancel_left e2
    injection this with e3
    omega
  · have e' : c :: tl stem = d :: tl stem := e
    injection e'
section
variable {P : Program} {w : World} {K : Fg} {mg : Str → Option Value} {base : Heap}
def spTitles : Sp := fun vs H Q _ => ∃ (b : Addr) (many : Nat), vs = [.ref b, .int (many : Nat)] ∧ BagAt H b ∧ many ≤ 26 ∧
  ∀ (p : Addr) (ws : List Str) (H' : Hp), Keep b H H' → BagAt H' b → H p = none → p ≠ b → StrsAt H' p ws → ws.length = many → ws.Nodup → (∀ w ∈ ws, className w = true) → Q (.ref p) H'
theorem ok_law_titles {f : Addr} {fd : FuncData} (F : Fun K "_law_titles" "_law_titles" s_law_titles f fd) (T : Cst K mg) (O_law_take : Ok P w K mg base 1 "_law_take" ["bag", "many"] spTake) (O_law_of : Ok P w K mg base 2 "_law_of" ["bag", "some"] spOf) :
    FnOk P w K mg base CX0 3 f fd ["bag", "many"] spTitles := by
  refine F.ok sc_law_titles (fun vs H Q E h => ?_) (fun cdv A outer s H vs Q E hr h => ?_)
  · obtain ⟨b, many, rfl, _⟩ := h
    rfl
  · obtain ⟨b, many, rfl, B, hm, k⟩ := h
    refine ⟨_, (pss_cons (ps_par3 (i := 2) (j := 3) (l := 4) (by rfl) sc_law_titles.nd rfl rfl rfl (by decide) (by decide) (by decide) rfl rfl rfl (pa_cons (pe_callTy (call_list_text rfl) (by rfl) T.n_list (by decide +kernel) (pa_cons pe_str pa_nil)) (pa_cons (pe_lst pa_nil) (pa_cons pe_str pa_nil))) (by rfl))
    (pss_cons (ps_for PassesOwn.never rfl (pi_range1 rfl T.n_range (pa_cons (pe_callO O_law_take (hr.mono (by decide)) (pa_cons (pv 0) (pa_cons pe_int pa_nil))) pa_nil)) (pg_name (i := 5) sc_law_titles.nd rfl (Or.inl rfl)) (pss_one (ps_set (i := 4) sc_law_titles.nd rfl (Or.inl rfl) (pe_op op_add_str (pv 4) (pe_callO O_law_of (hr.mono (by decide)) (pa_cons (pv 0) (pa_cons (pe_lst (pa_cons pe_str (pa_cons pe_str (pa_cons pe_str (pa_cons pe_str pa_nil))))) pa_nil)))))))
    (pss_cons (ps_set (i := 6) sc_law_titles.nd rfl (Or.inl rfl) (pe_cmpR op_eq (pe_callO O_law_take (hr.mono (by decide)) (pa_cons (pv 0) (pa_cons pe_int pa_nil))) pe_int (nomark _)))
    (pss_cons (ps_for PassesOwn.never rfl (pi_range1 rfl T.n_range (pa_cons (pv 1) pa_nil)) (pg_name (i := 5) sc_law_titles.nd rfl (Or.inl rfl)) (pss_cons (ps_set (i := 7) sc_law_titles.nd rfl (Or.inl rfl) (pe_bm PySem.F.plainAttrs_list PySem.F.slot_list_pop PySem.F.type_list_pop mt_popAt (pv 2) (pa_cons (pe_callO O_law_take (hr.mono (by decide)) (pa_cons (pv 0) (pa_cons (pe_callB call_len_seq (by rfl) T.n_len (by decide +kernel) (pa_cons (pv 2) pa_nil)) pa_nil))) pa_nil)))
    (pss_one (ps_expr (pe_bm PySem.F.plainAttrs_list PySem.F.slot_list_append PySem.F.type_list_append mt_append (pv 3) (pa_cons (pe_mid (pe_ifExp (pt_truth (pv 6) (by intro _; rfl)) (pe_op op_add_str (pv 7) (pv 4)) (pe_op op_add_str (pe_op op_add_str pe_str (pv 4)) (pe_lower (pv 7) )))) pa_nil))))))
    (pss_one (ps_ret (pv 3))))))), ?_⟩
    refine ⟨_, rfl, by decide +kernel, fun l nl => ⟨by show 0 ≤ sizeLine; decide, fun p np => ?_⟩⟩
    have hz0 : ∀ c ∈ alphaU, 65 ≤ c ∧ c ≤ 90 := by decide +kernel
    have pl : p ≠ l := fun e => by rw [e, upd_same] at np; cases np
    have npH : H p = none := (same_upd nl).free np
    have lb := B.ne nl
    have pb := B.ne npH
    have kG : Keep b H (upd (upd H l (.lst (signsV "ABCDEFGHIJKLMNOPQRSTUVWXYZ"))) p (.lst [])) := keep_new (keep_new (Keep.refl H) nl) npH
    have B0 : BagAt (upd (upd H l (.lst (signsV "ABCDEFGHIJKLMNOPQRSTUVWXYZ"))) p (.lst [])) b := (B.upd lb).upd pb
    have hl0 : upd (upd H l (.lst (signsV "ABCDEFGHIJKLMNOPQRSTUVWXYZ"))) p (.lst []) l = some (.lst (alphaU.map fun c => V.str (chr c))) := by
      rw [upd_ne (Ne.symm pl), upd_same, alphaU_signs]
    have hp0 : upd (upd H l (.lst (signsV "ABCDEFGHIJKLMNOPQRSTUVWXYZ"))) p (.lst []) p = some (.lst []) := upd_same
    generalize upd (upd H l (.lst (signsV "ABCDEFGHIJKLMNOPQRSTUVWXYZ"))) p (.lst []) = G0 at kG B0 hl0 hp0
    refine ⟨_, _, _, rfl, _, rfl, b, 7, rfl, B0, by decide, by decide, fun r H1 r0 r1 k1 B1 => ⟨r, rfl, by omega, by omega, ?_⟩⟩
    refine for_range (lo := 0) (n := r.toNat) (fun i σ G => ∃ (z : Str) (u : Option V), σ = [some (.ref b), some (.int (many : Nat)), some (.ref l), some (.ref p), some (.str z), u, none, none] ∧ z.length ≤ i ∧ within 97 122 (tl z) = true ∧ Keep b G0 G ∧ BagAt G b)
      ⟨"", none, rfl, by decide +kernel, by decide +kernel, k1, B1⟩ ?_ ?_
    · rintro i σ G hi ⟨z, u, rfl, hz, hw, kk, Bg⟩
      have i8 : i < 7 := by omega
      refine ⟨_, rfl, _, rfl, by show 4 ≤ sizeLine; decide, fun l2 nl2 => ⟨b, l2, _, rfl, Bg.same (same_upd nl2), upd_same, Bg.ne nl2, by show 0 < 4; decide, by show 4 ≤ 1000; decide, fun x G2 hx k2 B2 => ?_⟩⟩
      obtain ⟨s, rfl, sl, sw⟩ : ∃ s, x = V.str s ∧ s.length = 1 ∧ within 97 122 (tl s) = true := by
        simp only [List.mem_cons, List.not_mem_nil, or_false] at hx
        rcases hx with rfl | rfl | rfl | rfl <;> exact ⟨_, rfl, by decide +kernel, by decide +kernel⟩
      refine ⟨_, _, rfl, rfl, by rw [sl, sizeLine_eq]; omega, _, _, rfl, by rw [len_app, sl]; omega, by rw [tl_append, within_app, hw, sw]; rfl, kk.trans ((Keep.of (same_upd nl2)).trans k2), B2⟩
    · rintro σ G ⟨z, u, rfl, hz, hw, kk, Bg⟩
      have hz7 : z.length ≤ 6 := by omega
      refine ⟨_, rfl, b, 2, rfl, Bg, by decide, by decide, fun r2 G1 _ _ k2 B2 => ⟨rfl, ?_⟩⟩
      generalize decide (V.int r2 = V.int 0) = ah
      have k02 := kk.trans k2
      refine ⟨_, rfl, _, rfl, by omega, by omega, ?_⟩
      refine for_range (lo := 0) (n := (((many : Nat) : Int)).toNat) (fun i σ G => ∃ (cs L : List Nat) (u1 u2 : Option V), σ = [some (.ref b), some (.int (many : Nat)), some (.ref l), some (.ref p), some (.str z), u1, some (.bl ah), u2] ∧
          G l = some (.lst (L.map fun c => V.str (chr c))) ∧ StrsAt G p (cs.map (titleOf ah z)) ∧ (cs ++ L).Nodup ∧ (∀ c ∈ cs ++ L, c ∈ alphaU) ∧ cs.length = i ∧ L.length = 26 - i ∧ Keep b H G ∧ BagAt G b)
        ⟨[], alphaU, _, none, rfl, k02 _ _ lb hl0, k02 _ _ pb hp0, by decide +kernel, (fun c hc => hc), rfl, by decide +kernel, kG.trans k02, B2⟩ ?_ ?_
      · rintro i σ G hi ⟨cs, L, u1, u2, rfl, hl1, hp1, nd, hr, lc, lL, kH, Bg1⟩
        have hLp : 0 < L.length := by omega
        refine ⟨_, rfl, .inl ⟨rfl, _, SqL.of hl1⟩, _, rfl, _, rfl, l, _, rfl, .inl (SqL.of hl1), b, _, rfl, Bg1, by rw [List.length_map]; omega, small200 (by omega) (by rw [List.length_map]; omega), fun r' G1' q0 q1 k1' B1' => ?_⟩
        obtain ⟨j, rfl⟩ := Int.eq_ofNat_of_zero_le q0
        rw [List.length_map] at q1
        have hj : j < L.length := by omega
        have hseq : seqIndex? ((j : Nat) : Int) (L.map fun c => V.str (chr c)).length = some j := by
          refine (ixN_seq (n := (L.map fun c => V.str (chr c)).length) (i := ((j : Nat) : Int)) (j := j) ?_).1
          unfold ixN
          rw [if_pos (by omega), if_pos (by rw [List.length_map]; omega), Int.toNat_natCast]
        have hget : (L.map fun c => V.str (chr c))[j]? = some (V.str (chr L[j])) := by
          rw [List.getElem?_map, List.getElem?_eq_getElem hj]
          rfl
        refine ⟨l, _, ((j : Nat) : Int), j, _, rfl, rfl, k1' _ _ lb hl1, by omega, by omega, hseq, hget, ?_⟩
        have hl2 : upd G1' l (.lst ((L.map fun c => V.str (chr c)).eraseIdx j)) l = some (.lst ((L.eraseIdx j).map fun c => V.str (chr c))) := by
          rw [upd_same, erase_map]
        have hp2 : StrsAt (upd G1' l (.lst ((L.map fun c => V.str (chr c)).eraseIdx j))) p (cs.map (titleOf ah z)) := by
          show upd G1' l _ p = _
          rw [upd_ne pl]
          exact k1' _ _ pb hp1
        have kH2 : Keep b H (upd G1' l (.lst ((L.map fun c => V.str (chr c)).eraseIdx j))) := keep_new (kH.trans k1') nl
        have B2' : BagAt (upd G1' l (.lst ((L.map fun c => V.str (chr c)).eraseIdx j))) b := B1'.upd lb
        generalize upd G1' l (.lst ((L.map fun c => V.str (chr c)).eraseIdx j)) = G2 at hl2 hp2 kH2 B2'
        have hc := hr L[j] (List.mem_append_right _ (List.getElem_mem hj))
        have perm : (cs ++ [L[j]] ++ L.eraseIdx j).Perm (cs ++ L) := by
          rw [List.append_assoc]
          exact (List.Perm.refl cs).append (erase_perm L j hj)
        have lc1 : (chr L[j]).length = 1 := rfl
        generalize L[j] = c at hc perm lc1
        have lQ : ("Q" : Str).length = 1 := by decide +kernel
        refine ⟨_, rfl, .inl ⟨rfl, _, SqL.of hp2⟩, fun v G' => v = V.str (titleOf ah z c) ∧ Same G2 G', ⟨_, rfl, ah, rfl, ?_⟩, ?_⟩
        · cases ah with
          | true => exact iteT ⟨_, rfl, _, rfl, _, _, rfl, rfl, by rw [lc1, sizeLine_eq]; omega, rfl, Same.refl _⟩
          | false =>
            refine iteF ⟨_, rfl, _, _, rfl, rfl, by rw [lQ, sizeLine_eq]; omega, _, rfl, ⟨_, rfl⟩, _, rfl, rfl, by rw [lc1]; decide, _, _, rfl, rfl, ?_, ?_, Same.refl _⟩
            · rw [lower_chr c hc, len_app, lQ, show (chr (c + 32)).length = 1 from rfl, sizeLine_eq]
              omega
            · rw [lower_chr c hc]
              rfl
        · rintro v G3 ⟨rfl, s3⟩
          have hp3 := s3 _ _ hp2
          have pll : cs.length ≤ 26 := by omega
          refine ⟨p, _, _, rfl, rfl, hp3, by rw [List.length_map, List.length_map, sizeLine_eq]; omega, cs ++ [c], L.eraseIdx j, _, _, rfl, by rw [upd_ne (Ne.symm pl)]; exact s3 _ _ hl2, ?_, perm.nodup_iff.mpr nd, fun d hd => hr d (perm.mem_iff.mp hd), by rw [List.length_append, lc]; rfl, ?_, keep_new (kH2.trans (Keep.of s3)) npH, (B2'.same s3).upd pb⟩
          · show upd G3 p _ p = _
            rw [upd_same, List.map_append, List.map_append]
            rfl
          · rw [List.length_eraseIdx_of_lt hj, lL]
            omega
      · rintro σ G ⟨cs, L, u1, u2, rfl, hl1, hp1, nd, hr, lc, lL, kH, Bg1⟩
        refine ⟨_, rfl, k p (cs.map (titleOf ah z)) G kH Bg1 npH pb hp1 (by rw [List.length_map, lc]; omega) ?_ ?_⟩
        · rw [List.nodup_append] at nd
          refine List.Pairwise.map _ (fun a c hac e => hac (title_inj e)) nd.1
        · intro w hw'
          obtain ⟨c, hc, rfl⟩ := List.mem_map.mp hw'
          exact title_class hw hz7 (hz0 c (hr c (List.mem_append_left _ hc))).1 (hz0 c (hr c (List.mem_append_left _ hc))).2
end
end K04

namespace K04
open PySem PySem.Spec PyProof.Rows L2 EV TL LM
/-! ### a library as the law keeps it, and its lines -/
structure LRows (H : Hp) (ts : List V) (ops : List Op) : Prop where
  len : ts.length = ops.length
  row : ∀ (i : Nat) (o : Op), ops[i]? = some o → ∃ t c, ts[i]? = some (.ref t) ∧ H t = some (.lst [.str o.sign, .ref c, .str o.maker, .int (arity o.sign : Nat)]) ∧ StrsAt H c o.changed
structure LawLib (H : Hp) (a : Addr) (L : Lib) : Prop where
  ex : ∃ (pp pk pr : Addr) (kts rts : List V), H a = some (.lst [.str L.name, .ref pp, .ref pk, hookV L.hook, .ref pr]) ∧ StrsAt H pp L.ps ∧ H pk = some (.lst kts) ∧ PairsAt H kts L.kept ∧ H pr = some (.lst rts) ∧ LRows H rts L.ops
theorem LRows.same {H H' : Hp} {ts : List V} {ops : List Op} (h : LRows H ts ops) (s : Same H H') : LRows H' ts ops :=
  ⟨h.len, fun i r e => let ⟨a, c, z1, z2, z3⟩ := h.row i r e; ⟨a, c, z1, s _ _ z2, s _ _ z3⟩⟩
structure LawShort (L : Lib) : Prop where
  sn : Short L.name
  sp : ∀ p ∈ L.ps, Short p
  sk : ∀ p ∈ L.kept, Short p.1 ∧ Short p.2
  sh : ∀ h, L.hook = some h → Short h
  so : OpsShort L.ops
  ok : ∀ o ∈ L.ops, OkW o.changed
  lp : L.ps.length ≤ 10
  lk : L.kept.length ≤ 10
  lo : L.ops.length ≤ 10
section
variable {P : Program} {w : World} {K : Fg} {mg : Str → Option Value} {base : Heap}
def spLines : Sp := fun vs H Q _ => ∃ (a : Addr) (L : Lib), vs = [.ref a] ∧ LawLib H a L ∧ LawShort L ∧ ∀ p H', Same H H' → H p = none → StrsAt H' p (linesM L) → Q (.ref p) H'
theorem ok_law_lines {f : Addr} {fd : FuncData} (F : Fun K "_law_lines" "_law_lines" s_law_lines f fd) (T : Cst K mg) : FnOk P w K mg base CX0 1 f fd ["lib"] spLines := by
  refine F.ok sc_law_lines (fun vs H Q E h => ?_) (fun cdv A outer s H vs Q E hr h => ?_)
  · obtain ⟨a, L, rfl, _⟩ := h
    rfl
  · obtain ⟨a, L, rfl, ⟨pp, pk, pr, kts, rts, ha, hpp, hpk, hP, hpr, hR⟩, S, k⟩ := h
    refine ⟨_, (pss_cons (ps_set (i := 1) sc_law_lines.nd rfl (Or.inl rfl) (pe_op op_cat (pe_lst (pa_cons (pe_op op_add_str pe_str (pe_ix ix_list (pv 0) pe_int (fun _ _ => rfl))) pa_nil)) (pe_lc (own := [("part", 6)]) rfl sc_law_lines.nd (pi_list (pe_ix ix_list (pv 0) pe_int (fun _ _ => rfl))) (blkOk_by (own := [("part", 6)]) (N := ["lib", "found", "sign", "changed", "maker", "arity", "part", "row"]) (sc := defScope s_law_lines) (by decide +kernel)) (fun _ _ _ _ _ => (pg_name (i := 6) sc_law_lines.nd rfl (Or.inl rfl))) (fun _ _ _ _ _ => pts_nil) (fun _ _ _ _ _ => (pe_op op_add_str pe_str (pv 6))))))
    (pss_cons (ps_set (i := 1) sc_law_lines.nd rfl (Or.inl rfl) (pe_op op_cat (pv 1) (pe_lc (own := [("row", 7)]) rfl sc_law_lines.nd (pi_list (pe_ix ix_list (pv 0) pe_int (fun _ _ => rfl))) (blkOk_by (own := [("row", 7)]) (N := ["lib", "found", "sign", "changed", "maker", "arity", "part", "row"]) (sc := defScope s_law_lines) (by decide +kernel)) (fun _ _ _ _ _ => (pg_name (i := 7) sc_law_lines.nd rfl (Or.inl rfl))) (fun _ _ _ _ _ => pts_nil) (fun _ _ _ _ _ => (pe_op op_add_str (pe_op op_add_str (pe_op op_add_str pe_str (pe_ix (show IxR _ (rIxT K) from ix_tup) (pv 7) pe_int (fun _ _ => rfl))) pe_str) (pe_ix (show IxR _ (rIxT K) from ix_tup) (pv 7) pe_int (fun _ _ => rfl)))))))
    (pss_cons (ps_mid (ps_if (pt_cmpR op_notN (pe_ix ix_list (pv 0) pe_int (fun _ _ => rfl)) pe_non (nomark _)) (pss_one (ps_expr (pe_bm PySem.F.plainAttrs_list PySem.F.slot_list_append PySem.F.type_list_append mt_append (pv 1) (pa_cons (pe_op op_add_str pe_str (pe_ix ix_list (pv 0) pe_int (fun _ _ => rfl))) pa_nil)))) pss_nil))
    (pss_cons (ps_for PassesOwn.never rfl (pi_list (pe_ix ix_list (pv 0) pe_int (fun _ _ => rfl))) (pg_lst rfl (pgs_cons (pg_name (i := 2) sc_law_lines.nd rfl (Or.inl rfl)) (pgs_cons (pg_name (i := 3) sc_law_lines.nd rfl (Or.inl rfl)) (pgs_cons (pg_name (i := 4) sc_law_lines.nd rfl (Or.inl rfl)) (pgs_cons (pg_name (i := 5) sc_law_lines.nd rfl (Or.inl rfl)) pgs_nil))))) (pss_one (ps_if (pt_cmpR op_eq (pv 5) pe_int (nomark _)) (pss_one (ps_expr (pe_bm PySem.F.plainAttrs_list PySem.F.slot_list_append PySem.F.type_list_append mt_append (pv 1) (pa_cons (pe_op op_add_str (pe_op op_add_str (pe_op op_add_str pe_str (pv 2)) pe_str) (pv 4)) pa_nil)))) (pss_one (ps_if (pt_cmpR (op_eqD hr.units) (pv 3) (pe_lst pa_nil) (nomark _)) (pss_one (ps_expr (pe_bm PySem.F.plainAttrs_list PySem.F.slot_list_append PySem.F.type_list_append mt_append (pv 1) (pa_cons (pe_op op_add_str (pe_op op_add_str (pv 2) pe_str) (pv 4)) pa_nil)))) (pss_one (ps_expr (pe_bm PySem.F.plainAttrs_list PySem.F.slot_list_append PySem.F.type_list_append mt_append (pv 1) (pa_cons (pe_op op_add_str (pe_op op_add_str (pe_op op_add_str (pe_op op_add_str (pv 2) pe_str) (pe_join pe_str (pv 3))) pe_str) (pv 4)) pa_nil)))))))))
    (pss_one (ps_ret (pv 1))))))), ?_⟩
    have sn : L.name.length ≤ 1000 := S.sn
    have lp := S.lp
    have lk := S.lk
    have lo := S.lo
    refine ⟨_, rfl, a, _, ((0 : Nat) : Int), _, rfl, rfl, SqL.of ha, atI_nat (j := 0) rfl, _, _, rfl, rfl, by rw [sizeLine_eq]; (try simp only [len_app, l_lib, l_needs, l_keeps, l_of, l_hook, l_make, l_by, l_changes]); omega, by show 1 ≤ sizeLine; decide, fun q1 nq1 => ?_⟩
    have e1 : upd H q1 (.lst [V.str (("library " : Str) ++ L.name)]) q1 = some (.lst [V.str (("library " : Str) ++ L.name)]) := upd_same
    have s1 : Same H (upd H q1 (.lst [V.str (("library " : Str) ++ L.name)])) := same_upd nq1
    generalize upd H q1 (.lst [V.str (("library " : Str) ++ L.name)]) = G1 at e1 s1
    refine ⟨_, rfl, a, _, ((1 : Nat) : Int), _, rfl, rfl, SqL.of (s1 _ _ ha), atI_nat (j := 1) rfl, pp, rfl, ⟨_, SqL.of (s1 _ _ hpp)⟩, fun D nD => ?_⟩
    refine lc_fm (walk_list (xs := L.ps.map V.str)) (fun i => L.ps[i]?.map fun q => V.str (("needs " : Str) ++ q)) nD (by rw [List.length_map]; omega) (fun _ s => SqL.of (s _ _ (s1 _ _ hpp))) ?_ ?_
    · rintro i x G2 G3 NT NE hi s2 ⟨rfl, hx⟩ h0 h1
      obtain ⟨q, hq, rfl⟩ : ∃ q, L.ps[i]? = some q ∧ V.str q = x := by
        rw [List.getElem?_map] at hx
        cases e : L.ps[i]? with
        | none => rw [e] at hx; cases hx
        | some q => rw [e] at hx; exact ⟨q, rfl, by injection hx⟩
      have hq' : q.length ≤ 1000 := S.sp q (List.mem_of_getElem? hq)
      refine ⟨rfl, _, rfl, _, _, rfl, rfl, by rw [sizeLine_eq]; (try simp only [len_app, l_lib, l_needs, l_keeps, l_of, l_hook, l_make, l_by, l_changes]); omega, h1 _ _ ?_ (Same.refl _)⟩
      show L.ps[i]?.map _ = _
      rw [hq]
      rfl
    intro G2 s2 hD
    rw [gath_map L.ps _ (by rw [List.length_map])] at hD
    refine ⟨q1, D, _, _, rfl, rfl, s2 _ _ e1, hD, by rw [List.length_map, sizeLine_eq]; show 1 + _ ≤ _; omega, fun q2 nq2 => ?_⟩
    have e2 : upd G2 q2 (.lst ([V.str (("library " : Str) ++ L.name)] ++ L.ps.map fun q => V.str (("needs " : Str) ++ q))) q2 = some (.lst (([("library " : Str) ++ L.name] ++ L.ps.map fun q => ("needs " : Str) ++ q).map V.str)) := by
      rw [upd_same, List.map_append, List.map_map]
      rfl
    have s12 : Same H (upd G2 q2 (.lst ([V.str (("library " : Str) ++ L.name)] ++ L.ps.map fun q => V.str (("needs " : Str) ++ q)))) := (s1.trans s2).trans (same_upd nq2)
    generalize upd G2 q2 (.lst ([V.str (("library " : Str) ++ L.name)] ++ L.ps.map fun q => V.str (("needs " : Str) ++ q))) = G3 at e2 s12
    refine ⟨_, rfl, _, rfl, a, _, ((2 : Nat) : Int), _, rfl, rfl, SqL.of (s12 _ _ ha), atI_nat (j := 2) rfl, pk, rfl, ⟨_, SqL.of (s12 _ _ hpk)⟩, fun D2 nD2 => ?_⟩
    refine lc_fm (walk_list (xs := kts)) (fun i => L.kept[i]?.map fun q => V.str (("keeps " : Str) ++ q.1 ++ (" of " : Str) ++ q.2)) nD2 (by rw [hP.len]; omega) (fun _ s => SqL.of (s _ _ (s12 _ _ hpk))) ?_ ?_
    · rintro i x G4 G5 NT NE hi s4 ⟨rfl, hx⟩ h0 h1
      obtain ⟨q, t, hq, rfl, ht⟩ := pair_at (hP.same (s12.trans s4)) hx
      have hq1 : q.1.length ≤ 1000 := (S.sk q (List.mem_of_getElem? hq)).1
      have hq2 : q.2.length ≤ 1000 := (S.sk q (List.mem_of_getElem? hq)).2
      refine ⟨rfl, _, rfl, t, _, ((0 : Nat) : Int), _, rfl, rfl, SqT.of ht, atI_nat (j := 0) rfl, _, _, rfl, rfl, by rw [sizeLine_eq]; (try simp only [len_app, l_lib, l_needs, l_keeps, l_of, l_hook, l_make, l_by, l_changes]); omega, _, _, rfl, rfl, by rw [sizeLine_eq]; (try simp only [len_app, l_lib, l_needs, l_keeps, l_of, l_hook, l_make, l_by, l_changes]); omega, _, rfl, t, _, ((1 : Nat) : Int), _, rfl, rfl, SqT.of ht, atI_nat (j := 1) rfl, _, _, rfl, rfl, by rw [sizeLine_eq]; (try simp only [len_app, l_lib, l_needs, l_keeps, l_of, l_hook, l_make, l_by, l_changes]); omega, h1 _ _ ?_ (Same.refl _)⟩
      show L.kept[i]?.map _ = _
      rw [hq]
      rfl
    intro G4 s4 hD2
    rw [gath_map L.kept _ hP.len] at hD2
    refine ⟨q2, D2, _, _, rfl, rfl, s4 _ _ e2, hD2, by simp only [List.length_map, List.length_append, List.length_cons, List.length_nil]; rw [sizeLine_eq]; omega, fun q3 nq3 => ?_⟩
    have e3 : upd G4 q3 (.lst ((([("library " : Str) ++ L.name] ++ L.ps.map fun q => ("needs " : Str) ++ q).map V.str) ++ L.kept.map fun q => V.str (("keeps " : Str) ++ q.1 ++ (" of " : Str) ++ q.2))) q3 =
        some (.lst (([("library " : Str) ++ L.name] ++ L.ps.map (fun q => ("needs " : Str) ++ q) ++ L.kept.map fun q => ("keeps " : Str) ++ q.1 ++ (" of " : Str) ++ q.2).map V.str)) := by
      rw [upd_same, List.map_append (l₂ := L.kept.map _), List.map_map (l := L.kept)]
      rfl
    have s14 : Same H (upd G4 q3 (.lst ((([("library " : Str) ++ L.name] ++ L.ps.map fun q => ("needs " : Str) ++ q).map V.str) ++ L.kept.map fun q => V.str (("keeps " : Str) ++ q.1 ++ (" of " : Str) ++ q.2)))) := (s12.trans s4).trans (same_upd nq3)
    have nq3H : H q3 = none := (s12.trans s4).free nq3
    generalize upd G4 q3 (.lst ((([("library " : Str) ++ L.name] ++ L.ps.map fun q => ("needs " : Str) ++ q).map V.str) ++ L.kept.map fun q => V.str (("keeps " : Str) ++ q.1 ++ (" of " : Str) ++ q.2))) = G5 at e3 s14
    -- the hook's line: where the two ways meet
    refine ⟨fun σ' G' => σ' = [some (.ref a), some (.ref q3), none, none, none, none, none, none] ∧ Same H G' ∧ StrsAt G' q3 (rootLines L.name L.ps L.kept L.hook), ?_, ?_⟩
    · refine ⟨_, rfl, a, _, ((3 : Nat) : Int), _, rfl, rfl, SqL.of (s14 _ _ ha), atI_nat (j := 3) rfl, rfl, _, rfl, ?_⟩
      rw [hook_non]
      cases eh : L.hook with
      | none =>
        refine iteF ⟨rfl, s14, ?_⟩
        unfold rootLines
        rw [List.append_nil]
        exact e3
      | some h =>
        have hh : h.length ≤ 1000 := S.sh h eh
        have ha' : G5 a = some (.lst [.str L.name, .ref pp, .ref pk, hookV (some h), .ref pr]) := by
          rw [← eh]
          exact s14 _ _ ha
        refine iteT ⟨_, rfl, .inl ⟨rfl, _, SqL.of e3⟩, _, rfl, a, _, ((3 : Nat) : Int), _, rfl, rfl, SqL.of ha', atI_nat (j := 3) rfl, _, _, rfl, rfl, by rw [sizeLine_eq]; (try simp only [len_app, l_lib, l_needs, l_keeps, l_of, l_hook, l_make, l_by, l_changes]); omega, q3, _, _, rfl, rfl, e3, by simp only [List.length_map, List.length_append, List.length_cons, List.length_nil]; rw [sizeLine_eq]; omega, rfl, same_upd' s14 nq3H, ?_⟩
        unfold rootLines StrsAt
        rw [upd_same, List.map_append (l₂ := [("hook " : Str) ++ h])]
        rfl
    · rintro σ' G6 ⟨rfl, s6, hq3⟩
      have hroot : (rootLines L.name L.ps L.kept L.hook).length ≤ 22 := by
        unfold rootLines
        simp only [List.length_append, List.length_map, List.length_cons, List.length_nil]
        cases L.hook <;> simp <;> omega
      refine ⟨_, rfl, a, _, ((4 : Nat) : Int), _, rfl, rfl, SqL.of (s6 _ _ ha), atI_nat (j := 4) rfl, pr, rfl, ⟨_, SqL.of (s6 _ _ hpr)⟩, ?_⟩
      refine for_list (xs := rts) (fun i σ G => ∃ (u1 u2 u3 u4 : Option V), σ = [some (.ref a), some (.ref q3), u1, u2, u3, u4, none, none] ∧ Same H G ∧ StrsAt G q3 (rootLines L.name L.ps L.kept L.hook ++ (L.ops.take i).map opLine))
        ⟨none, none, none, none, rfl, s6, by simpa using hq3⟩ (fun i σ G _ q => by
          obtain ⟨_, _, _, _, _, s, _⟩ := q
          exact SqL.of (s _ _ hpr)) ?_ ?_
      · rintro i x σ G hx ⟨u1, u2, u3, u4, rfl, sG, hq⟩
        have hi : i < L.ops.length := by
          rw [← hR.len]
          exact (List.getElem?_eq_some_iff.mp hx).1
        have eo : L.ops[i]? = some L.ops[i] := List.getElem?_eq_getElem hi
        obtain ⟨t, c, ht, hrow, hch⟩ := hR.row i _ eo
        rw [hx] at ht
        cases ht
        have hso := S.so _ (List.getElem_mem hi)
        have hok := S.ok _ (List.getElem_mem hi)
        have etake : (L.ops.take (i + 1)).map opLine = (L.ops.take i).map opLine ++ [opLine L.ops[i]] := by
          rw [List.take_succ, eo, List.map_append]
          rfl
        generalize L.ops[i] = o at hrow hch hso hok etake
        obtain ⟨os1, os2, os3, os4⟩ := hso
        have os1' : o.sign.length ≤ 1000 := os1
        have os2' : o.maker.length ≤ 1000 := os2
        have fin : ∀ (G' : Hp) (z : Str), z = opLine o → upd G' q3 (.lst ((rootLines L.name L.ps L.kept L.hook ++ (L.ops.take i).map opLine).map V.str ++ [V.str z])) q3 = some (.lst ((rootLines L.name L.ps L.kept L.hook ++ (L.ops.take (i + 1)).map opLine).map V.str)) := by
          intro G' z e
          rw [upd_same, etake, e, ← List.append_assoc, List.map_append (l₂ := [opLine o])]
          rfl
        have hro := sG _ _ hrow
        refine ⟨t, _, rfl, SqL.of hro, rfl, _, _, rfl, _, _, rfl, _, _, rfl, _, _, rfl, rfl, _, rfl, rfl, _, rfl, ?_⟩
        rw [show (V.int 0 : V) = V.int ((0 : Nat) : Int) from rfl, len_is]
        refine ite2 (fun h0 => ?_) (fun h0 => ?_)
        · refine ⟨_, rfl, .inl ⟨rfl, _, SqL.of hq⟩, _, rfl, _, _, rfl, rfl, by rw [sizeLine_eq]; (try simp only [len_app, l_make, l_by, l_changes]); omega, _, _, rfl, rfl, by rw [sizeLine_eq]; (try simp only [len_app, l_make, l_by, l_changes]); omega, _, rfl, _, _, rfl, rfl, by rw [sizeLine_eq]; (try simp only [len_app, l_make, l_by, l_changes]); omega, q3, _, _, rfl, rfl, hq, by rw [List.length_map, List.length_append, List.length_map, List.length_take, sizeLine_eq]; omega, _, _, _, _, rfl, same_upd' sG nq3H, ?_⟩
          refine fin G _ ?_
          unfold opLine
          rw [if_pos (of_decide_eq_true h0)]
        · have h0' : arity o.sign ≠ 0 := fun z => h0 (decide_eq_true z)
          refine ⟨_, rfl, by show 0 ≤ sizeLine; decide, fun l nl => eq_lists (ws := o.changed) (zs := []) (SqL.of (same_upd nl _ _ (sG _ _ hch))) (SqL.of upd_same) hok (fun w hw => by cases hw) ⟨_, rfl, ?_⟩⟩
          have sl : Same G (upd G l (.lst [])) := same_upd nl
          generalize upd G l (.lst []) = G7 at sl
          have hq7 := sl _ _ hq
          have s7 := sG.trans sl
          refine ite2 (fun h1 => ?_) (fun h1 => ?_)
          · refine ⟨_, rfl, .inl ⟨rfl, _, SqL.of hq7⟩, _, rfl, _, _, rfl, rfl, by rw [sizeLine_eq]; (try simp only [len_app, l_make, l_by, l_changes]); omega, _, rfl, _, _, rfl, rfl, by rw [sizeLine_eq]; (try simp only [len_app, l_make, l_by, l_changes]); omega, q3, _, _, rfl, rfl, hq7, by rw [List.length_map, List.length_append, List.length_map, List.length_take, sizeLine_eq]; omega, _, _, _, _, rfl, same_upd' s7 nq3H, ?_⟩
            refine fin G7 _ ?_
            unfold opLine
            rw [if_neg h0', if_pos (of_decide_eq_true h1)]
          · have el : (" " : Str).length = 1 := by decide +kernel
            have hsum := sum_short (b := 1000) os3
            have hjl := len_join " " o.changed
            rw [el] at hjl
            have hmul : o.changed.length * 1000 ≤ 100 * 1000 := Nat.mul_le_mul_right _ os4
            refine ⟨_, rfl, .inl ⟨rfl, _, SqL.of hq7⟩, _, rfl, _, _, rfl, rfl, by rw [sizeLine_eq]; (try simp only [len_app, l_make, l_by, l_changes]); omega, ⟨_, rfl⟩, _, rfl, _, c, o.changed, rfl, rfl, .inl (SqL.of (s7 _ _ hch)), by rw [el]; omega, ?_⟩
            rw [join_eq]
            refine ⟨_, _, rfl, rfl, by rw [sizeLine_eq]; (try simp only [len_app, l_make, l_by, l_changes]); omega, _, _, rfl, rfl, by rw [sizeLine_eq]; (try simp only [len_app, l_make, l_by, l_changes]); omega, _, rfl, _, _, rfl, rfl, by rw [sizeLine_eq]; (try simp only [len_app, l_make, l_by, l_changes]); omega, q3, _, _, rfl, rfl, hq7, by rw [List.length_map, List.length_append, List.length_map, List.length_take, sizeLine_eq]; omega, _, _, _, _, rfl, same_upd' s7 nq3H, ?_⟩
            refine fin G7 _ ?_
            unfold opLine
            rw [if_neg h0', if_neg (fun z => h1 (decide_eq_true z))]
      · rintro σ G ⟨u1, u2, u3, u4, rfl, sG, hq⟩
        refine ⟨_, rfl, k q3 G sG nq3H ?_⟩
        rw [hR.len, List.take_length] at hq
        exact hq
end
end K04

namespace K04
open PySem PySem.Spec PyProof.Rows L2 EV TL LM
/-- the values that the law hands over -/
inductive Od where
  | s (z : Str)
  | i (j : Int)
  | n
  | b (k : Bool)
  | l (z : Str)
def OdAt (H : Hp) (v : V) : Od → Prop
  | .s z => v = .str z
  | .i j => v = .int j
  | .n => v = .non
  | .b k => v = .bl k
  | .l z => ∃ a, v = .ref a ∧ H a = some (.lst [.str z])
def Od.data : Od → PyData
  | .s z => .str z
  | .i j => .int j
  | .n => .none
  | .b k => .bool k
  | .l z => .list [.str z]
def Od.ok : Od → Prop
  | .s z => PyData.strOk z = true
  | .l z => PyData.strOk z = true
  | _ => True
theorem OdAt.moved {H H' : Hp} {v : V} : ∀ {o : Od}, OdAt H v o → (∀ b u, H b = some u → (∃ z, u = .lst z) → H' b = some u) → OdAt H' v o
  | .s _, h, _ => h
  | .i _, h, _ => h
  | .n, h, _ => h
  | .b _, h, _ => h
  | .l _, ⟨a, e, h⟩, k => ⟨a, e, k _ _ h ⟨_, rfl⟩⟩
theorem OdAt.same {H H' : Hp} {v : V} {o : Od} (h : OdAt H v o) (s : Same H H') : OdAt H' v o := h.moved fun b u z _ => s b u z
theorem OdAt.dp {K : Fg} {H : Hp} {v : V} : ∀ {o : Od}, OdAt H v o → Dp K H v o.data
  | .s _, h => by obtain rfl : v = _ := h; exact .str _
  | .i _, h => by obtain rfl : v = _ := h; exact .int _
  | .n, h => by obtain rfl : v = _ := h; exact .non
  | .b _, h => by obtain rfl : v = _ := h; exact .bl _
  | .l _, ⟨a, e, h⟩ => by subst e; exact .lst (SqL.of h) (.cons (.str _) .nil)
theorem Od.lay : ∀ {o : Od}, o.ok → PyData.canLay0 o.data = true ∧ PyData.depth o.data ≤ 2
  | .s z, h => ⟨h, by simp [Od.data, PyData.depth]⟩
  | .i j, _ => ⟨rfl, by simp [Od.data, PyData.depth]⟩
  | .n, _ => ⟨rfl, by decide⟩
  | .b k, _ => ⟨rfl, by simp [Od.data, PyData.depth]⟩
  | .l z, h => ⟨by
      show (PyData.canLay0 (.str z) && true) = true
      rw [Bool.and_true]
      exact h, by show PyData.depth (.list [.str z]) ≤ 2; simp [PyData.depth, PyData.depthAll]⟩
theorem Od.shaped {o : Od} (h : o.ok) : SeqAt.shaped o.data = true := by
  obtain ⟨h1, h2⟩ := Od.lay h
  unfold SeqAt.shaped
  rw [h1, Bool.true_and]
  exact decide_eq_true (by omega)
/-- an error in the air: a copy of the value in its dict -/
def RaisedO (C : Addr) (f : Str) (o : Od) (H : Hp) (E : XK) : Prop := ∀ d y H', Same H H' → H' d = some (.xd [(f, y)]) → OdAt H' y o → E (.ref C) (some d) H'
/-- x in a tuple of data -/
def rInT (K : Fg) (neg : Bool) : R2 := fun x y H Q => ∃ d ds, Dp K H x d ∧ Dp K H y (.tuple ds) ∧ SeqAt.shaped d = true ∧ SeqAt.shaped (.tuple ds) = true ∧ Q (.bl (if neg then !(ds.any fun z => PyData.eqv z d) else ds.any fun z => PyData.eqv z d)) H
theorem op_inT {X : Cx} (hu : X.A.units + 65 < cLine) : OpR X (compareOp .In) (rInT X.K false) := by
  intro pins s σ H x y v u Q I rx ry h
  obtain ⟨d, ds, hd, he, sd, se, q⟩ := h
  obtain ⟨as, r1⟩ := Dp.reads I d x v hd rx
  obtain ⟨bs, r2⟩ := Dp.reads I (.tuple ds) y u he ry
  exact SeqAt.in_tuple_reads r2 r1 (SeqAt.canLay_of_shaped se) (SeqAt.canLay_of_shaped sd) (room_in_shaped sd hu) ⟨.bl _, H, I, rfl, q⟩
theorem units65 {k : Nat} {A : Around} (r : Room k A) : A.units + 65 < cLine := by have := r.un; omega
def inO (ss : List Str) : Od → Bool
  | .s z => ss.contains z
  | _ => false
theorem any_strs (ss : List Str) : ∀ o : Od, ((ss.map PyData.str).any fun z => PyData.eqv z o.data) = inO ss o
  | .s z => by
    show _ = ss.contains z
    induction ss with
    | nil => rfl
    | cons a r ih =>
      rw [List.map_cons, List.any_cons, ih, List.contains_cons]
      congr 1
      show (a == z) = (z == a)
      rw [Bool.eq_iff_iff, beq_iff_eq, beq_iff_eq]
      exact eq_comm
  | .i j => by induction ss with | nil => rfl | cons a r ih => rw [List.map_cons, List.any_cons, ih]; rfl
  | .n => by induction ss with | nil => rfl | cons a r ih => rw [List.map_cons, List.any_cons, ih]; rfl
  | .b k => by induction ss with | nil => rfl | cons a r ih => rw [List.map_cons, List.any_cons, ih]; rfl
  | .l z => by induction ss with | nil => rfl | cons a r ih => rw [List.map_cons, List.any_cons, ih]; rfl
theorem dp_all {K : Fg} {H : Hp} : ∀ ss : List Str, DpAll K H (ss.map V.str) (ss.map PyData.str)
  | [] => .nil
  | _ :: r => .cons (.str _) (dp_all r)
theorem lay_strs : ∀ ss : List Str, OkW ss → PyData.canLayAll0 (ss.map PyData.str) = true ∧ PyData.depthAll (ss.map PyData.str) ≤ 1
  | [], _ => ⟨rfl, by decide⟩
  | a :: r, h => by
    obtain ⟨h1, h2⟩ := lay_strs r fun p hp => h p (List.mem_cons_of_mem _ hp)
    refine ⟨?_, ?_⟩
    · show (PyData.canLay0 (.str a) && _) = true
      rw [h1, Bool.and_true]
      exact h a List.mem_cons_self
    · rw [List.map_cons, PyData.depthAll, PyData.depth]
      omega
theorem tup_shaped {ss : List Str} (h : OkW ss) : SeqAt.shaped (.tuple (ss.map PyData.str)) = true := by
  obtain ⟨h1, h2⟩ := lay_strs ss h
  unfold SeqAt.shaped
  rw [show PyData.canLay0 (.tuple (ss.map PyData.str)) = true from h1, Bool.true_and]
  refine decide_eq_true ?_
  rw [PyData.depth]
  omega
theorem lst_shaped {ss : List Str} (h : OkW ss) : SeqAt.shaped (.list (ss.map PyData.str)) = true := by
  obtain ⟨h1, h2⟩ := lay_strs ss h
  unfold SeqAt.shaped
  rw [show PyData.canLay0 (.list (ss.map PyData.str)) = true from h1, Bool.true_and]
  refine decide_eq_true ?_
  rw [PyData.depth]
  omega
section
variable {P : Program} {w : World} {K : Fg} {mg : Str → Option Value} {base : Heap}
/-- own_copy of a text -/
def spOwnS : Sp := fun vs H Q _ => ∃ z : Str, vs = [.str z] ∧ Q (.str z) H
theorem ok_own_copy0 {f : Addr} {fd : FuncData} (F : Fun K "own_copy" "own_copy" s_own_copy f fd) (T : Cst K mg) : FnOk P w K mg base CX0 1 f fd ["thing"] spOwnS := by
  refine F.ok sc_own_copy (fun vs H Q E h => ?_) (fun cdv A outer s H vs Q E hr h => ?_)
  · obtain ⟨z, rfl, _⟩ := h
    rfl
  · obtain ⟨z, rfl, q⟩ := h
    refine ⟨_, (pss_cons (ps_if (pt_val (pe_callB call_isi (by rfl) T.n_isinstance (by decide +kernel) (pa_cons (pv 0) (pa_cons (pe_bltn (v := .ty "list") rfl T.n_list (by decide +kernel) rfl) pa_nil)))) (pss_one ps_never) pss_nil) (pss_cons (ps_if (pt_val (pe_callB call_isi (by rfl) T.n_isinstance (by decide +kernel) (pa_cons (pv 0) (pa_cons (pe_bltn (v := .ty "tuple") rfl T.n_tuple (by decide +kernel) rfl) pa_nil)))) (pss_one ps_never) pss_nil) (pss_one (ps_ret (pv 0))))), ?_⟩
    exact ⟨_, rfl, _, _, _, _, false, rfl, .ty "list", .base (.str z), kit_ty (by decide +kernel), _, rfl, iteF ⟨_, rfl, _, _, _, _, false, rfl, .ty "tuple", .base (.str z), kit_ty (by decide +kernel), _, rfl, iteF ⟨_, rfl, q⟩⟩⟩
def spOwn : Sp := fun vs H Q _ => ∃ (v : V) (o : Od), vs = [v] ∧ OdAt H v o ∧ ∀ v' H', Same H H' → OdAt H' v' o → Q v' H'
theorem ok_own_copy {f : Addr} {fd : FuncData} (F : Fun K "own_copy" "own_copy" s_own_copy f fd) (T : Cst K mg) (O_own_copy : Ok P w K mg base 1 "own_copy" ["thing"] spOwnS) : FnOk P w K mg base CX0 2 f fd ["thing"] spOwn := by
  refine F.ok sc_own_copy (fun vs H Q E h => ?_) (fun cdv A outer s H vs Q E hr h => ?_)
  · obtain ⟨v, o, rfl, _⟩ := h
    rfl
  · obtain ⟨v, o, rfl, ho, k⟩ := h
    have hh : (∃ t : String, TyX K H v (.type t) ∧ PySem.W.kitOne K (.type t) (.type "list") = some false ∧ PySem.W.kitOne K (.type t) (.type "tuple") = some false) ∨ ∃ z, o = .l z := by
      cases o with
      | s z => obtain rfl : v = _ := ho; exact .inl ⟨"str", .base (.str z), kit_ty (by decide +kernel), kit_ty (by decide +kernel)⟩
      | i j => obtain rfl : v = _ := ho; exact .inl ⟨"int", .base (.int j), kit_ty (by decide +kernel), kit_ty (by decide +kernel)⟩
      | n => obtain rfl : v = _ := ho; exact .inl ⟨"NoneType", .base .non, kit_ty (by decide +kernel), kit_ty (by decide +kernel)⟩
      | b kk => obtain rfl : v = _ := ho; exact .inl ⟨"bool", .base (.bl kk), kit_ty (by decide +kernel), kit_ty (by decide +kernel)⟩
      | l z => exact .inr ⟨z, rfl⟩
    rcases hh with ⟨t, ty, h1, h2⟩ | ⟨z, rfl⟩
    · refine ⟨_, (pss_cons (ps_if (pt_val (pe_callB call_isi (by rfl) T.n_isinstance (by decide +kernel) (pa_cons (pv 0) (pa_cons (pe_bltn (v := .ty "list") rfl T.n_list (by decide +kernel) rfl) pa_nil)))) (pss_one ps_never) pss_nil) (pss_cons (ps_if (pt_val (pe_callB call_isi (by rfl) T.n_isinstance (by decide +kernel) (pa_cons (pv 0) (pa_cons (pe_bltn (v := .ty "tuple") rfl T.n_tuple (by decide +kernel) rfl) pa_nil)))) (pss_one ps_never) pss_nil) (pss_one (ps_ret (pv 0))))), ?_⟩
      exact ⟨_, rfl, _, _, _, _, false, rfl, .ty "list", ty, h1, _, rfl, iteF ⟨_, rfl, _, _, _, _, false, rfl, .ty "tuple", ty, h2, _, rfl, iteF ⟨_, rfl, k _ _ (Same.refl _) ho⟩⟩⟩
    · obtain ⟨a, rfl, ha⟩ := ho
      refine ⟨_, (pss_cons (ps_if (pt_val (pe_callB call_isi (by rfl) T.n_isinstance (by decide +kernel) (pa_cons (pv 0) (pa_cons (pe_bltn (v := .ty "list") rfl T.n_list (by decide +kernel) rfl) pa_nil)))) (pss_one (ps_ret (pe_lc (own := [("part", 1)]) rfl sc_own_copy.nd (pi_list (pv 0)) (blkOk_by (own := [("part", 1)]) (N := ["thing", "part"]) (sc := defScope s_own_copy) (by decide +kernel)) (fun _ _ _ _ _ => (pg_name (i := 1) sc_own_copy.nd rfl (Or.inl rfl))) (fun _ _ _ _ _ => pts_nil) (fun _ _ _ _ _ => (pe_callO O_own_copy (hr.mono (by decide)) (pa_cons (pv 1) pa_nil)))))) pss_nil) pss_never), ?_⟩
      refine ⟨_, rfl, .ref a, .ty "list", .type "list", .type "list", true, rfl, .ty _, .base (.lst ha), kit_ty (by decide +kernel), _, rfl, iteT ?_⟩
      refine ⟨_, rfl, a, rfl, ⟨_, SqL.of ha⟩, fun D nD => ?_⟩
      refine lc_list (K := K) (a := a) (xs := [.str z]) (fun j G => Same H G ∧ G D = some (.lst ([V.str z].take j))) ⟨same_upd nD, upd_same⟩ (fun j G _ q => SqL.of (q.1 _ _ ha)) ?_ ?_
      · rintro j x G hj ⟨s1, s2⟩
        obtain ⟨rfl, rfl⟩ : j = 0 ∧ x = .str z := by
          cases j with
          | zero => exact ⟨rfl, (Option.some.inj hj).symm⟩
          | succ j => simp at hj
        exact ⟨rfl, _, rfl, z, rfl, _, s2, by show 0 < sizeLine; decide, same_upd' s1 nD, upd_same⟩
      · rintro G ⟨s1, s2⟩
        exact k _ G s1 ⟨D, rfl, s2⟩
/-- an own error that keeps a copy -/
def spErrO (C : Addr) (f : Str) : Sp := fun vs H Q _ => ∃ (H0 : Hp) (a : Addr) (y : V) (o : Od), vs = [.ref a, y] ∧ H = upd H0 a (exo a C none) ∧ H0 a = none ∧ OdAt H0 y o ∧
  ∀ H' d y', Same H0 H' → H0 d = none → H' a = some (exo a C (some d)) → H' d = some (exd d [(f, y')]) → OdAt H' y' o → Q .non H'
theorem ok_NoSign {f C : Addr} {fd : FuncData} (F : Fun K "__init__" "NoSign.__init__" s_NoSign___init__ f fd) (x : XCls K C) (n : NoAttr K C "sign") (O_own_copy : Ok P w K mg base 2 "own_copy" ["thing"] spOwn) :
    FnOk P w K mg base CX0 3 f fd ["self", "sign"] (spErrO C "sign") := by
  refine F.ok sc_NoSign___init__ (fun vs H Q E h => ?_) (fun cdv A outer s H vs Q E hr h => ?_)
  · obtain ⟨H0, a, y, o, rfl, _⟩ := h
    rfl
  · obtain ⟨H0, a, y, o, rfl, rfl, na, ho, k⟩ := h
    refine ⟨_, pss_one (ps_put1 (pv 0) (pe_callO O_own_copy (hr.mono (by decide)) (pa_cons (pv 1) pa_nil))), ⟨_, rfl, y, o, rfl, ho.same (same_upd na), fun y' H1 s1 o1 => ?_⟩⟩
    refine ⟨_, rfl, a, C, rfl, x, n, s1 _ _ upd_same, fun dx nd ne => ?_⟩
    have s0 : Same H0 H1 := (same_upd na).trans s1
    refine k _ dx y' (fun b u z => ?_) (s0.free nd) upd_same (by rw [upd_ne ne]; exact upd_same) (o1.moved fun b u z e => ?_)
    · rw [upd_ne (ne_of_none z na), upd_ne (ne_of_none (s0 _ _ z) nd)]
      exact s0 _ _ z
    · rw [upd_ne (ne_of z (s1 _ _ upd_same) (by obtain ⟨_, rfl⟩ := e; intro q; cases q)), upd_ne (ne_of_none z nd)]
      exact z
theorem ok_BadMaker {f C : Addr} {fd : FuncData} (F : Fun K "__init__" "BadMaker.__init__" s_BadMaker___init__ f fd) (x : XCls K C) (n : NoAttr K C "maker") (O_own_copy : Ok P w K mg base 2 "own_copy" ["thing"] spOwn) :
    FnOk P w K mg base CX0 3 f fd ["self", "maker"] (spErrO C "maker") := by
  refine F.ok sc_BadMaker___init__ (fun vs H Q E h => ?_) (fun cdv A outer s H vs Q E hr h => ?_)
  · obtain ⟨H0, a, y, o, rfl, _⟩ := h
    rfl
  · obtain ⟨H0, a, y, o, rfl, rfl, na, ho, k⟩ := h
    refine ⟨_, pss_one (ps_put1 (pv 0) (pe_callO O_own_copy (hr.mono (by decide)) (pa_cons (pv 1) pa_nil))), ⟨_, rfl, y, o, rfl, ho.same (same_upd na), fun y' H1 s1 o1 => ?_⟩⟩
    refine ⟨_, rfl, a, C, rfl, x, n, s1 _ _ upd_same, fun dx nd ne => ?_⟩
    have s0 : Same H0 H1 := (same_upd na).trans s1
    refine k _ dx y' (fun b u z => ?_) (s0.free nd) upd_same (by rw [upd_ne ne]; exact upd_same) (o1.moved fun b u z e => ?_)
    · rw [upd_ne (ne_of_none z na), upd_ne (ne_of_none (s0 _ _ z) nd)]
      exact s0 _ _ z
    · rw [upd_ne (ne_of z (s1 _ _ upd_same) (by obtain ⟨_, rfl⟩ := e; intro q; cases q)), upd_ne (ne_of_none z nd)]
      exact z

/-- what pmk_x asks of such an error -/
theorem raise_o {C : Addr} {f : Str} {H : Hp} {y : V} {o : Od} {E : XK} (ho : OdAt H y o) (ke : RaisedO C f o H E) : ([y] : List V).length ≤ 1000 ∧ ∀ a, H a = none → spErrO C f (.ref a :: ([y] ++ [])) (upd H a (exo a C none))
    (fun v H2 => v = .non ∧ ∃ (d : Addr) (fs : List (Str × V)), H2 a = some (exo a C (some d)) ∧ H2 d = some (exd d fs) ∧ H d = none ∧ E (.ref C) (some d) (upd (del H2 a) d (.xd fs))) (fun _ _ _ => False) := by
  refine ⟨by show 1 ≤ 1000; decide, fun a na => ⟨H, a, y, o, rfl, rfl, na, ho, fun H' d y' s9 nd ha hd o9 => ⟨rfl, d, _, ha, hd, nd, ke d y' _ (same_raise s9 na nd) upd_same (o9.moved fun b u z e => ?_)⟩⟩⟩
  rw [upd_ne (ne_of z hd (by obtain ⟨_, rfl⟩ := e; intro q; cases q)), del_ne (ne_of z ha (by obtain ⟨_, rfl⟩ := e; intro q; cases q))]
  exact z
/-- sign in library, any value -/
def OkL (L : Lib) : Prop := OkW (L.ops.map (·.sign))
def spHasX (K : Fg) (C : Addr) : Sp := fun vs H Q _ => ∃ (a : Addr) (L : Lib) (v : V) (o : Od), vs = [.ref a, v] ∧ LibAt K H C a L ∧ OkL L ∧ OdAt H v o ∧ o.ok ∧ Q (.bl (inO (L.ops.map (·.sign)) o)) H
theorem ok_containsX {f C : Addr} {fd : FuncData} (F : Fun K "__contains__" "Library.__contains__" s_Library___contains__ f fd) (T : Cst K mg) (hC : LibC K C) : FnOk P w K mg base CX0 1 f fd ["self", "x"] (spHasX K C) := by
  refine F.ok sc_Library___contains__ (fun vs H Q E h => ?_) (fun cdv A outer s H vs Q E hr h => ?_)
  · obtain ⟨a, L, v, o, rfl, _⟩ := h
    rfl
  · obtain ⟨a, L, v, o, rfl, ⟨dx, pa, pk, po, psg, pc, pm, ha, R⟩, ok, ho, oo, k⟩ := h
    refine ⟨_, (pss_one (ps_ret (pe_cmpR (op_inT (units65 hr)) (pv 1) (pe_fld (pv 0) rfl) (by rfl)))), ?_⟩
    refine ⟨_, rfl, _, rfl, a, C, dx, _, _, rfl, ha, hC.cls, hC.no _ (by simp), lookF.signs, o.data, (L.ops.map fun x : Op => x.sign).map PyData.str, ho.dp, .tup R.signs (dp_all _), Od.shaped oo, tup_shaped ok, ?_⟩
    rw [any_strs]
    exact k
def spCheckX (K : Fg) (C CN : Addr) : Sp := fun vs H Q E => ∃ (a : Addr) (L : Lib) (v : V) (o : Od), vs = [.ref a, v] ∧ LibAt K H C a L ∧ OkL L ∧ OdAt H v o ∧ o.ok ∧ (inO (L.ops.map (·.sign)) o = true → Q .non H) ∧ (inO (L.ops.map (·.sign)) o = false → RaisedO CN "sign" o H E)
theorem ok_checkX {f C CN : Addr} {fd : FuncData} (F : Fun K "_check" "Library._check" s_Library__check f fd) (T : Cst K mg) (O_contains : OkM CX0 P w K mg base 1 C "__contains__" ["self", "x"] (spHasX K C))
    (O_NoSign : OkC P w K mg base 3 "NoSign" CN ["self", "sign"] (spErrO CN "sign")) (ty_NoSign : PySem.W.typeIn K (.ref CN) = some (.type "type")) : FnOk P w K mg base (L2.CX P w) 5 f fd ["self", "sign"] (spCheckX K C CN) := by
  refine F.okX sc_Library__check (fun vs H Q E h => ?_) (fun cdv A outer s H vs Q E hr h => ?_)
  · obtain ⟨a, L, v, o, rfl, _⟩ := h
    rfl
  · obtain ⟨a, L, v, o, rfl, hL, ok, ho, oo, q, x⟩ := h
    refine ⟨_, (pss_one (ps_if (pt_cmpR (op_notInO O_contains (hr.mono (by decide))) (pv 1) (pv 0) (by rfl)) (pss_one (ps_raise rfl (takes_of rfl rfl rfl rfl) (pmk_x O_NoSign ty_NoSign (hr.mono (by decide)) (pa_cons (pv 1) pa_nil)))) pss_nil)), ?_⟩
    obtain ⟨dx, pa, pk, po, psg, pc, pm, ha, R⟩ := id hL
    refine ⟨_, rfl, _, rfl, a, dx, _, rfl, ha, a, L, v, o, rfl, hL, ok, ho, oo, _, rfl, _, rfl, ?_⟩
    cases e : inO (L.ops.map (·.sign)) o with
    | true => exact iteF (q e)
    | false => exact iteT ⟨_, rfl, raise_o ho (x e)⟩
end
end K04

namespace K04
open PySem PySem.Spec PyProof.Rows L2 EV TL LM
def withM (L : Lib) (s m : Str) : Lib := ⟨L.name, L.ps, L.kept, L.hook, L.ops.map fun o => if o.sign = s then ⟨o.sign, o.changed, m⟩ else o⟩
theorem with_signs (L : Lib) (s m : Str) : (withM L s m).ops.map (·.sign) = L.ops.map (·.sign) := by
  unfold withM
  rw [List.map_map]
  refine List.map_congr_left fun o _ => ?_
  show (if o.sign = s then (⟨o.sign, o.changed, m⟩ : Op) else o).sign = o.sign
  split <;> rfl
structure LibFine (L : Lib) : Prop where
  nd : (L.ops.map (·.sign)).Nodup
  sn : Short L.name
  sp : ∀ p ∈ L.ps, Short p
  sk : ∀ p ∈ L.kept, Short p.1 ∧ Short p.2
  sh : ∀ h, L.hook = some h → Short h
  so : OpsShort L.ops
  lp : L.ps.length ≤ 10
  lk : L.kept.length ≤ 10
  lo : L.ops.length ≤ 10
/-- Library.makers by the class, its hook told -/
def gOne {α : Type} : List α → List α → List α
  | [u], ws => u :: ws
  | _, _ => []
structure OkMk (P : Program) (w : World) (K : Fg) (mg : Str → Option Value) (base : Heap) (C : Addr) : Prop where
  ex : ∃ (f : Addr) (fd : FuncData), FnOk P w K mg base CX0 1 f fd ["arity", "hook"] spMakers ∧ SM K C "makers" f ∧ KBinds K fd ["arity", "hook"] ["hook"] gOne gOne
section
variable {P : Program} {w : World} {K : Fg} {mg : Str → Option Value} {base : Heap}
def spWithX (K : Fg) (C CN CB : Addr) : Sp := fun vs H Q E => ∃ (a : Addr) (L : Lib) (v u : V) (os om : Od), vs = [.ref a, v, u] ∧ LibAt K H C a L ∧ LibFine L ∧ OkL L ∧ OdAt H v os ∧ os.ok ∧ OdAt H u om ∧ om.ok ∧ (∀ m, om = .s m → Short m) ∧
  (inO (L.ops.map (·.sign)) os = false → RaisedO CN "sign" os H E) ∧
  ∀ z, os = .s z → (L.ops.map (·.sign)).contains z = true → (inO (allowed (arity z) L.hook.isSome) om = false → RaisedO CB "maker" om H E) ∧
    ∀ m, om = .s m → (allowed (arity z) L.hook.isSome).contains m = true → ∀ a' H', Same H H' → H a' = none → LibAt K H' C a' (withM L z m) → Q (.ref a') H'
theorem makers_okw : ∀ m ∈ makers0 ++ makers1 ++ makers2, PyData.strOk m = true := by decide +kernel
theorem allowed_okw (n : Nat) (hk : Bool) : OkW (allowed n hk) := fun m hm => by
  refine makers_okw m ?_
  have h := (List.mem_filter.mp hm).1
  match n with
  | 0 => exact List.mem_append_left _ (List.mem_append_left _ h)
  | 1 => exact List.mem_append_left _ (List.mem_append_right _ h)
  | _ + 2 => exact List.mem_append_right _ h
theorem RaisedO.mono {C : Addr} {f : Str} {o : Od} {H H1 : Hp} {E : XK} (x : RaisedO C f o H E) (s : Same H H1) : RaisedO C f o H1 E := fun d y H' s' => x d y H' (s.trans s')
theorem ok_with_maker {f C CN CB : Addr} {fd : FuncData} (F : Fun K "with_maker" "Library.with_maker" s_Library_with_maker f fd) (T : Cst K mg) (hC : LibC K C) (O_check : OkM (L2.CX P w) P w K mg base 5 C "_check" ["self", "sign"] (spCheckX K C CN))
    (O_arity_of : Ok P w K mg base 1 "arity_of" ["sign"] spArity) (O_makers : OkMk P w K mg base C) (gL : mg "Library" = some (.ref C))
    (O_Library : OkI P w K mg base 3 "Library" C ["self", "name", "root_parameters", "kept", "root_hook", "operations"] (spInit K C))
    (O_BadMaker : OkC P w K mg base 3 "BadMaker" CB ["self", "maker"] (spErrO CB "maker")) (ty_BadMaker : PySem.W.typeIn K (.ref CB) = some (.type "type")) :
    FnOk P w K mg base (L2.CX P w) 7 f fd ["self", "sign", "maker"] (spWithX K C CN CB) := by
  obtain ⟨fm, fdm, Fm, Sm, Km⟩ := O_makers.ex
  refine F.okX sc_Library_with_maker (fun vs H Q E h => ?_) (fun cdv A outer s H vs Q E hr h => ?_)
  · obtain ⟨a, L, v, u, os, om, rfl, _⟩ := h
    rfl
  · obtain ⟨a, L, v, u, os, om, rfl, hL, hF, okL, h1o, ok1, h2o, ok2, sm, kn, k⟩ := h
    refine ⟨_, (pss_cons (ps_expr (pe_methX (takes_of rfl rfl rfl rfl) (pv 0) hC.cls O_check (hr.mono (by decide)) (pa_cons (pv 1) pa_nil)))
    (pss_cons (ps_if (pt_cmpR (op_notInD (units65 hr)) (pv 2) (pe_smethK (pe_glob (v := .ref C) rfl gL rfl) Sm Fm (hr.mono (by decide)) Km (pa_cons (pe_callO O_arity_of (hr.mono (by decide)) (pa_cons (pv 1) pa_nil)) pa_nil) (pk_cons (pe_cmpR op_notN (pe_fld (pv 0) rfl) pe_non (nomark _)) pk_nil)) (by rfl)) (pss_one (ps_raise rfl (takes_of rfl rfl rfl rfl) (pmk_x O_BadMaker ty_BadMaker (hr.mono (by decide)) (pa_cons (pv 2) pa_nil)))) pss_nil)
    (pss_cons (ps_set (i := 3) sc_Library_with_maker.nd rfl (Or.inl rfl) (pe_lst pa_nil))
    (pss_cons (ps_for (passes_of rfl) rfl (pi_tup (pe_fld (pv 0) rfl)) (pg_tup rfl (pgs_cons (pg_name (i := 4) sc_Library_with_maker.nd rfl (Or.inl rfl)) (pgs_cons (pg_name (i := 5) sc_Library_with_maker.nd rfl (Or.inl rfl)) (pgs_cons (pg_name (i := 6) sc_Library_with_maker.nd rfl (Or.inl rfl)) pgs_nil)))) (pss_one (ps_expr (pe_bm PySem.F.plainAttrs_list PySem.F.slot_list_append PySem.F.type_list_append mt_append (pv 3) (pa_cons (pe_tup (pa_cons (pv 4) (pa_cons (pv 5) (pa_cons (pe_mid (pe_ifExp (pt_cmpR op_eq (pv 4) (pv 1) (nomark _)) (pv 2) (pv 6))) pa_nil)))) pa_nil)))))
    (pss_one (ps_ret (pe_makeO O_Library (hr.mono (by decide)) (pa_cons (pe_fld (pv 0) rfl) (pa_cons (pe_fld (pv 0) rfl) (pa_cons (pe_fld (pv 0) rfl) (pa_cons (pe_fld (pv 0) rfl) (pa_cons (pv 3) pa_nil)))))))))))), ?_⟩
    obtain ⟨dx, pa, pk, po, psg, pc, pm, ha, R⟩ := id hL
    refine ⟨_, rfl, a, dx, _, rfl, ha, lookF_no (by decide +kernel), _, rfl, a, L, v, os, rfl, hL, okL, h1o, ok1, fun ein => ?_, kn⟩
    obtain ⟨z, rfl⟩ : ∃ z, os = .s z := by
      cases os with
      | s z => exact ⟨z, rfl⟩
      | _ => cases ein
    obtain rfl : v = .str z := h1o
    obtain ⟨ke, ko⟩ := k z rfl ein
    have eh : (!decide (hookV L.hook = V.non)) = L.hook.isSome := by rw [hook_non]; cases L.hook <;> rfl
    refine ⟨_, rfl, rfl, _, rfl, z, rfl, _, rfl, a, C, dx, _, _, rfl, ha, hC.cls, hC.no _ (by simp), lookF.root_hook, rfl, arity z, !decide (hookV L.hook = V.non), rfl, arity_le z, fun p H1 s1 np hp => ?_⟩
    rw [eh] at hp
    refine ⟨om.data, (allowed (arity z) L.hook.isSome).map PyData.str, (h2o.same s1).dp, .lst (SqL.of hp) (dp_all _), Od.shaped ok2, lst_shaped (allowed_okw _ _), _, rfl, ?_⟩
    rw [any_strs]
    cases e1 : inO (allowed (arity z) L.hook.isSome) om with
    | false => exact iteT ⟨_, rfl, raise_o (h2o.same s1) ((ke e1).mono s1)⟩
    | true =>
      obtain ⟨m, rfl⟩ : ∃ m, om = .s m := by
        cases om with
        | s m => exact ⟨m, rfl⟩
        | _ => cases e1
      obtain rfl : u = .str m := h2o
      have sm := sm m rfl
      have ko := fun e => ko m rfl e
      refine iteF ⟨by show 0 ≤ sizeLine; decide, fun q nq => ?_⟩
      have sq : Same H (upd H1 q (.lst [])) := s1.trans (same_upd nq)
      have eq0 : upd H1 q (.lst []) q = some (.lst []) := upd_same
      have nqH : H q = none := s1.free nq
      generalize upd H1 q (.lst []) = G at sq eq0
      obtain ⟨ots, tpo, hO⟩ := R.ops
      refine ⟨_, rfl, a, C, dx, _, _, rfl, sq _ _ ha, hC.cls, hC.no _ (by simp), lookF.ops, po, rfl, ⟨_, SqT.same sq tpo⟩, ?_⟩
      have hlen : (withM L z m).ops.length = L.ops.length := by
        unfold withM
        exact List.length_map _
      refine for_it walk_tup (fun i σ G' => ∃ (ts : List V) (u1 u2 u3 : Option V), σ = [some (.ref a), some (.str z), some (.str m), some (.ref q), u1, u2, u3] ∧ Same H G' ∧ G' q = some (.lst ts) ∧ OpsAt G' ts ((withM L z m).ops.take i))
        ⟨[], none, none, none, rfl, sq, eq0, by rw [List.take_zero]; exact OpsAt.nil⟩ (fun i σ G' _ h => by
          obtain ⟨_, _, _, _, _, s, _⟩ := h
          exact SqT.same s tpo) ?_ ?_
      · rintro i x σ G1 G2 hi ⟨ts, u1, u2, u3, rfl, s2, hq2, hO2⟩ ⟨rfl, hx⟩
        have hi2 : i < L.ops.length := by rw [← hO.len]; exact hi
        have eo : L.ops[i]? = some L.ops[i] := List.getElem?_eq_getElem hi2
        obtain ⟨t, ht, c, ht1, ht2⟩ := (hO.same s2).op i _ eo
        rw [hx] at ht
        cases ht
        have etake : (withM L z m).ops.take (i + 1) = (withM L z m).ops.take i ++ [if L.ops[i].sign = z then (⟨L.ops[i].sign, L.ops[i].changed, m⟩ : Op) else L.ops[i]] := by
          rw [List.take_succ]
          have : (withM L z m).ops[i]? = some (if L.ops[i].sign = z then (⟨L.ops[i].sign, L.ops[i].changed, m⟩ : Op) else L.ops[i]) := by
            unfold withM
            rw [List.getElem?_map, eo]
            rfl
          rw [this]
          rfl
        have lts : ts.length ≤ 10 := by
          have := hF.lo
          rw [hO2.len, List.length_take]
          omega
        generalize L.ops[i] = o at ht1 ht2 etake
        refine ⟨t, _, rfl, SqT.of ht1, rfl, _, _, rfl, _, _, rfl, _, _, rfl, rfl, _, rfl, .inl ⟨rfl, _, SqL.of hq2⟩, _, rfl, _, rfl, fun v G' => v = V.str (if o.sign = z then m else o.maker) ∧ G2 = G', ⟨_, rfl, _, rfl, rfl, _, rfl, ?_⟩, ?_⟩
        · rw [eq_str]
          refine ite2 (fun h1 => ?_) (fun h1 => ?_)
          · refine ⟨_, rfl, ?_, rfl⟩
            rw [if_pos (eq_of_beq h1)]
          · refine ⟨_, rfl, ?_, rfl⟩
            rw [if_neg (fun e => h1 (beq_iff_eq.mpr e))]
        · rintro v G' ⟨rfl, rfl⟩
          refine ⟨by show 3 ≤ sizeLine; decide, fun t2 nt2 => ?_⟩
          have qt : q ≠ t2 := fun e => by rw [← e, hq2] at nt2; cases nt2
          have nt2H : H t2 = none := s2.free nt2
          refine ⟨q, _, _, rfl, rfl, by rw [upd_ne qt]; exact hq2, by rw [sizeLine_eq]; omega, _, _, _, _, rfl, same_upd' (same_upd' s2 nt2H) nqH, upd_same, ?_⟩
          rw [etake]
          refine OpsAt.snoc (hO2.tups fun t' xs e => ?_) ?_
          · have n1 : t' ≠ q := fun e' => by rw [e', hq2] at e; cases e
            have n2 : t' ≠ t2 := fun e' => by rw [e', nt2] at e; cases e
            rw [upd_ne n1, upd_ne n2]
            exact e
          · have hc1 : c ≠ q := fun e' => by rw [e', hq2] at ht2; cases ht2
            have hc2 : c ≠ t2 := fun e' => by rw [e', nt2] at ht2; cases ht2
            refine ⟨c, ?_, ?_⟩
            · rw [upd_ne (Ne.symm qt), upd_same]
              split <;> rfl
            · rw [upd_ne hc1, upd_ne hc2, ht2]
              split <;> rfl
      · rintro σ G1 ⟨ts, u1, u2, u3, rfl, s2, hq2, hO2⟩
        rw [hO.len, ← hlen, List.take_length] at hO2
        have haG := s2 _ _ ha
        obtain ⟨kts, tpk, hPk⟩ := R.kept
        refine ⟨_, rfl, a, C, dx, _, _, rfl, haG, hC.cls, hC.no _ (by simp), lookF.name, _, rfl, a, C, dx, _, _, rfl, haG, hC.cls, hC.no _ (by simp), lookF.root_parameters, _, rfl, a, C, dx, _, _, rfl, haG, hC.cls, hC.no _ (by simp), lookF.kept, _, rfl, a, C, dx, _, _, rfl, haG, hC.cls, hC.no _ (by simp), lookF.root_hook, _, rfl, fun x dx' nx ndx nex => ?_⟩
        have nx2 : upd G1 dx' (.own x) x = none := by rw [upd_ne (Ne.symm nex)]; exact nx
        have s3 : Same G1 (upd (upd G1 dx' (.own x)) x (.ins C dx' [])) := (same_upd ndx).trans (same_upd nx2)
        have nxH : H x = none := s2.free nx
        refine ⟨true, x, dx', pa, pk, q, withM L z m, kts, ts, rfl, upd_same, SqT.same (s2.trans s3) R.ps, SqT.same (s2.trans s3) tpk, hPk.same (s2.trans s3), s3 _ _ hq2, hO2.same s3, by rw [with_signs]; exact hF.nd,
          hF.sn, hF.sp, hF.sk, hF.sh, hF.lp, hF.lk, by rw [hlen]; exact hF.lo, ?_, fun H' kp lib => ⟨rfl, ko e1 x H' (same_keep (s2.trans s3) nxH kp) nxH lib⟩⟩
        intro o ho
        obtain ⟨o', ho', rfl⟩ := List.mem_map.mp ho
        obtain ⟨q1, q2, q3, q4⟩ := hF.so o' ho'
        by_cases e : o'.sign = z
        · rw [if_pos e]
          exact ⟨q1, sm, q3, q4⟩
        · rw [if_neg e]
          exact ⟨q1, q2, q3, q4⟩
end
end K04

namespace K04
open PySem PySem.Spec PyProof.Rows L2 EV TL LM
/-- the j-th key of a dict that has those keys -/
theorem val_at : ∀ {kvs : List (Key × V)} {ss : List Str}, kvs.map (·.1) = ss.map Sum.inr → ss.Nodup → ∀ {j : Nat} {z : Str}, ss[j]? = some z → ∃ p, kvs[j]? = some p ∧ valV kvs (.inr z) = some p.2
  | [], [], _, _, j, z, h => by simp at h
  | [], _ :: _, e, _, _, _, _ => by cases e
  | _ :: _, [], e, _, _, _, _ => by cases e
  | (k, v) :: r, s :: ss, e, nd, j, z, h => by
    rw [List.map_cons, List.map_cons, List.cons.injEq] at e
    obtain ⟨e1, e2⟩ := e
    obtain rfl : k = Sum.inr s := e1
    obtain ⟨n1, n2⟩ := List.nodup_cons.mp nd
    cases j with
    | zero =>
      obtain rfl : s = z := by simpa using h
      refine ⟨_, rfl, ?_⟩
      unfold valV
      rw [List.find?_cons_of_pos (by exact decide_eq_true rfl)]
      rfl
    | succ j =>
      have h' : ss[j]? = some z := h
      obtain ⟨p, hp, hv⟩ := val_at e2 n2 h'
      refine ⟨p, hp, ?_⟩
      have ne : s ≠ z := fun q => n1 (q ▸ List.mem_of_getElem? h')
      unfold valV at hv ⊢
      rw [List.find?_cons_of_neg (by simp [ne])]
      exact hv
theorem sign_at {L : Lib} {j : Nat} {o : Op} (h : L.ops[j]? = some o) : (L.ops.map fun x : Op => x.sign)[j]? = some o.sign := by rw [List.getElem?_map, h]; rfl
theorem sign_in {L : Lib} {j : Nat} {o : Op} (h : L.ops[j]? = some o) : (L.ops.map fun x : Op => x.sign).contains o.sign = true := List.contains_iff_mem.mpr (List.mem_of_getElem? (sign_at h))
/-- what isinstance asks of the class -/
structure IsiL (K : Fg) (C : Addr) : Prop where
  ha : PySem.W.findIn K (.ref C) "__class__" = some (some (.builtin "object.__class__"))
  hn : PySem.W.specialIn K (.builtin "object.__class__") "__get__" = some (some (.builtin "getset_descriptor.__get__"))
  ht : PySem.W.takesIn K (.builtin "object.__class__") = some true
  hm : PySem.W.mroIn K C (.type "object") = some true
  no : PySem.W.kitOne K (.type "tuple") (.ref C) = some false
theorem kit_self {K : Fg} {C : Addr} : PySem.W.kitOne K (.ref C) (.ref C) = some true := by
  unfold PySem.W.kitOne
  rw [if_pos (beq_self_eq_true _)]
theorem IsiL.tyx {K : Fg} {C a dx : Addr} {H : Hp} {fs : List (Str × V)} (i : IsiL K C) (c : Cls K C) (e : H a = some (.ins C dx fs)) : TyX K H (.ref a) (.ref C) := .base (.ins e c i.ha i.hn i.ht i.hm)
section
variable {P : Program} {w : World} {K : Fg} {mg : Str → Option Value} {base : Heap}
/-- a known sign passes -/
def spCheck (K : Fg) (C : Addr) : Sp := fun vs H Q _ => ∃ (a : Addr) (L : Lib) (s : Str), vs = [.ref a, .str s] ∧ LibAt K H C a L ∧ (L.ops.map (·.sign)).contains s = true ∧ Q .non H
theorem ok_check {f C : Addr} {fd : FuncData} (F : Fun K "_check" "Library._check" s_Library__check f fd) (T : Cst K mg) (O_contains : OkM CX0 P w K mg base 1 C "__contains__" ["self", "x"] (spHas K C)) :
    FnOk P w K mg base CX0 2 f fd ["self", "sign"] (spCheck K C) := by
  refine F.ok sc_Library__check (fun vs H Q E h => ?_) (fun cdv A outer s H vs Q E hr h => ?_)
  · obtain ⟨a, L, z, rfl, _⟩ := h
    rfl
  · obtain ⟨a, L, z, rfl, hL, hm, q⟩ := h
    refine ⟨_, (pss_one (ps_if (pt_cmpR (op_notInO O_contains (hr.mono (by decide))) (pv 1) (pv 0) (by rfl)) (pss_one ps_never) pss_nil)), ?_⟩
    have hL' := hL
    obtain ⟨dx, pa, pk, po, psg, pc, pm, ha, R⟩ := hL'
    refine ⟨_, rfl, _, rfl, a, dx, _, rfl, ha, a, L, z, rfl, hL, true, by rw [hm], _, rfl, iteF q⟩
def spArityM (K : Fg) (C : Addr) : Sp := fun vs H Q _ => ∃ (a : Addr) (L : Lib) (s : Str), vs = [.ref a, .str s] ∧ LibAt K H C a L ∧ (L.ops.map (·.sign)).contains s = true ∧ Q (.int (arity s : Nat)) H
theorem ok_arity {f C : Addr} {fd : FuncData} (F : Fun K "arity" "Library.arity" s_Library_arity f fd) (T : Cst K mg) (hC : LibC K C) (O_check : OkM CX0 P w K mg base 2 C "_check" ["self", "sign"] (spCheck K C))
    (O_arity_of : Ok P w K mg base 1 "arity_of" ["sign"] spArity) : FnOk P w K mg base CX0 3 f fd ["self", "sign"] (spArityM K C) := by
  refine F.ok sc_Library_arity (fun vs H Q E h => ?_) (fun cdv A outer s H vs Q E hr h => ?_)
  · obtain ⟨a, L, z, rfl, _⟩ := h
    rfl
  · obtain ⟨a, L, z, rfl, hL, hm, q⟩ := h
    refine ⟨_, (pss_cons (ps_expr (pe_methO (pv 0) hC.cls O_check (hr.mono (by decide)) (pa_cons (pv 1) pa_nil))) (pss_one (ps_ret (pe_callO O_arity_of (hr.mono (by decide)) (pa_cons (pv 1) pa_nil))))), ?_⟩
    have hL' := hL
    obtain ⟨dx, pa, pk, po, psg, pc, pm, ha, R⟩ := hL'
    refine ⟨_, rfl, a, dx, _, rfl, ha, lookF_no (by decide +kernel), _, rfl, a, L, z, rfl, hL, hm, _, rfl, z, rfl, q⟩

def spChanged (K : Fg) (C : Addr) : Sp := fun vs H Q _ => ∃ (a : Addr) (L : Lib) (j : Nat) (o : Op), vs = [.ref a, .str o.sign] ∧ LibAt K H C a L ∧ (L.ops.map (·.sign)).Nodup ∧ L.ops[j]? = some o ∧ ∀ c, H c = some (.tup (o.changed.map V.str)) → Q (.ref c) H
theorem ok_changed {f C : Addr} {fd : FuncData} (F : Fun K "changed" "Library.changed" s_Library_changed f fd) (T : Cst K mg) (hC : LibC K C) (O_check : OkM CX0 P w K mg base 2 C "_check" ["self", "sign"] (spCheck K C)) :
    FnOk P w K mg base CX0 3 f fd ["self", "sign"] (spChanged K C) := by
  refine F.ok sc_Library_changed (fun vs H Q E h => ?_) (fun cdv A outer s H vs Q E hr h => ?_)
  · obtain ⟨a, L, j, o, rfl, _⟩ := h
    rfl
  · obtain ⟨a, L, j, o, rfl, hL, nd, hj, q⟩ := h
    refine ⟨_, (pss_cons (ps_expr (pe_methO (pv 0) hC.cls O_check (hr.mono (by decide)) (pa_cons (pv 1) pa_nil))) (pss_one (ps_ret (pe_dget (Nat.lt_of_le_of_lt (Nat.add_le_add_left (by decide : 1 ≤ 65) _) (units65 hr)) (pe_fld (pv 0) rfl) (pv 1) (fun _ _ => rfl))))), ?_⟩
    obtain ⟨dx, pa, pk, po, psg, pc, pm, ha, R⟩ := id hL
    obtain ⟨kvs, hd, hk, hv⟩ := R.chg
    obtain ⟨p, hp, e⟩ := val_at hk nd (sign_at hj)
    obtain ⟨o', c, ho', e2, hc⟩ := hv j p hp
    rw [hj] at ho'
    cases ho'
    rw [e2] at e
    refine ⟨_, rfl, a, dx, _, rfl, ha, lookF_no (by decide +kernel), _, rfl, a, L, o.sign, rfl, hL, sign_in hj, _, rfl, a, C, dx, _, _, rfl, ha, hC.cls, hC.no _ (by simp), lookF.changed, _, rfl, pc, .ref c, rfl, ?_, q c hc⟩
    rw [← e]
    exact .k (k := .inr o.sign) hd
def spMakerOf (K : Fg) (C : Addr) : Sp := fun vs H Q _ => ∃ (a : Addr) (L : Lib) (j : Nat) (o : Op), vs = [.ref a, .str o.sign] ∧ LibAt K H C a L ∧ (L.ops.map (·.sign)).Nodup ∧ L.ops[j]? = some o ∧ Q (.str o.maker) H
theorem ok_maker_of {f C : Addr} {fd : FuncData} (F : Fun K "maker_of" "Library.maker_of" s_Library_maker_of f fd) (T : Cst K mg) (hC : LibC K C) (O_check : OkM CX0 P w K mg base 2 C "_check" ["self", "sign"] (spCheck K C)) :
    FnOk P w K mg base CX0 3 f fd ["self", "sign"] (spMakerOf K C) := by
  refine F.ok sc_Library_maker_of (fun vs H Q E h => ?_) (fun cdv A outer s H vs Q E hr h => ?_)
  · obtain ⟨a, L, j, o, rfl, _⟩ := h
    rfl
  · obtain ⟨a, L, j, o, rfl, hL, nd, hj, q⟩ := h
    refine ⟨_, (pss_cons (ps_expr (pe_methO (pv 0) hC.cls O_check (hr.mono (by decide)) (pa_cons (pv 1) pa_nil))) (pss_one (ps_ret (pe_dget (Nat.lt_of_le_of_lt (Nat.add_le_add_left (by decide : 1 ≤ 65) _) (units65 hr)) (pe_fld (pv 0) rfl) (pv 1) (fun _ _ => rfl))))), ?_⟩
    obtain ⟨dx, pa, pk, po, psg, pc, pm, ha, R⟩ := id hL
    obtain ⟨kvs, hd, hk, hv⟩ := R.mkr
    obtain ⟨p, hp, e⟩ := val_at hk nd (sign_at hj)
    obtain ⟨o', ho', e2⟩ := hv j p hp
    rw [hj] at ho'
    cases ho'
    rw [e2] at e
    refine ⟨_, rfl, a, dx, _, rfl, ha, lookF_no (by decide +kernel), _, rfl, a, L, o.sign, rfl, hL, sign_in hj, _, rfl, a, C, dx, _, _, rfl, ha, hC.cls, hC.no _ (by simp), lookF.maker, _, rfl, pm, .str o.maker, rfl, ?_, q⟩
    rw [← e]
    exact .k (k := .inr o.sign) hd
def spSigns (K : Fg) (C : Addr) : Sp := fun vs H Q _ => ∃ (a : Addr) (L : Lib), vs = [.ref a] ∧ LibAt K H C a L ∧ ∀ l H', Same H H' → H l = none → StrsAt H' l (L.ops.map (·.sign)) → Q (.ref l) H'
theorem ok_signs {f C : Addr} {fd : FuncData} (F : Fun K "signs" "Library.signs" s_Library_signs f fd) (T : Cst K mg) (hC : LibC K C) : FnOk P w K mg base CX0 1 f fd ["self"] (spSigns K C) := by
  refine F.ok sc_Library_signs (fun vs H Q E h => ?_) (fun cdv A outer s H vs Q E hr h => ?_)
  · obtain ⟨a, L, rfl, _⟩ := h
    rfl
  · obtain ⟨a, L, rfl, ⟨dx, pa, pk, po, psg, pc, pm, ha, R⟩, k⟩ := h
    refine ⟨_, (pss_one (ps_ret (pe_callTy call_list_of (by rfl) T.n_list (by decide +kernel) (pa_cons (pe_fld (pv 0) rfl) pa_nil)))), ?_⟩
    exact ⟨_, rfl, a, C, dx, _, _, rfl, ha, hC.cls, hC.no _ (by simp), lookF.signs, psg, _, rfl, .inr R.signs, fun l nl => k l _ (same_upd nl) nl upd_same⟩
def spStr (K : Fg) (C : Addr) : Sp := fun vs H Q _ => ∃ (a : Addr) (L : Lib), vs = [.ref a] ∧ LibAt K H C a L ∧ Q (.str (textM L)) H
theorem ok_str {f C : Addr} {fd : FuncData} (F : Fun K "__str__" "Library.__str__" s_Library___str__ f fd) (T : Cst K mg) (hC : LibC K C) : FnOk P w K mg base CX0 1 f fd ["self"] (spStr K C) := by
  refine F.ok sc_Library___str__ (fun vs H Q E h => ?_) (fun cdv A outer s H vs Q E hr h => ?_)
  · obtain ⟨a, L, rfl, _⟩ := h
    rfl
  · obtain ⟨a, L, rfl, ⟨dx, pa, pk, po, psg, pc, pm, ha, R⟩, k⟩ := h
    refine ⟨_, (pss_one (ps_ret (pe_callTy SkE.call_str_str (by rfl) T.n_str (by decide +kernel) (pa_cons (pe_fld (pv 0) rfl) pa_nil)))), ?_⟩
    exact ⟨_, rfl, a, C, dx, _, _, rfl, ha, hC.cls, hC.no _ (by simp), lookF.text, _, rfl, k⟩
def spEq (K : Fg) (C : Addr) : Sp := fun vs H Q _ => ∃ (a b : Addr) (L M : Lib), vs = [.ref a, .ref b] ∧ LibAt K H C a L ∧ LibAt K H C b M ∧ Q (.bl (textM L == textM M)) H
theorem ok_eq {f C : Addr} {fd : FuncData} (F : Fun K "__eq__" "Library.__eq__" s_Library___eq__ f fd) (T : Cst K mg) (hC : LibC K C) (iL : IsiL K C) (gL : mg "Library" = some (.ref C)) : FnOk P w K mg base CX0 1 f fd ["self", "other"] (spEq K C) := by
  refine F.ok sc_Library___eq__ (fun vs H Q E h => ?_) (fun cdv A outer s H vs Q E hr h => ?_)
  · obtain ⟨a, b, L, M, rfl, _⟩ := h
    rfl
  · obtain ⟨a, b, L, M, rfl, ⟨dx, pa, pk, po, psg, pc, pm, ha, R⟩, ⟨dx', pa', pk', po', psg', pc', pm', hb, R'⟩, k⟩ := h
    refine ⟨_, (pss_one (ps_ret (pe_and (pe_callB call_isi (by rfl) T.n_isinstance (by decide +kernel) (pa_cons (pv 1) (pa_cons (pe_glob (v := .ref C) rfl gL rfl) pa_nil))) (pe_one (pe_cmpR op_eq (pe_fld (pv 0) rfl) (pe_fld (pv 1) rfl) (nomark _)))))), ?_⟩
    refine ⟨_, rfl, _, _, _, _, true, rfl, .own C, iL.tyx hC.cls hb, kit_self, _, rfl, iteT ⟨_, rfl, a, C, dx, _, _, rfl, ha, hC.cls, hC.no _ (by simp), lookF.text, _, rfl, b, C, dx', _, _, rfl, hb, hC.cls, hC.no _ (by simp), lookF.text, rfl, ?_⟩⟩
    rw [eq_str]
    exact k
end
end K04

namespace K04
open PySem PySem.Spec PyProof.Rows L2 EV TL LM
section
variable {X : Cx}
/-- isinstance of the own error that an except suite holds -/
def rIsS (K : Fg) (a C : Addr) (cls : Value) (d : Option Addr) : List V → Hp → VK → Prop := fun xs H Q => ∃ (c : V) (u : Value) (b : Bool) (dd : Addr) (fs : List (Str × V)), xs = [.ref a, c] ∧ ClsV c u ∧ cls = .ref C ∧ d = some dd ∧ H dd = some (.xd fs) ∧
  PySem.W.kitOne K (.ref C) u = some b ∧ Q (.bl b) H
theorem call_isS {C a : Addr} {oe : Obj} {cls : Value} {d : Option Addr} {pn : List (Addr × Obj)} (T : XCls X.K C) (hz : Zc cls d oe) (hf : ∃ vs, oe.data = .fields vs) : CallR (X.suite a ((a, oe) :: pn)) (.builtin "isinstance") (rIsS X.K a C cls d) := by
  intro pins s σ H xs us Q I r h
  obtain ⟨c, u, b, dd, fs, rfl, hc, rfl, rfl, ea, ek, q⟩ := h
  obtain ⟨u1, u2, rfl, r1, r2⟩ := vals2 r
  obtain rfl : u1 = Value.ref a := r1
  have e2 := hc.eq r2
  subst e2
  have ha := (I.pin (a, oe) (List.mem_append_left _ List.mem_cons_self)).1
  obtain ⟨vs, hd⟩ := hf
  obtain ⟨mA, hns, hr⟩ := (I.hok dd _ ea : ObjOk X.prog X.w H s.heap dd (.xd fs))
  obtain ⟨od, ho, hl⟩ := lookIn_ns hns
  have J : PySem.W.InstAt s.heap a oe C (some od) := ⟨ha, hz.1, by unfold PySem.W.notCls; rw [hd] <;> rfl, by rw [hz.2]; exact ho⟩
  exact PySem.W.kia_one (PySem.W.kitx_exc (by obtain ⟨cd, hc, _⟩ := PySem.W.any_some T.ex.hd; rw [hc]; rfl) T.ex.hg T.ex.hk T.ex.hs T.ex.ha T.ex.hn T.ex.ht T.ex.hm) I.kIn J ek (fun z => nomatch z)
    fun tk => ⟨.bl b, H, I.kept (t' := tk) fun _ _ z => z, rfl, q⟩
end
/-- what the law tells of an error -/
def TellAt (H : Hp) (t : Addr) (w : Str) (o : Od) : Prop := ∃ y, H t = some (.tup [.str w, y, .bl true, .bl false]) ∧ OdAt H y o
/-- what the law asks of an error's class -/
structure ErrC (K : Fg) (CH C : Addr) : Prop where
  h : PySem.W.kitOne K (.ref C) (.ref CH) = some true
  l : PySem.W.kitOne K (.ref C) (.type "LookupError") = some false
theorem sc_law_exchangedE : FnScope ["made", "sign", "maker", "told", "e"] ["made", "sign", "maker"] (defScope s_law_exchanged) := ⟨rfl, rfl, rfl, by decide +kernel, rfl, by decide +kernel, by decide +kernel⟩
section
variable {P : Program} {w : World} {K : Fg} {mg : Str → Option Value} {base : Heap}
/-- what the text says of the error's class where it is caught -/
structure CatchC (K : Fg) (mg : Str → Option Value) (x : Str) (C : Addr) : Prop where
  nm : mg x = some (.ref C)
  te : PySem.W.exmOne K (.ref C) (.ref C) = some true
/-- what an exchange gives -/
def ToldAt (K : Fg) (C : Addr) (L : Lib) (os om : Od) (v : V) (G : Hp) : Prop :=
  (inO (L.ops.map (·.sign)) os = false ∧ ∃ t, v = .ref t ∧ TellAt G t "sign" os) ∨
  ∃ z, os = .s z ∧ (L.ops.map (·.sign)).contains z = true ∧ ((inO (allowed (arity z) L.hook.isSome) om = false ∧ ∃ t, v = .ref t ∧ TellAt G t "maker" om) ∨
    ∃ m a', om = .s m ∧ (allowed (arity z) L.hook.isSome).contains m = true ∧ v = .ref a' ∧ LibAt K G C a' (withM L z m))
def spExch (K : Fg) (C : Addr) : Sp := fun vs H Q E => ∃ (a : Addr) (L : Lib) (v u : V) (os om : Od), vs = [.ref a, v, u] ∧ LibAt K H C a L ∧ LibFine L ∧ OkL L ∧ OdAt H v os ∧ os.ok ∧ OdAt H u om ∧ om.ok ∧ (∀ m, om = .s m → Short m) ∧
  ∀ x G, Same H G → ToldAt K C L os om x G → Q x G
theorem ok_law_exchanged {f C CN CB CH : Addr} {fd : FuncData} (F : Fun K "_law_exchanged" "_law_exchanged" s_law_exchanged f fd) (T : Cst K mg) (hC : LibC K C) (cN : CatchC K mg "NoSign" CN) (cB : CatchC K mg "BadMaker" CB) (xN : XCls K CN) (xB : XCls K CB)
    (nN : NoAttr K CN "sign") (nB : NoAttr K CB "maker") (gH : mg "HeirsbackError" = some (.ref CH)) (eN : ErrC K CH CN) (eB : ErrC K CH CB) (eNB : PySem.W.exmOne K (.ref CB) (.ref CN) = some false)
    (O_with : OkM (L2.CX P w) P w K mg base 7 C "with_maker" ["self", "sign", "maker"] (spWithX K C CN CB)) : FnOk P w K mg base CX0 8 f fd ["made", "sign", "maker"] (spExch K C) := by
  refine F.ok sc_law_exchangedE (fun vs H Q E h => ?_) (fun cdv A outer s H vs Q E hr h => ?_)
  · obtain ⟨a, L, v, u, os, om, rfl, _⟩ := h
    rfl
  · obtain ⟨a, L, v, u, os, om, rfl, hL, hF, okL, h1o, ok1, h2o, ok2, sm, k⟩ := h
    refine ⟨_, (pss_cons (ps_try_asMany rfl rfl sc_law_exchangedE.nd takes0
      (fun W pn xe tk _ => pss_one (ps_ret (pe_methX tk (pv 0) hC.cls O_with (hr.mono (by decide)) (pa_cons (pv 1) (pa_cons (pv 2) pa_nil)))))
      (.cons (i := 4) rfl rfl ⟨rfl, by decide, .inl cN.nm⟩ (fun a oe cls d pn hz hv => pss_one (ps_set (i := 3) sc_law_exchangedE.nd rfl (Or.inl rfl) (pe_tup (pa_cons pe_str (pa_cons (pe_byX xN nN hz hv (pv 4)) (pa_cons (pe_callB (call_isS xN hz hv) (by rfl) T.n_isinstance (by decide +kernel) (pa_cons (pv 4) (pa_cons (pe_glob (v := .ref CH) rfl gH rfl) pa_nil))) (pa_cons (pe_callB (call_isS xN hz hv) (by rfl) T.n_isinstance (by decide +kernel) (pa_cons (pv 4) (pa_cons (pe_bltn (v := .ty "LookupError") rfl T.n_LookupError (by decide +kernel) rfl) pa_nil))) pa_nil))))))) (.cons (i := 4) rfl rfl ⟨rfl, by decide, .inl cB.nm⟩ (fun a oe cls d pn hz hv => pss_one (ps_set (i := 3) sc_law_exchangedE.nd rfl (Or.inl rfl) (pe_tup (pa_cons pe_str (pa_cons (pe_byX xB nB hz hv (pv 4)) (pa_cons (pe_callB (call_isS xB hz hv) (by rfl) T.n_isinstance (by decide +kernel) (pa_cons (pv 4) (pa_cons (pe_glob (v := .ref CH) rfl gH rfl) pa_nil))) (pa_cons (pe_callB (call_isS xB hz hv) (by rfl) T.n_isinstance (by decide +kernel) (pa_cons (pv 4) (pa_cons (pe_bltn (v := .ty "LookupError") rfl T.n_LookupError (by decide +kernel) rfl) pa_nil))) pa_nil))))))) .nil))) (pss_one (ps_ret (pv 3)))), ?_⟩
    obtain ⟨dx, pa, pk, po, psg, pc, pm, ha, R⟩ := id hL
    refine ⟨_, rfl, a, dx, _, rfl, ha, lookF_no (by decide +kernel), _, rfl, _, rfl, a, L, v, u, os, om, rfl, hL, hF, okL, h1o, ok1, h2o, ok2, sm, fun e d y H' s1 hd ho => ?_, fun z ez hz => ⟨fun e d y H' s1 hd ho => ?_, fun m em hm a' H' s1 na lib => k _ _ s1 (.inr ⟨z, ez, hz, .inr ⟨m, a', em, hm, rfl, lib⟩⟩)⟩⟩
    · refine ⟨true, cN.te, fun _ a9 na => ?_, fun q => by cases q⟩
      refine ⟨_, rfl, rfl, rfl, d, _, y, rfl, hd, by simp [List.lookup], ?_⟩
      refine ⟨_, rfl, _, _, true, d, _, rfl, .own CH, rfl, rfl, hd, eN.h, ?_⟩
      refine ⟨_, rfl, _, _, false, d, _, rfl, .ty "LookupError", rfl, rfl, hd, eN.l, ?_⟩
      refine ⟨by show 4 ≤ sizeLine; decide, fun t nt => ?_⟩
      exact ⟨_, rfl, k _ _ (s1.trans (same_upd nt)) (.inl ⟨e, t, rfl, y, upd_same, ho.same (same_upd nt)⟩)⟩
    · refine ⟨false, eNB, (fun q => by cases q), fun _ => ⟨true, cB.te, fun _ a9 na => ?_, fun q => by cases q⟩⟩
      refine ⟨_, rfl, rfl, rfl, d, _, y, rfl, hd, by simp [List.lookup], ?_⟩
      refine ⟨_, rfl, _, _, true, d, _, rfl, .own CH, rfl, rfl, hd, eB.h, ?_⟩
      refine ⟨_, rfl, _, _, false, d, _, rfl, .ty "LookupError", rfl, rfl, hd, eB.l, ?_⟩
      refine ⟨by show 4 ≤ sizeLine; decide, fun t nt => ?_⟩
      exact ⟨_, rfl, k _ _ (s1.trans (same_upd nt)) (.inr ⟨z, ez, hz, .inl ⟨e, t, rfl, y, upd_same, ho.same (same_upd nt)⟩⟩)⟩
end
end K04

namespace K04
open PySem PySem.Spec PyProof.Rows L2 EV TL LM
theorem ne_same {K : Fg} {H : Hp} {x y : V} {d : PyData} {Q : VK} (h1 : Dp K H x d) (h2 : Dp K H y d) (s : SeqAt.shaped d = true) (q : Q (.bl false) H) : rNeD K x y H Q := by
  refine ⟨d, d, h1, h2, s, s, ?_⟩
  rw [SeqAt.eqv_refl d (SeqAt.canLay_of_shaped s)]
  exact q
def pairD (p : Str × Str) : PyData := .tuple [.str p.1, .str p.2]
theorem dp_pairs {K : Fg} {H : Hp} : ∀ {ts : List V} {ks : List (Str × Str)}, PairsAt H ts ks → DpAll K H ts (ks.map pairD)
  | [], [], _ => .nil
  | _ :: _, [], h => by cases h.len
  | [], _ :: _, h => by cases h.len
  | t :: ts, k :: ks, h => by
    obtain ⟨a, e, ha⟩ := h.pair 0 k rfl
    obtain rfl : t = .ref a := by simpa using e
    refine .cons (.tup (SqT.of ha) (.cons (.str _) (.cons (.str _) .nil))) (dp_pairs ⟨by have := h.len; simpa using this, fun i q e => ?_⟩)
    exact h.pair (i + 1) q e
/-- all but lists is as it was -/
def KeepN (H H' : Hp) : Prop := ∀ b o, H b = some o → (∀ xs, o ≠ .lst xs) → H' b = some o
theorem KeepN.of {H H' : Hp} (s : Same H H') : KeepN H H' := fun b o z _ => s b o z
theorem KeepN.trans {H H1 H2 : Hp} (x : KeepN H H1) (y : KeepN H1 H2) : KeepN H H2 := fun b o z n => y b o (x b o z n) n
theorem KeepN.put {H : Hp} {a : Addr} {xs : List V} {o : HO} (h : H a = some (.lst xs)) : KeepN H (upd H a o) := fun b u z n => by
  rw [upd_ne (fun e => by rw [e, h] at z; injection z with z; exact n xs z.symm)]
  exact z
theorem KeepN.keep {H H' : Hp} {a : Addr} {xs : List V} (h : H a = some (.lst xs)) (k : Keep a H H') : KeepN H H' := fun b u z n =>
  k b u (fun e => by rw [e, h] at z; injection z with z; exact n xs z.symm) z
theorem SqT.keepN {K : Fg} {H H' : Hp} {p : Addr} {xs : List V} (k : KeepN H H') : SqT K H p xs → SqT K H' p xs
  | .inl (.inl e) => .inl (.inl (k _ _ e (fun _ z => nomatch z)))
  | .inl (.inr ⟨b, e⟩) => .inl (.inr ⟨b, k _ _ e (fun _ z => nomatch z)⟩)
  | .inr q => .inr q
theorem LibAt.keepN {K : Fg} {H H' : Hp} {C a : Addr} {L : Lib} (k : KeepN H H') : LibAt K H C a L → LibAt K H' C a L := fun ⟨dx, pa, pk, po, psg, pc, pm, ha, R⟩ => by
  have tup : ∀ t xs, H t = some (.tup xs) → H' t = some (.tup xs) := fun t xs e => k _ _ e fun _ z => nomatch z
  obtain ⟨ts, t1, t2⟩ := R.kept
  obtain ⟨us, u1, u2⟩ := R.ops
  obtain ⟨kv, c1, c2, c3⟩ := R.chg
  obtain ⟨km, m1, m2, m3⟩ := R.mkr
  exact ⟨dx, pa, pk, po, psg, pc, pm, k _ _ ha (fun _ z => nomatch z), SqT.keepN k R.ps, ⟨ts, SqT.keepN k t1, t2.tups tup⟩, ⟨us, SqT.keepN k u1, u2.tups tup⟩, SqT.keepN k R.signs,
    ⟨kv, k _ _ c1 (fun _ z => nomatch z), c2, fun j p e => let ⟨o, c, z1, z2, z3⟩ := c3 j p e; ⟨o, c, z1, z2, tup _ _ z3⟩⟩, ⟨km, k _ _ m1 (fun _ z => nomatch z), m2, m3⟩⟩
theorem LibAt.same {K : Fg} {H H' : Hp} {C a : Addr} {L : Lib} (s : Same H H') (h : LibAt K H C a L) : LibAt K H' C a L := LibAt.keepN (.of s) h
structure LawW (L : Lib) : Prop where
  ps : OkW L.ps
  kept : ∀ p ∈ L.kept, PyData.strOk p.1 = true ∧ PyData.strOk p.2 = true
  chg : ∀ o ∈ L.ops, OkW o.changed
theorem lay_pairs : ∀ ks : List (Str × Str), (∀ p ∈ ks, PyData.strOk p.1 = true ∧ PyData.strOk p.2 = true) → PyData.canLayAll0 (ks.map pairD) = true ∧ PyData.depthAll (ks.map pairD) ≤ 2
  | [], _ => ⟨rfl, by simp [PyData.depthAll]⟩
  | p :: r, h => by
    obtain ⟨h1, h2⟩ := lay_pairs r fun q hq => h q (List.mem_cons_of_mem _ hq)
    obtain ⟨a1, a2⟩ := h p List.mem_cons_self
    refine ⟨?_, ?_⟩
    · show ((PyData.strOk p.1 && (PyData.strOk p.2 && true)) && PyData.canLayAll0 (r.map pairD)) = true
      rw [a1, a2, h1]
      rfl
    · simp only [List.map_cons, PyData.depthAll, pairD, PyData.depth]
      omega
theorem pairs_shaped {ks : List (Str × Str)} (h : ∀ p ∈ ks, PyData.strOk p.1 = true ∧ PyData.strOk p.2 = true) : SeqAt.shaped (.tuple (ks.map pairD)) = true := by
  obtain ⟨h1, h2⟩ := lay_pairs ks h
  unfold SeqAt.shaped
  rw [show PyData.canLay0 (.tuple (ks.map pairD)) = true from h1, Bool.true_and]
  refine decide_eq_true ?_
  rw [PyData.depth]
  omega
theorem scal_hook (h : Option Str) : scal (hookV h) (hookV h) = true := by cases h <;> rfl
section
variable {P : Program} {w : World} {K : Fg} {mg : Str → Option Value} {base : Heap}
def spLawHas (K : Fg) (C : Addr) : Sp := fun vs H Q _ => ∃ (t a : Addr) (L : Lib), vs = [.ref t, .ref a] ∧ LibAt K H C t L ∧ LawLib H a L ∧ (L.ops.map (·.sign)).Nodup ∧ LawW L ∧ ∀ H', Same H H' → Q (.bl true) H'
theorem ok_law_has {f C : Addr} {fd : FuncData} (F : Fun K "_law_has" "_law_has" s_law_has f fd) (T : Cst K mg) (hC : LibC K C) (O_changed : OkM CX0 P w K mg base 3 C "changed" ["self", "sign"] (spChanged K C))
    (O_maker_of : OkM CX0 P w K mg base 3 C "maker_of" ["self", "sign"] (spMakerOf K C)) (O_arity : OkM CX0 P w K mg base 3 C "arity" ["self", "sign"] (spArityM K C)) : FnOk P w K mg base CX0 4 f fd ["told", "lib"] (spLawHas K C) := by
  refine F.ok sc_law_has (fun vs H Q E h => ?_) (fun cdv A outer s H vs Q E hr h => ?_)
  · obtain ⟨t, a, L, rfl, _⟩ := h
    rfl
  · obtain ⟨t, a, L, rfl, hL, ⟨pp, pk, pr, kts, rts, ha, hpp, hpk, hP, hpr, hR⟩, nd, W, k⟩ := h
    refine ⟨_, (pss_cons (ps_if (PW.pt (pw_or (pt_cmpR (op_neD hr.units) (pe_fld (pv 0) rfl) (pe_callTy call_tuple_of (by rfl) T.n_tuple (by decide +kernel) (pa_cons (pe_ix ix_list (pv 1) pe_int (fun _ _ => rfl)) pa_nil)) (nomark _)) (pw_or (pt_cmpR (op_neD hr.units) (pe_fld (pv 0) rfl) (pe_callTy call_tuple_of (by rfl) T.n_tuple (by decide +kernel) (pa_cons (pe_ix ix_list (pv 1) pe_int (fun _ _ => rfl)) pa_nil)) (nomark _)) (pw_or1 (pt_cmpR op_ne (pe_fld (pv 0) rfl) (pe_ix ix_list (pv 1) pe_int (fun _ _ => rfl)) (nomark _)))))) (pss_one (ps_ret pe_bl)) pss_nil)
    (pss_cons (ps_for PassesOwn.never rfl (pi_list (pe_ix ix_list (pv 1) pe_int (fun _ _ => rfl))) (pg_lst rfl (pgs_cons (pg_name (i := 2) sc_law_has.nd rfl (Or.inl rfl)) (pgs_cons (pg_name (i := 3) sc_law_has.nd rfl (Or.inl rfl)) (pgs_cons (pg_name (i := 4) sc_law_has.nd rfl (Or.inl rfl)) (pgs_cons (pg_name (i := 5) sc_law_has.nd rfl (Or.inl rfl)) pgs_nil))))) (pss_one (ps_if (PW.pt (pw_or (pt_cmpR (op_neD hr.units) (pe_methO (pv 0) hC.cls O_changed (hr.mono (by decide)) (pa_cons (pv 2) pa_nil)) (pe_callTy call_tuple_of (by rfl) T.n_tuple (by decide +kernel) (pa_cons (pv 3) pa_nil)) (nomark _)) (pw_or (pt_cmpR op_ne (pe_methO (pv 0) hC.cls O_maker_of (hr.mono (by decide)) (pa_cons (pv 2) pa_nil)) (pv 4) (nomark _)) (pw_or1 (pt_cmpR op_ne (pe_methO (pv 0) hC.cls O_arity (hr.mono (by decide)) (pa_cons (pv 2) pa_nil)) (pv 5) (nomark _)))))) (pss_one (ps_ret pe_bl)) pss_nil)))
    (pss_one (ps_ret pe_bl)))), ?_⟩
    have fields : ∀ {G : Hp}, Same H G → ∃ dx qa qk qo qs qc qm, G t = some (.ins C dx (libF L.name (textM L) L.hook qa qk qo qs qc qm)) ∧ LibRest K G L qa qk qo qs qc qm := fun s => LibAt.same s hL
    obtain ⟨dx, qa, qk, qo, qs, qc, qm, ht, R⟩ := id hL
    obtain ⟨kts2, htk, hP2⟩ := R.kept
    refine ⟨_, rfl, t, C, dx, _, _, rfl, ht, hC.cls, hC.no _ (by simp), lookF.root_parameters, _, rfl, a, _, ((1 : Nat) : Int), _, rfl, rfl, SqL.of ha, atI_nat (j := 1) rfl, pp, _, rfl, .inl ⟨SqL.of hpp, fun q1 n1 => ?_⟩⟩
    have s1 : Same H (upd H q1 (.tup (L.ps.map V.str))) := same_upd n1
    refine ne_same (.tup (SqT.same s1 R.ps) (dp_all _)) (.tup (SqT.of upd_same) (dp_all _)) (tup_shaped W.ps) ⟨_, rfl, iteF ?_⟩
    generalize upd H q1 (.tup (L.ps.map V.str)) = G1 at s1
    refine ⟨_, rfl, t, C, dx, _, _, rfl, s1 _ _ ht, hC.cls, hC.no _ (by simp), lookF.kept, _, rfl, a, _, ((2 : Nat) : Int), _, rfl, rfl, SqL.of (s1 _ _ ha), atI_nat (j := 2) rfl, pk, _, rfl, .inl ⟨SqL.of (s1 _ _ hpk), fun q2 n2 => ?_⟩⟩
    have s2 : Same H (upd G1 q2 (.tup kts)) := s1.trans (same_upd n2)
    refine ne_same (.tup (SqT.same s2 htk) (dp_pairs (hP2.same s2))) (.tup (SqT.of upd_same) (dp_pairs (hP.same s2))) (pairs_shaped W.kept) ⟨_, rfl, iteF ?_⟩
    generalize upd G1 q2 (.tup kts) = G2 at s2
    refine ⟨_, rfl, t, C, dx, _, _, rfl, s2 _ _ ht, hC.cls, hC.no _ (by simp), lookF.root_hook, _, rfl, a, _, ((3 : Nat) : Int), _, rfl, rfl, SqL.of (s2 _ _ ha), atI_nat (j := 3) rfl, scal_hook _, _, rfl, ?_⟩
    rw [decide_eq_true rfl]
    refine iteF ?_
    refine ⟨_, rfl, a, _, ((4 : Nat) : Int), _, rfl, rfl, SqL.of (s2 _ _ ha), atI_nat (j := 4) rfl, pr, rfl, ⟨_, SqL.of (s2 _ _ hpr)⟩, ?_⟩
    refine for_list (xs := rts) (fun i σ G => ∃ (u1 u2 u3 u4 : Option V), σ = [some (.ref t), some (.ref a), u1, u2, u3, u4] ∧ Same H G)
      ⟨none, none, none, none, rfl, s2⟩ (fun i σ G _ q => by
        obtain ⟨_, _, _, _, _, s⟩ := q
        exact SqL.of (s _ _ hpr)) ?_ ?_
    · rintro i x σ G hx ⟨u1, u2, u3, u4, rfl, sG⟩
      have hi : i < L.ops.length := by
        rw [← hR.len]
        exact (List.getElem?_eq_some_iff.mp hx).1
      have eo : L.ops[i]? = some L.ops[i] := List.getElem?_eq_getElem hi
      obtain ⟨tr, c, ht', hrow, hch⟩ := hR.row i _ eo
      rw [hx] at ht'
      cases ht'
      have hok := W.chg _ (List.getElem_mem hi)
      generalize L.ops[i] = o at hrow hch hok eo
      have hro := sG _ _ hrow
      have ht3 := sG _ _ ht
      have hL3 : LibAt K G C t L := LibAt.same sG hL
      refine ⟨tr, _, rfl, SqL.of hro, rfl, _, _, rfl, _, _, rfl, _, _, rfl, _, _, rfl, rfl, ?_⟩
      refine ⟨_, rfl, t, dx, _, rfl, ht3, lookF_no (by decide +kernel), _, rfl, t, L, i, o, rfl, hL3, nd, eo, fun cc hcc => ?_⟩
      refine ⟨_, rfl, c, _, rfl, .inl ⟨SqL.of (sG _ _ hch), fun q3 n3 => ?_⟩⟩
      have s3 : Same G (upd G q3 (.tup (o.changed.map V.str))) := same_upd n3
      refine ne_same (.tup (SqT.of (s3 _ _ hcc)) (dp_all _)) (.tup (SqT.of upd_same) (dp_all _)) (tup_shaped hok) ⟨_, rfl, iteF ?_⟩
      generalize upd G q3 (.tup (o.changed.map V.str)) = G3 at s3
      have hL4 : LibAt K G3 C t L := LibAt.same s3 hL3
      have ht4 := s3 _ _ ht3
      refine ⟨_, rfl, t, dx, _, rfl, ht4, lookF_no (by decide +kernel), _, rfl, t, L, i, o, rfl, hL4, nd, eo, _, rfl, rfl, _, rfl, ?_⟩
      rw [decide_eq_true rfl]
      refine iteF ⟨_, rfl, t, dx, _, rfl, ht4, lookF_no (by decide +kernel), _, rfl, t, L, o.sign, rfl, hL4, sign_in eo, _, rfl, rfl, _, rfl, ?_⟩
      rw [decide_eq_true rfl]
      exact iteF ⟨_, _, _, _, rfl, sG.trans s3⟩
    · rintro σ G ⟨u1, u2, u3, u4, rfl, sG⟩
      exact k G sG
end
end K04

namespace K04
open PySem PySem.Spec PyProof.Rows L2 EV TL LM
theorem drop_last_cat {α : Type} {fs rest : List α} {x : α} (h : fs = rest ++ [x]) : fs.dropLast = rest ∧ fs[fs.length - 1]? = some x := by
  subst h
  refine ⟨List.dropLast_concat, ?_⟩
  rw [List.length_append]
  show (rest ++ [x])[rest.length + 1 - 1]? = _
  rw [Nat.add_sub_cancel, List.getElem?_append_right (Nat.le_refl _), Nat.sub_self]
  rfl
theorem snoc_of {α : Type} {fs : List α} (h : fs ≠ []) : ∃ rest x, fs = rest ++ [x] := ⟨fs.dropLast, fs.getLast h, (List.dropLast_concat_getLast h).symm⟩
/-- all but what stands at b and l is as it was -/
def Keep2 (b l : Addr) (H H' : Hp) : Prop := ∀ a o, a ≠ b → a ≠ l → H a = some o → H' a = some o
theorem Keep2.refl {b l : Addr} (H : Hp) : Keep2 b l H H := fun _ _ _ _ z => z
theorem Keep2.trans {b l : Addr} {H H1 H2 : Hp} (x : Keep2 b l H H1) (y : Keep2 b l H1 H2) : Keep2 b l H H2 := fun a o n m z => y a o n m (x a o n m z)
theorem Keep2.of {b l : Addr} {H H' : Hp} (s : Same H H') : Keep2 b l H H' := fun a o _ _ z => s a o z
theorem Keep2.one {b l : Addr} {H H' : Hp} (s : Keep b H H') : Keep2 b l H H' := fun a o n _ z => s a o n z
theorem Keep2.updl {b l : Addr} {H : Hp} {o : HO} : Keep2 b l H (upd H l o) := fun a u _ m z => by
  rw [upd_ne m]
  exact z
theorem Keep2.new {b l p : Addr} {H G : Hp} {o : HO} (k : Keep2 b l H G) (n : H p = none) : Keep2 b l H (upd G p o) := fun a u na nl z => by
  rw [upd_ne (ne_of_none z n)]
  exact k a u na nl z
/-- the third word asked -/
def askOf (p : Str) : Str := cutS (p ++ ("q" : Str)) (some (-8)) none
theorem ask_tl (p : Str) : ∃ r, tl (askOf p) = r ++ [113] ∧ r.length ≤ 7 ∧ ∀ c ∈ r, c ∈ tl p := by
  have hq : tl ("q" : Str) = [113] := by decide +kernel
  have e : tl (askOf p) = (tl p ++ [113]).drop ((tl p).length + 1 - 8) := by
    show ((tl (p ++ ("q" : Str))).drop (HT.sIx (p ++ ("q" : Str)).length 0 (some (-8)))).take (HT.sIx (p ++ ("q" : Str)).length (p ++ ("q" : Str)).length none - HT.sIx (p ++ ("q" : Str)).length 0 (some (-8))) = _
    have hl : (p ++ ("q" : Str)).length = (tl p).length + 1 := by rw [len_tl, tl_append, hq, List.length_append]; rfl
    have hx : HT.sIx (p ++ ("q" : Str)).length 0 (some (-8)) = (tl p).length + 1 - 8 := by
      unfold HT.sIx
      dsimp only
      rw [if_pos (by decide), hl]
      omega
    rw [hx, HT.sIx_none, tl_append, hq, List.take_of_length_le]
    rw [List.length_drop, List.length_append, hl]
    exact Nat.le_refl _
  rw [List.drop_append_of_le_length (by omega)] at e
  exact ⟨_, e, by rw [List.length_drop]; omega, fun c hc => List.mem_of_mem_drop hc⟩
theorem ask_ok {p : Str} (h : fieldName p = true) : request (askOf p) = true ∧ askOf p ≠ ("zero" : Str) ∧ askOf p ≠ ("by" : Str) := by
  obtain ⟨r, e, hl, hr⟩ := ask_tl p
  have hw : within 97 122 (tl p) = true := by
    unfold fieldName small at h
    rw [Bool.and_eq_true, Bool.and_eq_true] at h
    exact h.1.2
  have hlast : ∀ z : Str, (tl z).getLast? ≠ some 113 → askOf p ≠ z := fun z hz q => hz (by rw [← q, e, List.getLast?_concat])
  have hwr : within 97 122 (r ++ [113]) = true := by
    rw [within_app, show within 97 122 [113] = true by decide, Bool.and_true]
    exact List.all_eq_true.mpr fun c hc => List.all_eq_true.mp hw c (hr c hc)
  have hlen : (askOf p).length = r.length + 1 := by rw [len_tl, e, List.length_append]; rfl
  refine ⟨?_, hlast _ (by decide +kernel), hlast _ (by decide +kernel)⟩
  have hu : unary.contains (askOf p) = false := by
    cases q : unary.contains (askOf p) with
    | false => rfl
    | true =>
      have hm := List.contains_iff_mem.mp q
      have key : ∀ z ∈ unary, (tl z).getLast? ≠ some 113 := by decide +kernel
      exact absurd rfl (hlast _ (key _ hm))
  unfold request small
  rw [hu, e, hwr, hlen, decide_eq_true (by omega), decide_eq_true (by omega)]
  rfl
theorem sub_filter : ∀ {ch ps : List Str}, ch.Sublist ps → ps.Nodup → ps.filter (fun f => ch.contains f) = ch
  | _, _, .slnil, _ => rfl
  | ch, x :: ps, .cons _ h, nd => by
    have nd' := List.nodup_cons.mp nd
    have hx : ch.contains x = false := by
      cases q : ch.contains x with
      | false => rfl
      | true => exact absurd (h.subset (List.contains_iff_mem.mp q)) nd'.1
    rw [List.filter_cons, hx, if_neg Bool.false_ne_true]
    exact sub_filter h nd'.2
  | x :: ch, _ :: ps, .cons₂ _ h, nd => by
    have nd' := List.nodup_cons.mp nd
    have e : ps.filter (fun f => (x :: ch).contains f) = ps.filter (fun f => ch.contains f) := by
      refine List.filter_congr fun z hz => ?_
      have : z ≠ x := fun q => nd'.1 (q ▸ hz)
      rw [List.contains_cons, beq_eq_false_iff_ne.mpr this, Bool.false_or]
    rw [List.filter_cons, List.contains_cons, beq_self_eq_true, Bool.true_or, if_pos rfl, e, sub_filter h nd'.2]
end K04

namespace K04
open PySem PySem.Spec PyProof.Rows L2 EV TL LM
theorem keptOk_snoc : ∀ {kept : List (Str × Str)} {known : List Str} {p : Str × Str}, KeptOk known kept → fieldName p.1 = true → p.1 ∉ known ++ kept.map (·.1) → p.2 ∈ known ++ kept.map (·.1) → KeptOk known (kept ++ [p])
  | [], known, p, _, h1, h2, h3 => by
    rw [List.map_nil, List.append_nil] at h2 h3
    exact ⟨h1, h2, h3, trivial⟩
  | q :: r, known, p, ⟨k1, k2, k3, k4⟩, h1, h2, h3 => by
    have e : known ++ (q :: r).map (·.1) = (known ++ [q.1]) ++ r.map (·.1) := by rw [List.map_cons, List.append_assoc]; rfl
    rw [e] at h2 h3
    exact ⟨k1, k2, k3, keptOk_snoc k4 h1 h2 h3⟩
theorem seq_at {n j : Nat} (h : j < n) (h2 : n ≤ 1000000) : seqIndex? ((j : Nat) : Int) n = some j := by
  refine (ixN_seq (n := n) (i := ((j : Nat) : Int)) (j := j) ?_).1
  unfold ixN
  rw [if_pos (by omega), if_pos (by omega), Int.toNat_natCast]
theorem makers_nl : ∀ m ∈ makers0 ++ makers1 ++ makers2, NoNl m := by
  show ∀ m ∈ makers0 ++ makers1 ++ makers2, 10 ∉ tl m
  decide +kernel
theorem maker_nl {n : Nat} {m : Str} (h : m ∈ makersOf n) : NoNl m := by
  refine makers_nl m ?_
  match n with
  | 0 => exact List.mem_append_left _ (List.mem_append_left _ h)
  | 1 => exact List.mem_append_left _ (List.mem_append_right _ h)
  | _ + 2 => exact List.mem_append_right _ h
theorem allowed_mk {n : Nat} {hk : Bool} {m : Str} (h : m ∈ allowed n hk) : m ∈ makersOf n ∧ (m = "hook" → hk = true) := by
  unfold allowed at h
  obtain ⟨h1, h2⟩ := List.mem_filter.mp h
  refine ⟨h1, fun e => ?_⟩
  subst e
  cases hk with
  | true => rfl
  | false => exact absurd h2 (by decide)
theorem allowed_len (n : Nat) (hk : Bool) : 0 < (allowed n hk).length ∧ (allowed n hk).length ≤ 17 := by
  have key : ∀ n ≤ 2, ∀ hk, 0 < (allowed n hk).length ∧ (allowed n hk).length ≤ 17 := by decide +kernel
  match n with
  | 0 => exact key 0 (by decide) hk
  | 1 => exact key 1 (by decide) hk
  | k + 2 => exact key 2 (by decide) hk
def signs13 : List Str := ["+", "-", "*", "//", "&", "|", "^", "<<", ">>", "neg", "pos", "abs", "invert"]
theorem signs13_nd : signs13.Nodup := by decide +kernel
theorem signs13_ar : ∀ s ∈ signs13, arity s ≠ 0 ∧ (binary.contains s = true ∨ unary.contains s = true) := by decide +kernel
/-- what the law asks and draws from -/
def asksOf (p : Str) : List Str := ["zero", "by", askOf p]
theorem asks_req {p : Str} (h : fieldName p = true) : ∀ s ∈ asksOf p, request s = true := by
  intro s hs
  unfold asksOf at hs
  simp only [List.mem_cons, List.not_mem_nil, or_false] at hs
  rcases hs with rfl | rfl | rfl
  · decide +kernel
  · decide +kernel
  · exact (ask_ok h).1
theorem left_nd {p : Str} (h : fieldName p = true) : (signs13 ++ asksOf p).Nodup := by
  obtain ⟨h1, h2, h3⟩ := ask_ok h
  rw [List.nodup_append]
  refine ⟨signs13_nd, ?_, fun a ha c hc e => ?_⟩
  · unfold asksOf
    have z : ("zero" : Str) ≠ "by" := by decide +kernel
    simp only [List.nodup_cons, List.mem_cons, List.not_mem_nil, or_false, not_or, not_false_eq_true, List.nodup_nil, and_true]
    exact ⟨⟨z, fun q => h2 q.symm⟩, fun q => h3 q.symm⟩
  · subst e
    have := (arity_req (asks_req h a hc)).1
    exact (signs13_ar a ha).1 this
theorem sign_form {p s : Str} (h : fieldName p = true) (hs : s ∈ signs13 ++ asksOf p) : (if (asksOf p).contains s = true then 0 else if unary.contains s = true then 1 else 2) = arity s ∧ (arity s = 0 → request s = true) ∧ (arity s ≠ 0 → binary.contains s = true ∨ unary.contains s = true) := by
  cases e : (asksOf p).contains s with
  | true =>
    have hr := asks_req h s (List.contains_iff_mem.mp e)
    have ha := (arity_req hr).1
    exact ⟨by rw [if_pos rfl, ha], fun _ => hr, fun z => absurd ha z⟩
  | false =>
    have hs' : s ∈ signs13 := by
      rcases List.mem_append.mp hs with q | q
      · exact q
      · rw [List.contains_iff_mem.mpr q] at e
        cases e
    have q := signs13_ar s hs'
    refine ⟨?_, fun z => absurd z q.1, fun _ => q.2⟩
    rw [if_neg Bool.false_ne_true]
    have key : ∀ s ∈ signs13, (if unary.contains s = true then 1 else 2) = arity s := by decide +kernel
    exact key s hs'
theorem askS_zero : ("zero" : Str).length = 4 := by decide +kernel
/-- the last of a row of fields is taken -/
theorem fields_pop {fs rest ps : List Str} (h : fs = rest ++ ps) (h1 : ps.length < fs.length) : ∃ r x, rest = r ++ [x] ∧ fs = r ++ (x :: ps) := by
  have hr : rest ≠ [] := fun e => by rw [e, List.nil_append] at h; rw [h] at h1; omega
  obtain ⟨r, x, e⟩ := snoc_of hr
  exact ⟨r, x, e, by rw [h, e, List.append_assoc]; rfl⟩
theorem pop_at (r : List Str) (x : Str) : ((r ++ [x]).map V.str)[((r ++ [x]).map V.str).length - 1]? = some (V.str x) := by
  rw [List.map_append, List.length_append]
  show (r.map V.str ++ [V.str x])[(r.map V.str).length + 1 - 1]? = _
  rw [Nat.add_sub_cancel, List.getElem?_append_right (Nat.le_refl _), Nat.sub_self]
  rfl
theorem pop_rest (r : List Str) (x : Str) : ((r ++ [x]).map V.str).dropLast = r.map V.str := by
  rw [List.map_append]
  exact List.dropLast_concat
theorem ne_of_none' {H : Hp} {a c : Addr} {o : HO} (h : H a = some o) (n : H c = none) : c ≠ a := fun e => by
  rw [e, h] at n
  cases n
theorem Keep2.free {b l a : Addr} {H G : Hp} (k : Keep2 b l H G) (n : G a = none) (hb : a ≠ b) (hl : a ≠ l) : H a = none := by
  cases e : H a with
  | none => rfl
  | some o => rw [k a o hb hl e] at n; cases n
theorem updT {H : Hp} {l : Addr} {xs : List V} {o : HO} (h : H l = some (.lst xs)) : ∀ t ys, H t = some (.tup ys) → upd H l o t = some (.tup ys) := fun t ys z => by
  rw [upd_ne (fun e => by rw [e, h] at z; cases z)]
  exact z
theorem keepT {H G : Hp} {b : Addr} (k : Keep b H G) (B : BagAt H b) : ∀ t ys, H t = some (.tup ys) → G t = some (.tup ys) := fun t ys z =>
  k _ _ (fun e => by obtain ⟨_, _, _, q, _⟩ := B; rw [e, q] at z; cases z) z
/-- all but what stands at some places is as it was -/
def KeepS (S : List Addr) (H H' : Hp) : Prop := ∀ a o, a ∉ S → H a = some o → H' a = some o
theorem KeepS.trans {S : List Addr} {H H1 H2 : Hp} (x : KeepS S H H1) (y : KeepS S H1 H2) : KeepS S H H2 := fun a o n z => y a o n (x a o n z)
theorem KeepS.of {S : List Addr} {H H' : Hp} (s : Same H H') : KeepS S H H' := fun a o _ z => s a o z
theorem KeepS.one {S : List Addr} {b : Addr} {H H' : Hp} (hb : b ∈ S) (s : Keep b H H') : KeepS S H H' := fun a o n z => s a o (fun e => n (e ▸ hb)) z
theorem KeepS.upd {S : List Addr} {b : Addr} {H : Hp} {o : HO} (hb : b ∈ S) : KeepS S H (L2.upd H b o) := fun a u n z => by
  rw [upd_ne (fun e => n (by rw [e]; exact hb))]
  exact z
/-- the law's rows of operations, none of their objects at some places -/
structure RowsS (S : List Addr) (H : Hp) (ts : List V) (ops : List Op) : Prop where
  len : ts.length = ops.length
  row : ∀ (i : Nat) (o : Op), ops[i]? = some o → ∃ t c, ts[i]? = some (.ref t) ∧ H t = some (.lst [.str o.sign, .ref c, .str o.maker, .int (arity o.sign : Nat)]) ∧ StrsAt H c o.changed ∧ t ∉ S ∧ c ∉ S
theorem RowsS.nil {S : List Addr} {H : Hp} : RowsS S H [] [] := ⟨rfl, fun i k e => by simp at e⟩
theorem RowsS.rows {S : List Addr} {H : Hp} {ts : List V} {ops : List Op} (h : RowsS S H ts ops) : LRows H ts ops := ⟨h.len, fun i o e => let ⟨t, c, z1, z2, z3, _⟩ := h.row i o e; ⟨t, c, z1, z2, z3⟩⟩
theorem RowsS.keep {S : List Addr} {H H' : Hp} {ts : List V} {ops : List Op} (h : RowsS S H ts ops) (k : KeepS S H H') : RowsS S H' ts ops :=
  ⟨h.len, fun i o e => let ⟨t, c, z1, z2, z3, z4, z5⟩ := h.row i o e; ⟨t, c, z1, k _ _ z4 z2, k _ _ z5 z3, z4, z5⟩⟩
theorem RowsS.snoc {S : List Addr} {H : Hp} {ts : List V} {ops : List Op} {t c : Addr} {o : Op} (h : RowsS S H ts ops) (ht : H t = some (.lst [.str o.sign, .ref c, .str o.maker, .int (arity o.sign : Nat)])) (hc : StrsAt H c o.changed) (n1 : t ∉ S) (n2 : c ∉ S) : RowsS S H (ts ++ [.ref t]) (ops ++ [o]) := by
  refine ⟨by rw [List.length_append, List.length_append, h.len]; rfl, fun i z e => ?_⟩
  by_cases hi : i < ops.length
  · rw [List.getElem?_append_left hi] at e
    rw [List.getElem?_append_left (by rw [h.len]; exact hi)]
    exact h.row i z e
  · rw [List.getElem?_append_right (Nat.le_of_not_lt hi)] at e
    have e0 : i - ops.length = 0 := by
      cases q : i - ops.length with
      | zero => rfl
      | succ j => rw [q] at e; simp at e
    rw [e0] at e
    obtain rfl : o = z := by simpa using e
    rw [List.getElem?_append_right (by rw [h.len]; exact Nat.le_of_not_lt hi), h.len, e0]
    exact ⟨t, c, rfl, ht, hc, n1, n2⟩
/-- a pair at the end -/
theorem PairsAt.keep2 {b fl : Addr} {H H' : Hp} {us : List V} {ks : List (Str × Str)} {xs : List V} (h : PairsAt H us ks) (k : Keep2 b fl H H') (hb : ∃ ys, H b = some (.lst ys)) (hf : H fl = some (.lst xs)) : PairsAt H' us ks :=
  h.tups fun t ys z => k _ _ (fun e => by obtain ⟨zs, q⟩ := hb; rw [e, q] at z; cases z) (fun e => by rw [e, hf] at z; cases z) z
theorem BagAt.lst {H : Hp} {b : Addr} (h : BagAt H b) : ∃ ys, H b = some (.lst ys) := by
  obtain ⟨d, m, c, h1, _⟩ := h
  exact ⟨_, h1⟩
section
variable {P : Program} {w : World} {K : Fg} {mg : Str → Option Value} {base : Heap}
def spLib : Sp := fun vs H Q _ => ∃ (b fl : Addr) (name : Str) (most : Nat) (fs : List Str), vs = [.ref b, .ref fl, .str name, .int (most : Nat)] ∧ BagAt H b ∧ StrsAt H fl fs ∧ fl ≠ b ∧ 5 ≤ fs.length ∧ fs.length ≤ 26 ∧ fs.Nodup ∧ (∀ f ∈ fs, fieldName f = true) ∧
  className name = true ∧ 1 ≤ most ∧ most ≤ 6 ∧
  ∀ (a : Addr) (L : Lib) (rest : List Str) (H' : Hp), Keep2 b fl H H' → BagAt H' b → StrsAt H' fl rest → H a = none → LawLib H' a L → LibOk L → L.ops.all (mkOk L.hook) = true →
    fs = rest ++ ((L.kept.map (·.1)).reverse ++ L.ps.reverse) → L.name = name → Q (.ref a) H'
theorem ok_law_library {f : Addr} {fd : FuncData} (F : Fun K "_law_library" "_law_library" s_law_library f fd) (T : Cst K mg) (O_law_take : Ok P w K mg base 1 "_law_take" ["bag", "many"] spTake) (O_law_of : Ok P w K mg base 2 "_law_of" ["bag", "some"] spOf)
    (O_law_makers : Ok P w K mg base 1 "_law_makers" ["arity", "hooked"] spLawMakers) : FnOk P w K mg base CX0 3 f fd ["bag", "fields", "name", "most"] spLib := by
  refine F.ok sc_law_library (fun vs H Q E h => ?_) (fun cdv A outer s H vs Q E hr h => ?_)
  · obtain ⟨b, fl, name, most, fs, rfl, _⟩ := h
    rfl
  · obtain ⟨b, fl, name, most, fs, rfl, B, hfl, flb, f5, f26, nd, hf, hn, m1, m6, k⟩ := h
    refine ⟨_, (pss_cons (ps_setLc (i := 4) (own := [("turn", 7)]) rfl sc_law_library.nd rfl rfl (sw_true rfl rfl rfl (by decide +kernel)) (pi_range1 rfl T.n_range (pa_cons (pe_op op_add pe_int (pe_callO O_law_take (hr.mono (by decide)) (pa_cons (pv 0) (pa_cons pe_int pa_nil)))) pa_nil)) (blkOk_by (own := [("turn", 7)]) (N := ["bag", "fields", "name", "most", "parts", "kept", "rows", "turn", "hooked", "asks", "left", "sign", "arity", "changed", "row", "part"]) (sc := defScope s_law_library) (by decide +kernel)) (fun _ _ _ _ _ => (pg_name (i := 7) sc_law_library.nd rfl (Or.inl rfl))) (fun _ _ _ _ _ => pts_nil) (fun _ _ _ _ _ => (pe_popK (K := K) (pv 1))))
    (pss_cons (ps_par (i := 5) (j := 6) (by rfl) sc_law_library.nd rfl rfl (by decide) rfl rfl (pa_cons (pe_lst pa_nil) (pa_cons (pe_lst pa_nil) pa_nil)) (by rfl))
    (pss_cons (ps_for PassesOwn.never rfl (pi_range1 rfl T.n_range (pa_cons (pe_callO O_law_take (hr.mono (by decide)) (pa_cons (pv 0) (pa_cons pe_int pa_nil))) pa_nil)) (pg_name (i := 7) sc_law_library.nd rfl (Or.inl rfl)) (pss_one (ps_expr (pe_bm PySem.F.plainAttrs_list PySem.F.slot_list_append PySem.F.type_list_append mt_append (pv 5) (pa_cons (pe_tup (pa_cons (pe_popK (K := K) (pv 1)) (pa_cons (pe_callO O_law_of (hr.mono (by decide)) (pa_cons (pv 0) (pa_cons (pe_op op_cat (pv 4) (pe_lc (own := [("row", 14)]) rfl sc_law_library.nd (pi_list (pv 5)) (blkOk_by (own := [("row", 14)]) (N := ["bag", "fields", "name", "most", "parts", "kept", "rows", "turn", "hooked", "asks", "left", "sign", "arity", "changed", "row", "part"]) (sc := defScope s_law_library) (by decide +kernel)) (fun _ _ _ _ _ => (pg_name (i := 14) sc_law_library.nd rfl (Or.inl rfl))) (fun _ _ _ _ _ => pts_nil) (fun _ _ _ _ _ => (pe_ix (show IxR _ (rIxT K) from ix_tup) (pv 14) pe_int (fun _ _ => rfl))))) pa_nil))) pa_nil))) pa_nil)))))
    (pss_cons (ps_set (i := 8) sc_law_library.nd rfl (Or.inl rfl) (pe_callO O_law_of (hr.mono (by decide)) (pa_cons (pv 0) (pa_cons (pe_lst (pa_cons pe_non (pa_cons pe_str (pa_cons pe_str (pa_cons pe_str (pa_cons pe_str (pa_cons pe_str (pa_cons pe_str (pa_cons pe_str pa_nil))))))))) pa_nil))))
    (pss_cons (ps_set (i := 9) sc_law_library.nd rfl (Or.inl rfl) (pe_lst (pa_cons pe_str (pa_cons pe_str (pa_cons (pe_slice sl_str (pe_op op_add_str (pe_ix ix_list (pv 4) pe_int (fun _ _ => rfl)) pe_str) (po_some (pe_un un_neg pe_int)) po_none) pa_nil)))))
    (pss_cons (ps_set (i := 10) sc_law_library.nd rfl (Or.inl rfl) (pe_op op_cat (pe_lst (pa_cons pe_str (pa_cons pe_str (pa_cons pe_str (pa_cons pe_str (pa_cons pe_str (pa_cons pe_str (pa_cons pe_str (pa_cons pe_str (pa_cons pe_str (pa_cons pe_str (pa_cons pe_str (pa_cons pe_str (pa_cons pe_str pa_nil)))))))))))))) (pv 9)))
    (pss_cons (ps_for PassesOwn.never rfl (pi_range1 rfl T.n_range (pa_cons (pe_op op_add pe_int (pe_callO O_law_take (hr.mono (by decide)) (pa_cons (pv 0) (pa_cons (pv 3) pa_nil)))) pa_nil)) (pg_name (i := 7) sc_law_library.nd rfl (Or.inl rfl)) (pss_cons (ps_set (i := 11) sc_law_library.nd rfl (Or.inl rfl) (pe_bm PySem.F.plainAttrs_list PySem.F.slot_list_pop PySem.F.type_list_pop mt_popAt (pv 10) (pa_cons (pe_callO O_law_take (hr.mono (by decide)) (pa_cons (pv 0) (pa_cons (pe_callB call_len_seq (by rfl) T.n_len (by decide +kernel) (pa_cons (pv 10) pa_nil)) pa_nil))) pa_nil)))
    (pss_cons (ps_set (i := 12) sc_law_library.nd rfl (Or.inr rfl) (pe_mid (pe_ifExp (pt_cmpR op_in_seq (pv 11) (pv 9) (by rfl)) pe_int (pe_mid (pe_ifExp (pt_cmpR op_in_seq (pv 11) (pe_lst (pa_cons pe_str (pa_cons pe_str (pa_cons pe_str (pa_cons pe_str pa_nil))))) (by rfl)) pe_int pe_int)))))
    (pss_cons (ps_setLc (i := 13) (own := [("part", 15)]) rfl sc_law_library.nd rfl rfl (sw_true rfl rfl rfl (by decide +kernel)) (pi_list (pv 4)) (blkOk_by (own := [("part", 15)]) (N := ["bag", "fields", "name", "most", "parts", "kept", "rows", "turn", "hooked", "asks", "left", "sign", "arity", "changed", "row", "part"]) (sc := defScope s_law_library) (by decide +kernel)) (fun _ _ _ _ _ => (pg_name (i := 15) sc_law_library.nd rfl (Or.inl rfl))) (fun _ _ _ _ _ => (pts_one (PW.pt (pw_or (pt_cmpR op_eq (pv 12) pe_int (nomark _)) (pw_or1 (pt_cmpR op_eq (pe_callO O_law_take (hr.mono (by decide)) (pa_cons (pv 0) (pa_cons pe_int pa_nil))) pe_int (nomark _))))))) (fun _ _ _ _ _ => (pv 15)))
    (pss_one (ps_expr (pe_bm PySem.F.plainAttrs_list PySem.F.slot_list_append PySem.F.type_list_append mt_append (pv 6) (pa_cons (pe_lst (pa_cons (pv 11) (pa_cons (pv 13) (pa_cons (pe_callO O_law_of (hr.mono (by decide)) (pa_cons (pv 0) (pa_cons (pe_callO O_law_makers (hr.mono (by decide)) (pa_cons (pv 12) (pa_cons (pv 8) pa_nil))) pa_nil))) (pa_cons (pv 12) pa_nil))))) pa_nil))))))))
    (pss_one (ps_ret (pe_lst (pa_cons (pv 2) (pa_cons (pv 4) (pa_cons (pv 5) (pa_cons (pv 8) (pa_cons (pv 6) pa_nil))))))))))))))), ?_⟩
    refine ⟨_, rfl, b, 3, rfl, B, by decide, by decide, fun r H1 r0 r1 k1 B1 => ⟨_, _, rfl, rfl, 1 + r, rfl, by omega, by omega, fun D nD => ?_⟩⟩
    have hfl1 : StrsAt H1 fl fs := k1 _ _ flb hfl
    have flD : fl ≠ D := fun e => by
      rw [← e] at nD
      have z : H1 fl = _ := hfl1
      rw [nD] at z
      cases z
    have Db := B1.ne nD
    refine lc_it (walk_range (lo := 0) (n := (1 + r).toNat)) (fun i G => ∃ ps rest : List Str, ps.length = i ∧ fs = rest ++ ps.reverse ∧ StrsAt G fl rest ∧ StrsAt G D ps ∧ Keep2 b fl H G ∧ BagAt G b) ?_ (fun _ _ _ _ => trivial) ?_ ?_
    · refine ⟨[], fs, rfl, by rw [List.reverse_nil, List.append_nil], ?_, upd_same, (Keep2.one k1).new (?_), B1.upd Db⟩
      · show upd H1 D _ fl = _
        rw [upd_ne flD]
        exact hfl1
      · cases e : H D with
        | none => rfl
        | some o => exact absurd (k1 _ _ Db e) (by rw [nD]; intro z; cases z)
    · rintro i x G0 G hi ⟨ps, rest, lp, ef, h1, h2, h3, h4⟩ ⟨rfl, rfl⟩
      obtain ⟨rr, y, er, ef2⟩ := fields_pop ef (by rw [List.length_reverse]; omega)
      subst er
      refine ⟨rfl, _, rfl, .inl ⟨rfl, _, SqL.of h1⟩, fl, _, V.str y, rfl, rfl, h1, pop_at rr y, ps.map V.str, by rw [upd_ne (Ne.symm flD)]; exact h2, by rw [List.length_map, sizeLine_eq]; omega, ps ++ [y], rr, by rw [List.length_append, lp]; rfl, by rw [List.reverse_append]; exact ef2, ?_, ?_, ?_, (h4.upd flb).upd Db⟩
      · show upd (upd G fl _) D _ fl = _
        rw [upd_ne flD, upd_same, pop_rest]
      · show upd _ D _ D = _
        rw [upd_same, List.map_append]
        rfl
      · refine (h3.trans Keep2.updl).new ?_
        cases e : H D with
        | none => rfl
        | some o => exact absurd (k1 _ _ Db e) (by rw [nD]; intro z; cases z)
    intro G1 hG1
    obtain ⟨ps, rest, lp, ef, h1, h2, h3, h4⟩ := hG1
    have lps : ps.length ≤ 3 ∧ 0 < ps.length := by omega
    have lfs : fs.length = rest.length + ps.length := by rw [ef, List.length_append, List.length_reverse]
    refine ⟨by show 0 ≤ sizeLine; decide, fun pk npk => ⟨by show 0 ≤ sizeLine; decide, fun pr npr => ?_⟩⟩
    have prk : pr ≠ pk := fun e => by rw [e, upd_same] at npr; cases npr
    have nprG : G1 pr = none := (same_upd npk).free npr
    have pkb := h4.ne npk
    have prb := h4.ne nprG
    have pkf : pk ≠ fl := ne_of_none' h1 npk
    have prf : pr ≠ fl := ne_of_none' h1 nprG
    have pkD : pk ≠ D := ne_of_none' h2 npk
    have prD : pr ≠ D := ne_of_none' h2 nprG
    have s2 : Same G1 (upd (upd G1 pk (.lst [])) pr (.lst [])) := (same_upd npk).trans (same_upd npr)
    have hpr0 : upd (upd G1 pk (.lst [])) pr (.lst []) pr = some (.lst []) := upd_same
    have hpk0 : upd (upd G1 pk (.lst [])) pr (.lst []) pk = some (.lst []) := by rw [upd_ne (Ne.symm prk)]; exact upd_same
    have kk2 : Keep2 b fl H (upd (upd G1 pk (.lst [])) pr (.lst [])) := (h3.new (h3.free npk pkb pkf)).new (h3.free nprG prb prf)
    generalize upd (upd G1 pk (.lst [])) pr (.lst []) = G2 at s2 hpr0 hpk0 kk2
    have hfl2 : StrsAt G2 fl rest := s2 _ _ h1
    have hD2 : StrsAt G2 D ps := s2 _ _ h2
    refine ⟨_, _, rfl, _, rfl, b, 3, rfl, h4.same s2, by decide, by decide, fun r2 H2 q0 q1 k2 B2 => ⟨r2, rfl, by omega, by omega, ?_⟩⟩
    refine for_range (lo := 0) (n := r2.toNat) (fun i σ G => ∃ (kept : List (Str × Str)) (rest : List Str) (kts : List V) (u : Option V), σ = [some (.ref b), some (.ref fl), some (.str name), some (.int (most : Nat)), some (.ref D), some (.ref pk), some (.ref pr), u, none, none, none, none, none, none, none, none] ∧
        kept.length = i ∧ fs = rest ++ ((kept.map (·.1)).reverse ++ ps.reverse) ∧ KeptOk ps kept ∧ StrsAt G fl rest ∧ StrsAt G D ps ∧ G pk = some (.lst kts) ∧ PairsAt G kts kept ∧ G pr = some (.lst []) ∧ Keep2 b fl H G ∧ BagAt G b)
      ⟨[], rest, [], none, rfl, rfl, ef, trivial, k2 _ _ flb hfl2, k2 _ _ Db hD2, k2 _ _ pkb hpk0, PairsAt.nil, k2 _ _ prb hpr0, kk2.trans (Keep2.one k2), B2⟩ ?_ ?_
    · rintro i σ G hi ⟨kept, rest, kts, u, rfl, lk, ef, ko, hfl, hD, hpk, hP, hpr, kk, Bg⟩
      obtain ⟨rr, y, er, ef2⟩ := fields_pop ef (by rw [List.length_append, List.length_reverse, List.length_reverse, List.length_map]; omega)
      subst er
      refine ⟨_, rfl, .inl ⟨rfl, _, SqL.of hpk⟩, _, rfl, .inl ⟨rfl, _, SqL.of hfl⟩, fl, _, V.str y, rfl, rfl, hfl, pop_at rr y, ?_⟩
      have hfl3 : StrsAt (upd G fl (.lst (((rr ++ [y]).map V.str).dropLast))) fl rr := by
        show upd G fl _ fl = _
        rw [upd_same, pop_rest]
      have hD3 : StrsAt (upd G fl (.lst (((rr ++ [y]).map V.str).dropLast))) D ps := by
        show upd G fl _ D = _
        rw [upd_ne (Ne.symm flD)]
        exact hD
      have hpk3 : upd G fl (.lst (((rr ++ [y]).map V.str).dropLast)) pk = some (.lst kts) := by rw [upd_ne pkf]; exact hpk
      have hpr3 : upd G fl (.lst (((rr ++ [y]).map V.str).dropLast)) pr = some (.lst []) := by rw [upd_ne prf]; exact hpr
      have hP3 : PairsAt (upd G fl (.lst (((rr ++ [y]).map V.str).dropLast))) kts kept := hP.tups (updT hfl)
      have kk3 : Keep2 b fl H (upd G fl (.lst (((rr ++ [y]).map V.str).dropLast))) := kk.trans Keep2.updl
      have B3 : BagAt (upd G fl (.lst (((rr ++ [y]).map V.str).dropLast))) b := Bg.upd flb
      generalize upd G fl (.lst (((rr ++ [y]).map V.str).dropLast)) = G3 at hfl3 hD3 hpk3 hpr3 hP3 kk3 B3
      refine ⟨_, rfl, _, rfl, _, rfl, pk, rfl, ⟨_, SqL.of hpk3⟩, fun E nE => ?_⟩
      have lk2 : kept.length ≤ 2 := by omega
      refine lc_fm (walk_list (xs := kts)) (fun j => kept[j]?.map fun q => V.str q.1) nE (by rw [hP3.len]; omega) (fun _ s => SqL.of (s _ _ hpk3)) ?_ ?_
      · rintro j x G4 G5 NT NE hj s4 ⟨rfl, hx⟩ w0 w1
        obtain ⟨q, t, hq, rfl, ht⟩ := pair_at (hP3.same s4) hx
        refine ⟨rfl, _, rfl, t, _, ((0 : Nat) : Int), _, rfl, rfl, SqT.of ht, atI_nat (j := 0) rfl, w1 _ _ ?_ (Same.refl _)⟩
        show kept[j]?.map _ = _
        rw [hq]
        rfl
      intro G4 s4 hE
      rw [gath_map kept _ hP3.len] at hE
      refine ⟨D, E, _, _, rfl, rfl, s4 _ _ hD3, hE, by rw [List.length_map, List.length_map, sizeLine_eq]; omega, fun q nq => ?_⟩
      have s5 : Same G3 (upd G4 q (.lst (ps.map V.str ++ kept.map fun q => V.str q.1))) := s4.trans (same_upd nq)
      have hq5 : upd G4 q (.lst (ps.map V.str ++ kept.map fun q => V.str q.1)) q = some (.lst (ps.map V.str ++ kept.map fun q => V.str q.1)) := upd_same
      have qb : q ≠ b := (B3.same s4).ne nq
      generalize upd G4 q (.lst (ps.map V.str ++ kept.map fun q => V.str q.1)) = G5 at s5 hq5
      refine ⟨b, q, _, rfl, B3.same s5, hq5, qb, by rw [List.length_append, List.length_map]; omega, by rw [List.length_append, List.length_map, List.length_map]; omega, fun x G6 hx k6 B6 => ?_⟩
      obtain ⟨z, rfl, hz⟩ : ∃ z, x = V.str z ∧ z ∈ ps ++ kept.map (·.1) := by
        rcases List.mem_append.mp hx with hx | hx
        · obtain ⟨z, hz, rfl⟩ := List.mem_map.mp hx
          exact ⟨z, rfl, List.mem_append_left _ hz⟩
        · obtain ⟨p, hp, rfl⟩ := List.mem_map.mp hx
          exact ⟨p.1, rfl, List.mem_append_right _ (List.mem_map.mpr ⟨p, hp, rfl⟩)⟩
      refine ⟨by show 2 ≤ sizeLine; decide, fun t nt => ?_⟩
      have kk6 := (kk3.trans (Keep2.of s5)).trans (Keep2.one k6)
      have tb := B6.ne nt
      have hpk6 : G6 pk = some (.lst kts) := k6 _ _ pkb (s5 _ _ hpk3)
      have hfl6 : StrsAt G6 fl rr := k6 _ _ flb (s5 _ _ hfl3)
      have tf : t ≠ fl := ne_of_none' hfl6 nt
      have nd2 : y ∉ ps ++ kept.map (·.1) ∧ fieldName y = true := by
        refine ⟨fun hm => ?_, hf y (by rw [ef2]; exact List.mem_append_right _ (List.mem_cons_self ..))⟩
        have nd' := nd
        rw [ef2, List.nodup_append] at nd'
        refine (List.nodup_cons.mp nd'.2.1).1 ?_
        rcases List.mem_append.mp hm with q | q
        · exact List.mem_append_right _ (List.mem_reverse.mpr q)
        · exact List.mem_append_left _ (List.mem_reverse.mpr q)
      refine ⟨pk, _, _, rfl, rfl, same_upd nt _ _ hpk6, by rw [hP3.len, sizeLine_eq]; omega, kept ++ [(y, z)], rr, kts ++ [.ref t], _, rfl, by rw [List.length_append, lk]; rfl, ?_, keptOk_snoc ko nd2.2 nd2.1 hz, ?_, ?_, upd_same, ?_, ?_, ?_, ?_⟩
      · rw [ef2, List.map_append, List.reverse_append]
        rfl
      · show upd _ pk _ fl = _
        rw [upd_ne (Ne.symm pkf)]
        exact same_upd nt _ _ hfl6
      · show upd _ pk _ D = _
        rw [upd_ne (Ne.symm pkD)]
        exact same_upd nt _ _ (k6 _ _ Db (s5 _ _ hD3))
      · refine (((hP3.same s5).tups (keepT k6 (B3.same s5))).same (same_upd nt)).snoc (upd_same (o := .tup [.str y, .str z])) |>.tups (updT (same_upd nt _ _ hpk6))
      · rw [upd_ne prk]
        exact same_upd nt _ _ (k6 _ _ prb (s5 _ _ hpr3))
      · refine (kk6.new (kk6.free nt tb tf)).new (h3.free npk pkb pkf)
      · exact (B6.same (same_upd nt)).upd pkb
    rintro σ G ⟨kept, rest, kts, u, rfl, lk, ef, ko, hfl, hD, hpk, hP, hpr, kk, Bg⟩
    refine ⟨_, rfl, by show 8 ≤ sizeLine; decide, fun l nl => ⟨b, l, _, rfl, Bg.same (same_upd nl), upd_same, Bg.ne nl, by show 0 < 8; decide, by show 8 ≤ 1000; decide, fun x G3 hx k3 B3 => ?_⟩⟩
    obtain ⟨hk, rfl, hhk⟩ : ∃ hk, x = hookV hk ∧ ∀ h, hk = some h → h ∈ rootHooks := by
      simp only [List.mem_cons, List.not_mem_nil, or_false] at hx
      have key : ∀ h ∈ (["named", "call", "names", "renew", "copy", "bare"] : List Str), h ∈ rootHooks := fun h q => q
      rcases hx with rfl | rfl | rfl | rfl | rfl | rfl | rfl | rfl
      · exact ⟨none, rfl, fun h q => by cases q⟩
      all_goals exact ⟨some _, rfl, fun h q => by cases q; decide +kernel⟩
    have kS3 : Keep b G G3 := (Keep.of (same_upd nl)).trans k3
    have hD3 : StrsAt G3 D ps := kS3 _ _ Db hD
    have hfl3 : StrsAt G3 fl rest := kS3 _ _ flb hfl
    have hpk3 : G3 pk = some (.lst kts) := kS3 _ _ pkb hpk
    have hpr3 : G3 pr = some (.lst []) := kS3 _ _ prb hpr
    have hP3 : PairsAt G3 kts kept := hP.tups (keepT kS3 Bg)
    have kk3 : Keep2 b fl H G3 := kk.trans (Keep2.one kS3)
    clear hD hfl hpk hpr hP kk Bg kS3 k3 hx
    obtain ⟨p0, pt, ep⟩ : ∃ p0 pt, ps = p0 :: pt := by
      cases e : ps with
      | nil => rw [e] at lps; simp at lps
      | cons p0 pt => exact ⟨p0, pt, rfl⟩
    have hp0 : ps[0]? = some p0 := by rw [ep]; rfl
    have psf : ∀ p ∈ ps, fieldName p = true := fun p hp => hf p (by rw [ef]; exact List.mem_append_right _ (List.mem_append_right _ (List.mem_reverse.mpr hp)))
    have fp0 : fieldName p0 = true := psf p0 (by rw [ep]; exact List.mem_cons_self ..)
    have lp0 : p0.length ≤ 1000 := sh_field fp0
    have lq : ("q" : Str).length = 1 := by decide +kernel
    refine ⟨_, rfl, D, _, ((0 : Nat) : Int), _, rfl, rfl, SqL.of hD3, at_str hp0, _, _, rfl, rfl, by rw [lq, sizeLine_eq]; omega, _, rfl, _, rfl, _, rfl, by rw [len_app, lq, sizeLine_eq]; omega, by show 3 ≤ sizeLine; decide, fun ka nka => ?_⟩
    have kab := B3.ne nka
    have kaf := ne_of_none' hfl3 nka
    have hka4 : StrsAt (upd G3 ka (.lst [.str "zero", .str "by", .str (askOf p0)])) ka (asksOf p0) := upd_same
    have s4 : Same G3 (upd G3 ka (.lst [.str "zero", .str "by", .str (askOf p0)])) := same_upd nka
    have e4 : upd G3 ka (.lst [.str "zero", .str "by", .str (cutS (p0 ++ ("q" : Str)) (some (-8)) none)]) = upd G3 ka (.lst [.str "zero", .str "by", .str (askOf p0)]) := rfl
    show gName 9 (.ref ka) _ (upd G3 ka (.lst [.str "zero", .str "by", .str (cutS (p0 ++ ("q" : Str)) (some (-8)) none)])) _
    rw [e4]
    clear e4
    generalize upd G3 ka (.lst [.str "zero", .str "by", .str (askOf p0)]) = G4 at hka4 s4
    refine ⟨by show 13 ≤ sizeLine; decide, fun l1 nl1 => ⟨_, rfl, l1, ka, _, _, rfl, rfl, upd_same, same_upd nl1 _ _ hka4, by show 13 + 3 ≤ sizeLine; decide, fun lf nlf => ?_⟩⟩
    have nlf4 : G4 lf = none := (same_upd nl1).free nlf
    have s5 : Same G3 (upd (upd G4 l1 (.lst [.str "+", .str "-", .str "*", .str "//", .str "&", .str "|", .str "^", .str "<<", .str ">>", .str "neg", .str "pos", .str "abs", .str "invert"])) lf (.lst ([.str "+", .str "-", .str "*", .str "//", .str "&", .str "|", .str "^", .str "<<", .str ">>", .str "neg", .str "pos", .str "abs", .str "invert"] ++ (asksOf p0).map V.str))) := (s4.trans (same_upd nl1)).trans (same_upd nlf)
    have s45 : Same G4 (upd (upd G4 l1 (.lst [.str "+", .str "-", .str "*", .str "//", .str "&", .str "|", .str "^", .str "<<", .str ">>", .str "neg", .str "pos", .str "abs", .str "invert"])) lf (.lst ([.str "+", .str "-", .str "*", .str "//", .str "&", .str "|", .str "^", .str "<<", .str ">>", .str "neg", .str "pos", .str "abs", .str "invert"] ++ (asksOf p0).map V.str))) := (same_upd nl1).trans (same_upd nlf)
    have hlf5 : StrsAt (upd (upd G4 l1 (.lst [.str "+", .str "-", .str "*", .str "//", .str "&", .str "|", .str "^", .str "<<", .str ">>", .str "neg", .str "pos", .str "abs", .str "invert"])) lf (.lst ([.str "+", .str "-", .str "*", .str "//", .str "&", .str "|", .str "^", .str "<<", .str ">>", .str "neg", .str "pos", .str "abs", .str "invert"] ++ (asksOf p0).map V.str))) lf (signs13 ++ asksOf p0) := by
      show upd _ lf _ lf = _
      rw [upd_same]
      rfl
    generalize upd (upd G4 l1 (.lst [.str "+", .str "-", .str "*", .str "//", .str "&", .str "|", .str "^", .str "<<", .str ">>", .str "neg", .str "pos", .str "abs", .str "invert"])) lf (.lst ([.str "+", .str "-", .str "*", .str "//", .str "&", .str "|", .str "^", .str "<<", .str ">>", .str "neg", .str "pos", .str "abs", .str "invert"] ++ (asksOf p0).map V.str)) = G5 at s5 s45 hlf5
    have lfb : lf ≠ b := (B3.same s4).ne nlf4
    have lff : lf ≠ fl := ne_of_none' (s4 _ _ hfl3) nlf4
    have lfpr : lf ≠ pr := ne_of_none' (s4 _ _ hpr3) nlf4
    have lfD : lf ≠ D := ne_of_none' (s4 _ _ hD3) nlf4
    have lfk : lf ≠ pk := ne_of_none' (s4 _ _ hpk3) nlf4
    have lfa : lf ≠ ka := ne_of_none' hka4 nlf4
    have kapr : ka ≠ pr := ne_of_none' hpr3 nka
    have kk5 : Keep2 b fl H G5 := kk3.trans (Keep2.of s5)
    have nH_pr : H pr = none := h3.free nprG prb prf
    have nH_lf : H lf = none := kk3.free (s4.free nlf4) lfb lff
    refine ⟨_, rfl, _, rfl, b, _, rfl, B3.same s5, by omega, small200 (by omega) (by omega), fun r3 H3 q0 q1 k6 B6 => ⟨_, _, rfl, rfl, 1 + r3, rfl, by omega, by omega, ?_⟩⟩
    refine for_range (lo := 0) (n := (1 + r3).toNat) (fun i σ G => ∃ (ops : List Op) (L : List Str) (rts : List V) (u1 u2 u3 u4 : Option V), σ = [some (.ref b), some (.ref fl), some (.str name), some (.int (most : Nat)), some (.ref D), some (.ref pk), some (.ref pr), u1, some (hookV hk), some (.ref ka), some (.ref lf), u2, u3, u4, none, none] ∧
        ops.length = i ∧ (ops.map (·.sign) ++ L).Nodup ∧ (∀ s ∈ ops.map (·.sign) ++ L, s ∈ signs13 ++ asksOf p0) ∧ L.length = 16 - i ∧ (∀ o ∈ ops, OpForm ps o ∧ mkOk hk o = true ∧ NoNl o.maker) ∧ StrsAt G lf L ∧ G pr = some (.lst rts) ∧ RowsS [b, fl, pr, lf] G rts ops ∧
        StrsAt G D ps ∧ StrsAt G ka (asksOf p0) ∧ StrsAt G fl rest ∧ G pk = some (.lst kts) ∧ PairsAt G kts kept ∧ Keep2 b fl H G ∧ BagAt G b)
      ⟨[], signs13 ++ asksOf p0, [], _, none, none, none, rfl, rfl, left_nd fp0, fun s hs => hs, rfl, (fun o ho => by cases ho), k6 _ _ lfb hlf5, k6 _ _ prb (s5 _ _ hpr3), RowsS.nil, k6 _ _ Db (s5 _ _ hD3), k6 _ _ kab (s45 _ _ hka4), k6 _ _ flb (s5 _ _ hfl3), k6 _ _ pkb (s5 _ _ hpk3), (hP3.same s5).tups (keepT k6 (B3.same s5)), kk5.trans (Keep2.one k6), B6⟩ ?_ ?_
    · rintro i σ G hi ⟨ops, L, rts, u1, u2, u3, u4, rfl, lo, nd3, hs3, lL, hops, hlf, hpr, hR, hD, hka, hfl, hpk, hP, kk, Bg⟩
      have hLp : 0 < L.length := by omega
      refine ⟨_, rfl, .inl ⟨rfl, _, SqL.of hlf⟩, _, rfl, _, rfl, lf, _, rfl, .inl (SqL.of hlf), b, _, rfl, Bg, by rw [List.length_map]; omega, small200 (by omega) (by rw [List.length_map]; omega), fun r' G1' z0 z1 k1' B1' => ?_⟩
      obtain ⟨j, rfl⟩ := Int.eq_ofNat_of_zero_le z0
      rw [List.length_map] at z1
      have hj : j < L.length := by omega
      have hget : (L.map V.str)[j]? = some (V.str L[j]) := by rw [List.getElem?_map, List.getElem?_eq_getElem hj]; rfl
      refine ⟨lf, _, ((j : Nat) : Int), j, _, rfl, rfl, k1' _ _ lfb hlf, by omega, by omega, seq_at (by rw [List.length_map]; exact hj) (by rw [List.length_map]; omega), hget, ?_⟩
      have hlf2 : StrsAt (upd G1' lf (.lst ((L.map V.str).eraseIdx j))) lf (L.eraseIdx j) := by
        show upd G1' lf _ lf = _
        rw [upd_same, erase_map]
      have kS2 : KeepS [b, fl, pr, lf] G (upd G1' lf (.lst ((L.map V.str).eraseIdx j))) := (KeepS.one (by simp) k1').trans (KeepS.upd (by simp))
      have kk2' : Keep2 b fl H (upd G1' lf (.lst ((L.map V.str).eraseIdx j))) := (kk.trans (Keep2.one k1')).new nH_lf
      have B2' : BagAt (upd G1' lf (.lst ((L.map V.str).eraseIdx j))) b := B1'.upd lfb
      have hpr2 : upd G1' lf (.lst ((L.map V.str).eraseIdx j)) pr = some (.lst rts) := by rw [upd_ne (Ne.symm lfpr)]; exact k1' _ _ prb hpr
      have hfl2' : StrsAt (upd G1' lf (.lst ((L.map V.str).eraseIdx j))) fl rest := by
        show upd G1' lf _ fl = _
        rw [upd_ne (Ne.symm lff)]
        exact k1' _ _ flb hfl
      have hP2 : PairsAt (upd G1' lf (.lst ((L.map V.str).eraseIdx j))) kts kept := (hP.tups (keepT k1' Bg)).tups (updT (k1' _ _ lfb hlf))
      have hc : L[j] ∈ signs13 ++ asksOf p0 := hs3 _ (List.mem_append_right _ (List.getElem_mem hj))
      have perm : (ops.map (·.sign) ++ [L[j]] ++ L.eraseIdx j).Perm (ops.map (·.sign) ++ L) := by
        rw [List.append_assoc]
        exact (List.Perm.refl _).append (erase_perm L j hj)
      generalize upd G1' lf (.lst ((L.map V.str).eraseIdx j)) = G2 at hlf2 kS2 kk2' B2' hpr2 hfl2' hP2
      have hR2 := hR.keep kS2
      have hD2' : StrsAt G2 D ps := kS2 _ _ (by simp [Db, Ne.symm flD, Ne.symm prD, Ne.symm lfD]) hD
      have hka2 : StrsAt G2 ka (asksOf p0) := kS2 _ _ (by simp [kab, kaf, kapr, Ne.symm lfa]) hka
      have hpk2 : G2 pk = some (.lst kts) := kS2 _ _ (by simp [pkb, pkf, Ne.symm prk, Ne.symm lfk]) hpk
      have sgn := sign_form fp0 hc
      generalize L[j] = c at hc perm sgn
      have shc : Short c := by
        rcases List.mem_append.mp hc with q | q
        · exact sh_signs c (by rcases (signs13_ar c q).2 with w | w; exact List.mem_append_left _ (List.contains_iff_mem.mp w); exact List.mem_append_right _ (List.contains_iff_mem.mp w))
        · have q2 := asks_req fp0 c q
          unfold request at q2
          rw [Bool.and_eq_true] at q2
          exact sh_small q2.1
      refine ⟨fun v G' => v = V.int ((arity c : Nat) : Int) ∧ Same G2 G', ⟨_, rfl, _, rfl, ka, _, rfl, .inl (SqL.of hka2), rfl, flat_strs _, _, rfl, ?_⟩, ?_⟩
      · rw [inV_strs]
        have sg1 := sgn.1
        cases e : (asksOf p0).contains c with
        | true =>
          rw [e, if_pos rfl] at sg1
          exact iteT ⟨by rw [← sg1]; rfl, Same.refl _⟩
        | false =>
          rw [e, if_neg Bool.false_ne_true] at sg1
          refine iteF ⟨fun v G' => v = V.int ((arity c : Nat) : Int) ∧ Same G2 G', ⟨_, rfl, by show 4 ≤ sizeLine; decide, fun l5 nl5 => ⟨l5, _, rfl, .inl (SqL.of upd_same), rfl, rfl, _, rfl, ?_⟩⟩, fun v G' h => h⟩
          rw [show inV (.str c) [V.str "neg", V.str "pos", V.str "abs", V.str "invert"] = unary.contains c from inV_strs _ unary]
          cases e2 : unary.contains c with
          | true =>
            rw [e2, if_pos rfl] at sg1
            exact iteT ⟨by rw [← sg1]; rfl, same_upd nl5⟩
          | false =>
            rw [e2, if_neg Bool.false_ne_true] at sg1
            exact iteF ⟨by rw [← sg1]; rfl, same_upd nl5⟩
      · rintro v G3 ⟨rfl, s3⟩
        refine ⟨_, rfl, D, rfl, ⟨_, SqL.of (s3 _ _ hD2')⟩, fun D2 nD2 => ?_⟩
        have B3' := B2'.same s3
        have D2b := B3'.ne nD2
        refine lc_it (walk_list (xs := ps.map V.str)) (fun j G' => ∃ ch : List Str, ch.Sublist (ps.take j) ∧ (arity c = 0 → ch = ps.take j) ∧ StrsAt G' D2 ch ∧ Keep b G3 G' ∧ BagAt G' b)
          ⟨[], List.nil_sublist _, fun _ => rfl, upd_same, Keep.of (same_upd nD2), B3'.upd D2b⟩ (fun j G' _ q => by
            obtain ⟨_, _, _, _, q, _⟩ := q
            exact SqL.of (q _ _ Db (s3 _ _ hD2'))) ?_ ?_
        · rintro j x G0 G' hj ⟨ch, hsub, h0, hD2, k4, B4⟩ ⟨rfl, hx⟩
          obtain ⟨y, hy, rfl⟩ : ∃ y, ps[j]? = some y ∧ V.str y = x := by
            rw [List.getElem?_map] at hx
            cases e : ps[j]? with
            | none => rw [e] at hx; cases hx
            | some y => rw [e] at hx; exact ⟨y, rfl, by injection hx⟩
          have et : ps.take (j + 1) = ps.take j ++ [y] := by rw [List.take_succ, hy]; rfl
          have lch : ch.length ≤ 3 := Nat.le_trans hsub.length_le (by rw [List.length_take]; omega)
          have fin : ∀ G4, Keep b G' G4 → BagAt G4 b → ∃ acc, G4 D2 = some (.lst acc) ∧ acc.length < sizeLine ∧ ∃ ch, ch.Sublist (ps.take (j + 1)) ∧ (arity c = 0 → ch = ps.take (j + 1)) ∧ StrsAt (upd G4 D2 (.lst (acc ++ [V.str y]))) D2 ch ∧ Keep b G3 (upd G4 D2 (.lst (acc ++ [V.str y]))) ∧ BagAt (upd G4 D2 (.lst (acc ++ [V.str y]))) b := fun G4 k5 B5 => by
            refine ⟨ch.map V.str, k5 _ _ D2b hD2, by rw [List.length_map, sizeLine_eq]; omega, ch ++ [y], by rw [et]; exact hsub.append (List.Sublist.refl _), fun z => by rw [et, h0 z], ?_, keep_new (k4.trans k5) nD2, B5.upd D2b⟩
            show upd G4 D2 _ D2 = _
            rw [upd_same, List.map_append]
            rfl
          refine ⟨rfl, _, rfl, rfl, _, rfl, ?_⟩
          refine ite2 (fun hz => ?_) (fun hz => ?_)
          · exact iteT ⟨_, rfl, fin G' (Keep.refl _) B4⟩
          · refine ⟨_, rfl, b, 2, rfl, B4, by decide, by decide, fun r4 G4 _ _ k5 B5 => ⟨rfl, _, rfl, ite2 (fun hy2 => ⟨_, rfl, fin G4 k5 B5⟩) (fun hy2 => ⟨ch, ?_, fun z => ?_, k5 _ _ D2b hD2, k4.trans k5, B5⟩)⟩⟩
            · rw [et]
              exact hsub.trans (List.sublist_append_left _ _)
            · exact absurd (decide_eq_true (by rw [z]; rfl)) hz
        intro G4 hG4
        obtain ⟨ch, hsub, h0, hch, k4, B4⟩ := hG4
        rw [List.length_map, List.take_length] at hsub h0
        have hpr4 : G4 pr = some (.lst rts) := k4 _ _ prb (s3 _ _ hpr2)
        refine ⟨_, rfl, .inl ⟨rfl, _, SqL.of hpr4⟩, _, rfl, _, rfl, _, rfl, _, rfl, _, rfl, arity c, hk, rfl, arity_le c, fun pm G5 s5' npm hpm => ?_⟩
        have lal := allowed_len (arity c) hk.isSome
        refine ⟨b, pm, _, rfl, B4.same s5', hpm, B4.ne npm, by rw [List.length_map]; exact lal.1, by rw [List.length_map]; omega, fun x G6 hx k7 B7 => ?_⟩
        obtain ⟨m, hm, rfl⟩ := List.mem_map.mp hx
        obtain ⟨mk1, mk2⟩ := allowed_mk hm
        refine ⟨_, rfl, by show 4 ≤ sizeLine; decide, fun t nt => ?_⟩
        have kS : KeepS [b, fl, pr, lf] G2 G6 := (((KeepS.of s3).trans (KeepS.one (by simp) k4)).trans (KeepS.of s5')).trans (KeepS.one (by simp) k7)
        have hpr6 : G6 pr = some (.lst rts) := k7 _ _ prb (s5' _ _ hpr4)
        have hfl6 : StrsAt G6 fl rest := k7 _ _ flb (s5' _ _ (k4 _ _ flb (s3 _ _ hfl2')))
        have hlf6 : StrsAt G6 lf (L.eraseIdx j) := k7 _ _ lfb (s5' _ _ (k4 _ _ lfb (s3 _ _ hlf2)))
        have hch6 : StrsAt G6 D2 ch := k7 _ _ D2b (s5' _ _ hch)
        have tb := B7.ne nt
        have tf := ne_of_none' hfl6 nt
        have tpr := ne_of_none' hpr6 nt
        have tlf := ne_of_none' hlf6 nt
        have D2f : D2 ≠ fl := ne_of_none' (s3 _ _ hfl2') nD2
        have D2pr : D2 ≠ pr := ne_of_none' (s3 _ _ hpr2) nD2
        have D2lf : D2 ≠ lf := ne_of_none' (s3 _ _ hlf2) nD2
        have kk6 : Keep2 b fl H G6 := (((kk2'.trans (Keep2.of s3)).trans (Keep2.one k4)).trans (Keep2.of s5')).trans (Keep2.one k7)
        have rl : rts.length = ops.length := hR.len
        have out : ∀ {q : Addr}, q ≠ pr → upd (upd G6 t (.lst [.str c, .ref D2, .str m, .int ((arity c : Nat) : Int)])) pr (.lst (rts ++ [V.ref t])) q = upd G6 t (.lst [.str c, .ref D2, .str m, .int ((arity c : Nat) : Int)]) q := fun n => upd_ne n
        have hP6 : PairsAt G6 kts kept := (((hP2.same s3).tups (keepT k4 B3')).same s5').tups (keepT k7 (B4.same s5'))
        refine ⟨pr, _, _, rfl, rfl, same_upd nt _ _ hpr6, by rw [rl, sizeLine_eq]; omega, ops ++ [⟨c, ch, m⟩], L.eraseIdx j, rts ++ [.ref t], _, _, _, _, rfl, by rw [List.length_append, lo]; rfl, ?_, ?_, by rw [List.length_eraseIdx_of_lt hj, lL]; omega, ?_, ?_, upd_same, ?_, ?_, ?_, ?_, ?_, ?_, ?_, (B7.upd tb).upd prb⟩
        · rw [List.map_append]
          exact perm.nodup_iff.mpr nd3
        · intro s hs
          rw [List.map_append] at hs
          exact hs3 s (perm.mem_iff.mp hs)
        · intro o ho
          rcases List.mem_append.mp ho with ho | ho
          · exact hops o ho
          · obtain rfl := List.mem_singleton.mp ho
            have psn : ps.Nodup := by
              have := nd
              rw [ef, List.nodup_append, List.nodup_append] at this
              exact (List.reverse_perm ps).nodup_iff.mp this.2.1.2.1
            refine ⟨⟨?_, (sub_filter hsub psn).symm, fun p hp => ?_⟩, ?_, maker_nl mk1⟩
            · by_cases z : arity c = 0
              · exact .inr (.inr ⟨sgn.2.1 z, h0 z⟩)
              · rcases sgn.2.2 z with w | w
                · exact .inl w
                · exact .inr (.inl w)
            · have q := psf p (hsub.subset hp)
              unfold fieldName at q
              rw [Bool.and_eq_true, Bool.not_eq_true'] at q
              intro e
              rw [e] at q
              exact absurd q.2 (by decide +kernel)
            · unfold mkOk
              rw [List.contains_iff_mem.mpr mk1, Bool.true_and]
              cases e : hk with
              | some h => rw [Option.isNone_some, Bool.and_false]; rfl
              | none =>
                have : m ≠ "hook" := fun q => by
                  have := mk2 q
                  rw [e] at this
                  cases this
                rw [Option.isNone_none, Bool.and_true, beq_eq_false_iff_ne.mpr this]
                rfl
        · show upd _ pr _ lf = _
          rw [out lfpr]
          exact same_upd nt _ _ hlf6
        · refine ((hR2.keep kS).keep ((KeepS.of (same_upd nt)).trans (KeepS.upd (by simp)))).snoc (t := t) (c := D2) (o := ⟨c, ch, m⟩) ?_ ?_ (by simp [tb, tf, tpr, tlf]) (by simp [D2b, D2f, D2pr, D2lf])
          · rw [out tpr]
            exact upd_same
          · show upd _ pr _ D2 = _
            rw [out D2pr]
            exact same_upd nt _ _ hch6
        · show upd _ pr _ D = _
          rw [out (Ne.symm prD)]
          exact same_upd nt _ _ (kS _ _ (by simp [Db, Ne.symm flD, Ne.symm prD, Ne.symm lfD]) hD2')
        · show upd _ pr _ ka = _
          rw [out kapr]
          exact same_upd nt _ _ (kS _ _ (by simp [kab, kaf, kapr, Ne.symm lfa]) hka2)
        · show upd _ pr _ fl = _
          rw [out (Ne.symm prf)]
          exact same_upd nt _ _ hfl6
        · rw [out (Ne.symm prk)]
          exact same_upd nt _ _ (kS _ _ (by simp [pkb, pkf, Ne.symm prk, Ne.symm lfk]) hpk2)
        · exact (hP6.same (same_upd nt)).tups (updT (same_upd nt _ _ hpr6))
        · exact (kk6.new (kk6.free nt tb tf)).new nH_pr
    · rintro σ G ⟨ops, L, rts, u1, u2, u3, u4, rfl, lo, nd3, hs3, lL, hops, hlf, hpr, hR, hD, hka, hfl, hpk, hP, kk, Bg⟩
      refine ⟨_, rfl, _, rfl, _, rfl, _, rfl, _, rfl, by show 5 ≤ sizeLine; decide, fun a na => ?_⟩
      have sa := same_upd (o := .lst [.str name, .ref D, .ref pk, hookV hk, .ref pr]) na
      have psn : ps.Nodup := by
        have := nd
        rw [ef, List.nodup_append, List.nodup_append] at this
        exact (List.reverse_perm ps).nodup_iff.mp this.2.1.2.1
      refine k a ⟨name, ps, kept, hk, ops⟩ rest _ (kk.new (kk.free na (Bg.ne na) (ne_of_none' hfl na))) (Bg.same sa) (sa _ _ hfl) (kk.free na (Bg.ne na) (ne_of_none' hfl na)) ⟨D, pk, pr, kts, rts, upd_same, sa _ _ hD, sa _ _ hpk, hP.same sa, sa _ _ hpr, hR.rows.same sa⟩ ?_ ?_ ef rfl
      · refine ⟨⟨hn, fun e => by simp only at e; rw [e] at lps; simp at lps, lps.1, psf, psn, by show kept.length ≤ 2; omega, ko, hhk⟩, fun e => ?_, by show ops.length ≤ 6; omega, ?_, fun o ho => (hops o ho).1, fun o ho => (hops o ho).2.2⟩
        · simp only at e
          rw [e] at lo
          simp at lo
          omega
        · exact (List.nodup_append.mp nd3).1
      · exact List.all_eq_true.mpr fun o ho => (hops o ho).2.1
end
end K04

namespace K04
open PySem PySem.Spec PyProof.Rows L2 EV TL LM
theorem ne_eqL {K : Fg} {H : Hp} {p q : Addr} {ws : List Str} {Q : VK} (h1 : SqL K H p (ws.map V.str)) (h2 : SqL K H q (ws.map V.str)) (o1 : ∀ w ∈ ws, PyData.strOk w = true) (k : Q (.bl false) H) : rNeD K (.ref p) (.ref q) H Q := by
  refine ⟨_, _, dp_strs h1, dp_strs h2, shaped_strs ws o1, shaped_strs ws o1, ?_⟩
  show Q (.bl (!PyData.eqvAll (ws.map PyData.str) (ws.map PyData.str))) H
  rw [eqv_strs, decide_eq_true rfl]
  exact k
theorem allowed_ok : ∀ n ≤ 2, ∀ hk, ∀ m ∈ allowed n hk, PyData.strOk m = true ∧ m.length ≤ 100 := by decide +kernel
theorem lawShort_of {L : Lib} (h : LibOk L) (hm : ∀ o ∈ L.ops, MkFine o.maker) : LawShort L ∧ LibFine L := by
  have kf := kept_fields h.root.ko h.root.pf
  have sk : ∀ p ∈ L.kept, Short p.1 ∧ Short p.2 := fun p hp => ⟨sh_field (kf p hp).1, sh_field (kf p hp).2⟩
  have so : OpsShort L.ops := fun o ho => ⟨Nat.le_trans (h.sign ho).1 (by decide), Nat.le_trans (hm o ho).len (by decide), fun p hp => sh_field (h.root.pf p ((h.sub ho).1 p hp)), Nat.le_trans (h.sub ho).2 (by decide)⟩
  have sh : ∀ z, L.hook = some z → Short z := fun z e => sh_hooks z (h.root.hk z e)
  have lp := h.root.ps3
  have lk := h.root.kept2
  have lo := h.ops6
  refine ⟨⟨sh_class h.root.name, fun p hp => sh_field (h.root.pf p hp), sk, sh, so, fun o ho p hp => strOk_field (h.root.pf p ((h.sub ho).1 p hp)), by omega, by omega, by omega⟩,
    ⟨h.nd, sh_class h.root.name, fun p hp => sh_field (h.root.pf p hp), sk, sh, so, by omega, by omega, by omega⟩⟩
theorem ops_fine {L : Lib} (h : L.ops.all (mkOk L.hook) = true) : ∀ o ∈ L.ops, MkFine o.maker := fun o ho => by
  have := List.all_eq_true.mp h o ho
  unfold mkOk at this
  rw [Bool.and_eq_true] at this
  exact maker_fine (List.contains_iff_mem.mp this.1)
/-- the law's library with the places of its parts -/
structure LawAt (H : Hp) (a : Addr) (L : Lib) (pp pk pr : Addr) (kts rts : List V) : Prop where
  ha : H a = some (.lst [.str L.name, .ref pp, .ref pk, hookV L.hook, .ref pr])
  hpp : StrsAt H pp L.ps
  hpk : H pk = some (.lst kts)
  hP : PairsAt H kts L.kept
  hpr : H pr = some (.lst rts)
  hR : LRows H rts L.ops
theorem lawAt_of {H : Hp} {a : Addr} {L : Lib} (h : LawLib H a L) : ∃ pp pk pr kts rts, LawAt H a L pp pk pr kts rts := by
  obtain ⟨pp, pk, pr, kts, rts, h1, h2, h3, h4, h5, h6⟩ := h.ex
  exact ⟨pp, pk, pr, kts, rts, h1, h2, h3, h4, h5, h6⟩
section
variable {H H' : Hp} {a b pp pk pr : Addr} {L : Lib} {kts rts : List V}
theorem LawAt.lib (h : LawAt H a L pp pk pr kts rts) : LawLib H a L := ⟨pp, pk, pr, kts, rts, h.ha, h.hpp, h.hpk, h.hP, h.hpr, h.hR⟩
theorem LawAt.same (h : LawAt H a L pp pk pr kts rts) (s : Same H H') : LawAt H' a L pp pk pr kts rts :=
  ⟨s _ _ h.ha, s _ _ h.hpp, s _ _ h.hpk, h.hP.same s, s _ _ h.hpr, h.hR.same s⟩
theorem BagAt.nlst {xs : List V} {p : Addr} (B : BagAt H b) (h : H p = some (.lst xs)) (n : ∀ i : Int, xs[0]? ≠ some (.int i)) : p ≠ b := fun e => by
  obtain ⟨d, m, c, q, _⟩ := B
  rw [e, q] at h
  injection h with h
  injection h with h
  exact n d (by rw [← h]; rfl)
theorem BagAt.nstr {ws : List Str} {p : Addr} (B : BagAt H b) (h : StrsAt H p ws) : p ≠ b := B.nlst h fun i e => by
  rw [List.getElem?_map] at e
  cases q : ws[0]? with
  | none => rw [q] at e; cases e
  | some w => rw [q] at e; injection e with e; cases e
theorem LawAt.keepB (h : LawAt H a L pp pk pr kts rts) (k : Keep b H H') (B : BagAt H b) : LawAt H' a L pp pk pr kts rts := by
  have hT := keepT k B
  refine ⟨k _ _ (B.nlst h.ha fun i e => by injection e with e; cases e) h.ha, k _ _ (B.nstr h.hpp) h.hpp, k _ _ (B.nlst h.hpk fun i e => ?_) h.hpk, h.hP.tups hT, k _ _ (B.nlst h.hpr fun i e => ?_) h.hpr, h.hR.len, fun i o e => ?_⟩
  · have hl : 0 < L.kept.length := by rw [← h.hP.len]; exact (List.getElem?_eq_some_iff.mp e).1
    obtain ⟨t, e2, _⟩ := h.hP.pair 0 _ (List.getElem?_eq_getElem hl)
    rw [e] at e2
    injection e2 with e2
    cases e2
  · have hl : 0 < L.ops.length := by rw [← h.hR.len]; exact (List.getElem?_eq_some_iff.mp e).1
    obtain ⟨t, c, e2, _⟩ := h.hR.row 0 _ (List.getElem?_eq_getElem hl)
    rw [e] at e2
    injection e2 with e2
    cases e2
  · obtain ⟨t, c, z1, z2, z3⟩ := h.hR.row i o e
    exact ⟨t, c, z1, k _ _ (B.nlst z2 fun i e => by injection e with e; cases e) z2, k _ _ (B.nstr z3) z3⟩
end
/-- all but lists is as it was -/
def KeepO (H H' : Hp) : Prop := ∀ a o, H a = some o → (∀ xs, o ≠ .lst xs) → H' a = some o
theorem KeepO.of {H H' : Hp} (s : Same H H') : KeepO H H' := fun a o z _ => s a o z
theorem KeepO.bag {H H' : Hp} {b : Addr} (k : Keep b H H') (B : BagAt H b) : KeepO H H' := fun a o z n => k a o (fun e => by
  obtain ⟨d, m, c, q, _⟩ := B
  rw [e, q] at z
  injection z with z
  exact n _ z.symm) z
theorem KeepO.trans {H H1 H2 : Hp} (x : KeepO H H1) (y : KeepO H1 H2) : KeepO H H2 := fun a o z n => y a o (x a o z n) n
theorem KeepO.sqT {K : Fg} {H H' : Hp} {p : Addr} {xs : List V} (k : KeepO H H') (h : SqT K H p xs) : SqT K H' p xs := by
  rcases h with (h | ⟨o, h⟩) | h
  · exact .inl (.inl (k p _ h fun _ e => by cases e))
  · exact .inl (.inr ⟨o, k p _ h fun _ e => by cases e⟩)
  · exact .inr h
theorem LibAt.keepO {K : Fg} {H H' : Hp} {C a : Addr} {L : Lib} (h : LibAt K H C a L) (k : KeepO H H') : LibAt K H' C a L := by
  obtain ⟨dx, pa, pk, po, psg, pc, pm, ha, R⟩ := h
  obtain ⟨kts, k1, k2⟩ := R.kept
  obtain ⟨ots, o1, o2⟩ := R.ops
  obtain ⟨kvs, c1, c2, c3⟩ := R.chg
  obtain ⟨mvs, m1, m2, m3⟩ := R.mkr
  refine ⟨dx, pa, pk, po, psg, pc, pm, k _ _ ha (fun _ e => by cases e), k.sqT R.ps, ⟨kts, k.sqT k1, k2.tups fun t ys z => k _ _ z fun _ e => by cases e⟩, ⟨ots, k.sqT o1, o2.tups fun t ys z => k _ _ z fun _ e => by cases e⟩, k.sqT R.signs, ⟨kvs, k _ _ c1 (fun _ e => by cases e), c2, fun j p e => ?_⟩, ⟨mvs, k _ _ m1 (fun _ e => by cases e), m2, m3⟩⟩
  obtain ⟨o, c, z1, z2, z3⟩ := c3 j p e
  exact ⟨o, c, z1, z2, k _ _ z3 fun _ e => by cases e⟩
theorem ne_bool (c : Bool) : (!decide (V.bl c = V.bl (if false = true then !c else c))) = false := by
  rw [if_neg Bool.false_ne_true, decide_eq_true rfl]
  rfl

theorem okL_of {L : Lib} (h : LibOk L) : OkL L := fun s hs => by
  obtain ⟨o, ho, rfl⟩ := List.mem_map.mp hs
  exact (h.sign ho).2.ok
theorem lawW_of {L : Lib} (h : LibOk L) : LawW L :=
  ⟨fun p hp => (asc_field (h.root.pf p hp)).ok, fun p hp => let ⟨q1, q2⟩ := kept_fields h.root.ko h.root.pf p hp; ⟨(asc_field q1).ok, (asc_field q2).ok⟩,
    fun o ho p hp => (asc_field (h.root.pf p ((h.sub ho).1 p hp))).ok⟩
theorem withM_set {L : Lib} {j : Nat} {o : Op} {m : Str} (nd : (L.ops.map (·.sign)).Nodup) (e : L.ops[j]? = some o) : withM L o.sign m = setMk L j m := by
  have hj := (List.getElem?_eq_some_iff.mp e).1
  have key : (L.ops.map fun x => if x.sign = o.sign then (⟨x.sign, x.changed, m⟩ : Op) else x) = L.ops.set j ⟨o.sign, o.changed, m⟩ := by
    refine List.ext_getElem? fun i => ?_
    rw [List.getElem?_map]
    by_cases hij : i = j
    · subst hij
      rw [List.getElem?_set_self hj, e]
      show some (if o.sign = o.sign then _ else _) = _
      rw [if_pos rfl]
    · rw [List.getElem?_set_ne (Ne.symm hij)]
      cases q : L.ops[i]? with
      | none => rfl
      | some x =>
        show some (if x.sign = o.sign then _ else _) = _
        rw [if_neg fun z => hij ?_]
        have hi := (List.getElem?_eq_some_iff.mp q).1
        refine (List.getElem?_inj (l := L.ops.map (·.sign)) (by rw [List.length_map]; exact hi) nd).mp ?_
        rw [List.getElem?_map, List.getElem?_map, q, e]
        exact congrArg some z
  unfold withM
  rw [key, ← set_ops (m := m) e]
  rfl
theorem text_inj {L M : Lib} (h1 : LibOk L) (a1 : L.ops.all (mkOk L.hook) = true) (h2 : LibOk M) (a2 : M.ops.all (mkOk M.hook) = true) (e : textM L = textM M) : L = M := by
  have q1 := (read_text h1).1 a1
  have q2 := (read_text h2).1 a2
  rw [e, q2] at q1
  injection q1 with q1
  exact q1.symm
theorem text_eq {L : Lib} {j : Nat} {o : Op} {m : Str} (h : LibOk L) (a : L.ops.all (mkOk L.hook) = true) (e : L.ops[j]? = some o) (h2 : LibOk (setMk L j m)) (a2 : (setMk L j m).ops.all (mkOk (setMk L j m).hook) = true) : (textM (setMk L j m) == textM L) = (m == o.maker) := by
  rw [Bool.eq_iff_iff, beq_iff_eq, beq_iff_eq]
  constructor
  · intro q
    have z := text_inj h2 a2 h a q
    have z2 : (setMk L j m).ops[j]? = some o := by rw [z]; exact e
    rw [set_ops e, List.getElem?_set_self (List.getElem?_eq_some_iff.mp e).1] at z2
    injection z2 with z2
    exact (congrArg Op.maker z2 : m = o.maker)
  · intro q
    have z : setMk L j m = L := by
      have z1 : (setMk L j m).ops = L.ops := by
        rw [set_ops e, q]
        obtain ⟨hj, ho⟩ := List.getElem?_eq_some_iff.mp e
        rw [← ho]
        exact List.set_getElem_self hj
      show (⟨L.name, L.ps, L.kept, L.hook, (setMk L j m).ops⟩ : Lib) = L
      rw [z1]
    rw [z]
/-- a row's maker is exchanged in the law's library -/
theorem LawAt.put {G : Hp} {la pp pk pr t' c : Addr} {L : Lib} {kts rts : List V} {j : Nat} {o : Op} {m : Str} (h : LawAt G la L pp pk pr kts rts) (e : L.ops[j]? = some o) (hc : StrsAt G c o.changed)
    (ht : G t' = some (.lst [.str o.sign, .ref c, .str m, .int (arity o.sign : Nat)])) : LawAt (upd G pr (.lst (rts.set j (.ref t')))) la (setMk L j m) pp pk pr kts (rts.set j (.ref t')) := by
  have hj := (List.getElem?_eq_some_iff.mp e).1
  have h0 : 0 < L.ops.length := Nat.lt_of_le_of_lt (Nat.zero_le _) hj
  obtain ⟨t0, c0, r0, r1, _⟩ := h.hR.row 0 _ (List.getElem?_eq_getElem h0)
  have ne : ∀ {p : Addr} {ys : List V}, G p = some (.lst ys) → (∀ t, ys[0]? ≠ some (.ref t)) → p ≠ pr := fun z n q => by
    rw [q, h.hpr] at z
    injection z with z
    injection z with z
    exact n t0 (z ▸ r0)
  have st : ∀ {p : Addr} {ws : List Str}, StrsAt G p ws → StrsAt (upd G pr (.lst (rts.set j (.ref t')))) p ws := fun z => by
    show upd G pr _ _ = _
    rw [upd_ne (ne z fun t q => by
      rw [List.getElem?_map] at q
      revert q
      cases (_ : List Str)[0]? <;> intro q <;> cases q)]
    exact z
  have npk : pk ≠ pr := fun q => by
    have z := h.hpk
    rw [q, h.hpr] at z
    injection z with z
    injection z with z
    have hl : 0 < L.kept.length := by rw [← h.hP.len, ← z, h.hR.len]; exact h0
    obtain ⟨t, z1, z2⟩ := h.hP.pair 0 _ (List.getElem?_eq_getElem hl)
    rw [← z, r0] at z1
    injection z1 with z1
    injection z1 with z1
    rw [← z1, r1] at z2
    cases z2
  refine ⟨?_, st h.hpp, ?_, h.hP.tups fun t xs z => ?_, upd_same, ⟨?_, fun i q eq => ?_⟩⟩
  · rw [upd_ne (ne h.ha fun t q => by injection q with q; cases q)]
    exact h.ha
  · rw [upd_ne npk]
    exact h.hpk
  · rw [upd_ne fun q => by rw [q, h.hpr] at z; cases z]
    exact z
  · rw [List.length_set, h.hR.len, set_ops e, List.length_set]
  · rw [set_ops e] at eq
    by_cases hij : j = i
    · subst hij
      rw [List.getElem?_set_self hj] at eq
      injection eq with eq
      subst eq
      refine ⟨t', c, List.getElem?_set_self (by rw [h.hR.len]; exact hj), ?_, st hc⟩
      rw [upd_ne (ne ht fun t q => by injection q with q; cases q)]
      exact ht
    · rw [List.getElem?_set_ne hij] at eq
      obtain ⟨t, c', z1, z2, z3⟩ := h.hR.row i q eq
      refine ⟨t, c', by rw [List.getElem?_set_ne hij]; exact z1, ?_, st z3⟩
      rw [upd_ne (ne z2 fun t q => by injection q with q; cases q)]
      exact z2
end K04

namespace K04
open PySem PySem.Spec PyProof.Rows L2 EV TL LM
section
variable {P : Program} {w : World} {K : Fg} {mg : Str → Option Value} {base : Heap}
theorem index_f {L : Lib} {j : Nat} {o : Op} (nd : (L.ops.map (·.sign)).Nodup) (e : L.ops[j]? = some o) :
    ((L.ops.map fun x : Op => x.sign).map V.str)[j]? = some (.str o.sign) ∧ eqV (.str o.sign) (.str o.sign) = true ∧ ∀ (m : Nat) (z' : V), m < j → ((L.ops.map fun x : Op => x.sign).map V.str)[m]? = some z' → eqV z' (.str o.sign) = false := by
  have hs := sign_at e
  refine ⟨by rw [List.getElem?_map, hs]; rfl, beq_self_eq_true o.sign, fun m z' hm hz => ?_⟩
  rw [List.getElem?_map] at hz
  cases e2 : (L.ops.map fun x : Op => x.sign)[m]? with
  | none => rw [e2] at hz; cases hz
  | some s =>
    rw [e2] at hz
    injection hz with hz
    subst hz
    refine beq_eq_false_iff_ne.mpr fun q => ?_
    have lm := (List.getElem?_eq_some_iff.mp e2).1
    have z : (L.ops.map fun x : Op => x.sign)[m]? = (L.ops.map fun x : Op => x.sign)[j]? := by
      rw [e2, hs]
      exact congrArg some q
    have := (List.getElem?_inj (l := L.ops.map fun x : Op => x.sign) lm nd).mp z
    omega
theorem ix_ok {n j : Nat} (h : j < n) : ixN n ((j : Nat) : Int) = some j := by
  unfold ixN
  rw [if_pos (by omega), if_pos (by omega), Int.toNat_natCast]
def tellD (w : Str) (o : Od) : PyData := .tuple [.str w, o.data, .bool true, .bool false]
theorem tell_shaped {w : Str} {o : Od} (h : PyData.strOk w = true) (ho : o.ok) : SeqAt.shaped (tellD w o) = true := by
  obtain ⟨h1, h2⟩ := Od.lay ho
  unfold SeqAt.shaped
  rw [show PyData.canLay0 (tellD w o) = true by
    show (PyData.strOk w && (PyData.canLay0 o.data && (true && (true && true)))) = true
    rw [h, h1]
    rfl, Bool.true_and]
  refine decide_eq_true ?_
  simp only [tellD, PyData.depth, PyData.depthAll]
  omega
theorem dp_tell {K : Fg} {H : Hp} {t : Addr} {w : Str} {o : Od} {y : V} (h : H t = some (.tup [.str w, y, .bl true, .bl false])) (ho : OdAt H y o) : Dp K H (.ref t) (tellD w o) :=
  .tup (SqT.of h) (.cons (.str w) (.cons ho.dp (.cons (.bl true) (.cons (.bl false) .nil))))
theorem tell_dp {K : Fg} {H : Hp} {t : Addr} {w : Str} {o : Od} (h : TellAt H t w o) : Dp K H (.ref t) (tellD w o) := let ⟨_, z1, z2⟩ := h; dp_tell z1 z2
theorem TellAt.same {H H' : Hp} {t : Addr} {w : Str} {o : Od} (h : TellAt H t w o) (s : Same H H') : TellAt H' t w o := let ⟨y, z1, z2⟩ := h; ⟨y, s _ _ z1, z2.same s⟩
theorem ToldAt.same {K : Fg} {C : Addr} {L : Lib} {os om : Od} {v : V} {G G' : Hp} (s : Same G G') : ToldAt K C L os om v G → ToldAt K C L os om v G'
  | .inl ⟨e, t, z1, z2⟩ => .inl ⟨e, t, z1, z2.same s⟩
  | .inr ⟨z, e1, e2, .inl ⟨e3, t, z1, z2⟩⟩ => .inr ⟨z, e1, e2, .inl ⟨e3, t, z1, z2.same s⟩⟩
  | .inr ⟨z, e1, e2, .inr ⟨m, a', e3, e4, e5, lib⟩⟩ => .inr ⟨z, e1, e2, .inr ⟨m, a', e3, e4, e5, LibAt.same s lib⟩⟩
theorem OdAt.keepB {H H' : Hp} {v : V} {b : Addr} (k : Keep b H H') (B : BagAt H b) : ∀ {o : Od}, OdAt H v o → OdAt H' v o
  | .s _, h => h
  | .i _, h => h
  | .n, h => h
  | .b _, h => h
  | .l _, ⟨a, e, h⟩ => ⟨a, e, k _ _ (B.nlst h fun i q => by injection q with q; cases q) h⟩
def spLaw (K : Fg) : Sp := fun vs H Q _ => ∃ (a : Addr) (ns : List Int), vs = [.ref a] ∧ SqL K H a (ns.map V.int) ∧ ns.length ≤ 63 ∧ ∀ H', Q (.bl true) H'
theorem ok_law {f C CB : Addr} {fd : FuncData} (F : Fun K "law" "law" s_law f fd) (T : Cst K mg) (hC : LibC K C) (iL : IsiL K C) (gL : mg "Library" = some (.ref C))
    (O_law_makers : Ok P w K mg base 1 "_law_makers" ["arity", "hooked"] spLawMakers) (O_law_bag : Ok P w K mg base 1 "_law_bag" ["script", "at", "salt"] (spBag K)) (O_law_take : Ok P w K mg base 1 "_law_take" ["bag", "many"] spTake) (O_law_of : Ok P w K mg base 2 "_law_of" ["bag", "some"] spOf)
    (O_law_words : Ok P w K mg base 3 "_law_words" ["bag", "many"] spWords) (O_law_titles : Ok P w K mg base 3 "_law_titles" ["bag", "many"] spTitles) (O_law_library : Ok P w K mg base 3 "_law_library" ["bag", "fields", "name", "most"] spLib)
    (O_law_lines : Ok P w K mg base 1 "_law_lines" ["lib"] spLines) (O_read : OkCM P w K mg base 7 C "read" ["cls", "text"] (spRead K C CB)) (O_str : OkM CX0 P w K mg base 1 C "__str__" ["self"] (spStr K C))
    (O_eq : OkM CX0 P w K mg base 1 C "__eq__" ["self", "other"] (spEq K C)) (O_signs : OkM CX0 P w K mg base 1 C "signs" ["self"] (spSigns K C)) (O_maker_of : OkM CX0 P w K mg base 3 C "maker_of" ["self", "sign"] (spMakerOf K C))
    (O_law_exchanged : Ok P w K mg base 8 "_law_exchanged" ["made", "sign", "maker"] (spExch K C)) (O_law_has : Ok P w K mg base 4 "_law_has" ["told", "lib"] (spLawHas K C)) :
    FnOk P w K mg base CX0 9 f fd ["script"] (spLaw K) := by
  refine F.ok sc_law (fun vs H Q E h => ?_) (fun cdv A outer s H vs Q E hr h => ?_)
  · obtain ⟨a, ns, rfl, _⟩ := h
    rfl
  · obtain ⟨a, ns, rfl, hS, hlen, k⟩ := h
    refine ⟨_, (pss_cons (ps_for PassesOwn.never rfl (pi_range1 rfl T.n_range (pa_cons (pe_callB (call_max2 rfl) (by rfl) T.n_max (by decide +kernel) (pa_cons pe_int (pa_cons (pe_callB (call_min2 rfl) (by rfl) T.n_min (by decide +kernel) (pa_cons pe_int (pa_cons (pe_callB call_len_seq (by rfl) T.n_len (by decide +kernel) (pa_cons (pv 0) pa_nil)) pa_nil))) pa_nil))) pa_nil)) (pg_name (i := 1) sc_law.nd rfl (Or.inl rfl)) (pss_cons (ps_set (i := 2) sc_law.nd rfl (Or.inl rfl) (pe_callO O_law_bag (hr.mono (by decide)) (pa_cons (pv 0) (pa_cons (pv 1) (pa_cons pe_int pa_nil)))))
    (pss_cons (ps_set (i := 3) sc_law.nd rfl (Or.inl rfl) (pe_callO O_law_library (hr.mono (by decide)) (pa_cons (pv 2) (pa_cons (pe_callO O_law_words (hr.mono (by decide)) (pa_cons (pv 2) (pa_cons pe_int pa_nil))) (pa_cons (pe_ix ix_list (pe_callO O_law_titles (hr.mono (by decide)) (pa_cons (pv 2) (pa_cons pe_int pa_nil))) pe_int (fun _ _ => rfl)) (pa_cons pe_int pa_nil))))))
    (pss_cons (ps_set (i := 4) sc_law.nd rfl (Or.inl rfl) (pe_cmethX takes0 (pe_glob (v := .ref C) rfl gL rfl) O_read (hr.mono (by decide)) (pa_cons (pe_join pe_str (pe_callO O_law_lines (hr.mono (by decide)) (pa_cons (pv 3) pa_nil))) pa_nil)))
    (pss_one (ps_for PassesOwn.never rfl (pi_range1 rfl T.n_range (pa_cons (pe_op op_add pe_int (pe_callO O_law_take (hr.mono (by decide)) (pa_cons (pv 2) (pa_cons pe_int pa_nil)))) pa_nil)) (pg_name (i := 5) sc_law.nd rfl (Or.inl rfl)) (pss_cons (ps_setLc (i := 6) (own := [("row", 12)]) rfl sc_law.nd rfl rfl (sw_true rfl rfl rfl (by decide +kernel)) (pi_list (pe_ix ix_list (pv 3) pe_int (fun _ _ => rfl))) (blkOk_by (own := [("row", 12)]) (N := ["script", "at", "bag", "lib", "made", "turn", "signs", "before", "sign", "odd", "maker", "told", "row", "text"]) (sc := defScope s_law) (by decide +kernel)) (fun _ _ _ _ _ => (pg_name (i := 12) sc_law.nd rfl (Or.inl rfl))) (fun _ _ _ _ _ => pts_nil) (fun _ _ _ _ _ => (pe_ix (show IxR _ (rIxL K) from ix_list) (pv 12) pe_int (fun _ _ => rfl))))
    (pss_cons (ps_set (i := 7) sc_law.nd rfl (Or.inl rfl) (pe_callTy (call_strO O_str (hr.mono (by decide))) (by rfl) T.n_str (by decide +kernel) (pa_cons (pv 4) pa_nil)))
    (pss_cons (ps_set (i := 8) sc_law.nd rfl (Or.inl rfl) (pe_callO O_law_of (hr.mono (by decide)) (pa_cons (pv 2) (pa_cons (pe_op op_cat (pv 6) (pe_lst (pa_cons pe_str (pa_cons pe_str (pa_cons pe_str (pa_cons pe_str (pa_cons pe_str (pa_cons pe_str (pa_cons pe_int (pa_cons pe_non (pa_cons (pe_lst (pa_cons pe_str pa_nil)) (pa_cons pe_bl pa_nil)))))))))))) pa_nil))))
    (pss_cons (ps_set (i := 9) sc_law.nd rfl (Or.inl rfl) (pe_lst (pa_cons pe_str (pa_cons pe_str (pa_cons pe_str (pa_cons pe_str (pa_cons pe_str (pa_cons pe_int (pa_cons pe_non (pa_cons (pe_lst (pa_cons pe_str pa_nil)) pa_nil))))))))))
    (pss_cons (ps_set (i := 10) sc_law.nd rfl (Or.inl rfl) (pe_callO O_law_of (hr.mono (by decide)) (pa_cons (pv 2) (pa_cons (pe_op op_cat (pe_callO O_law_makers (hr.mono (by decide)) (pa_cons pe_int (pa_cons pe_str pa_nil))) (pv 9)) pa_nil))))
    (pss_cons (ps_set (i := 11) sc_law.nd rfl (Or.inl rfl) (pe_callO O_law_exchanged (hr.mono (by decide)) (pa_cons (pv 4) (pa_cons (pv 8) (pa_cons (pv 10) pa_nil)))))
    (pss_cons (ps_if (PW.pt (pw_or (pt_cmpR op_ne (pe_callTy (call_strO O_str (hr.mono (by decide))) (by rfl) T.n_str (by decide +kernel) (pa_cons (pv 4) pa_nil)) (pv 7) (nomark _)) (pw_or1 (pt_not (pt_val (pe_callO O_law_has (hr.mono (by decide)) (pa_cons (pv 4) (pa_cons (pv 3) pa_nil)))))))) (pss_one (ps_ret pe_bl)) pss_nil)
    (pss_cons (ps_if (pt_cmpR (op_notInD (units65 hr)) (pv 8) (pv 6) (by rfl)) (pss_cons (ps_if (pt_cmpR (op_neD hr.units) (pv 11) (pe_tup (pa_cons pe_str (pa_cons (pv 8) (pa_cons pe_bl (pa_cons pe_bl pa_nil))))) (nomark _)) (pss_one (ps_ret pe_bl)) pss_nil)
    (pss_one ps_continue)) pss_nil)
    (pss_cons (ps_set (i := 12) sc_law.nd rfl (Or.inl rfl) (pe_ix ix_list (pe_ix ix_list (pv 3) pe_int (fun _ _ => rfl)) (pe_bm PySem.F.plainAttrs_list PySem.F.slot_list_index PySem.F.type_list_index mt_index (pv 6) (pa_cons (pv 8) pa_nil)) (fun _ _ => rfl)))
    (pss_cons (ps_if (pt_cmpR (op_notInD (units65 hr)) (pv 10) (pe_callO O_law_makers (hr.mono (by decide)) (pa_cons (pe_ix ix_list (pv 12) pe_int (fun _ _ => rfl)) (pa_cons (pe_ix ix_list (pv 3) pe_int (fun _ _ => rfl)) pa_nil))) (by rfl)) (pss_cons (ps_if (pt_cmpR (op_neD hr.units) (pv 11) (pe_tup (pa_cons pe_str (pa_cons (pv 10) (pa_cons pe_bl (pa_cons pe_bl pa_nil))))) (nomark _)) (pss_one (ps_ret pe_bl)) pss_nil)
    (pss_one ps_continue)) pss_nil)
    (pss_cons (ps_asg (pe_lst (pa_cons (pv 8) (pa_cons (pe_ix ix_list (pv 12) pe_int (fun _ _ => rfl)) (pa_cons (pv 10) (pa_cons (pe_ix ix_list (pv 12) pe_int (fun _ _ => rfl)) pa_nil))))) (pg_sub (pe_ix ix_list (pv 3) pe_int (fun _ _ => rfl)) (pe_bm PySem.F.plainAttrs_list PySem.F.slot_list_index PySem.F.type_list_index mt_index (pv 6) (pa_cons (pv 8) pa_nil)) set_list))
    (pss_cons (ps_set (i := 13) sc_law.nd rfl (Or.inl rfl) (pe_join pe_str (pe_callO O_law_lines (hr.mono (by decide)) (pa_cons (pv 3) pa_nil))))
    (pss_cons (ps_if (PW.pt (pw_or (pt_not (pt_val (pe_callB call_isi (by rfl) T.n_isinstance (by decide +kernel) (pa_cons (pv 11) (pa_cons (pe_glob (v := .ref C) rfl gL rfl) pa_nil))))) (pw_or (pt_cmpR op_ne (pe_callTy (call_strO O_str (hr.mono (by decide))) (by rfl) T.n_str (by decide +kernel) (pa_cons (pv 11) pa_nil)) (pv 13) (nomark _)) (pw_or1 (pt_cmpR op_ne (pe_methO (pv 11) hC.cls O_maker_of (hr.mono (by decide)) (pa_cons (pv 8) pa_nil)) (pv 10) (nomark _)))))) (pss_one (ps_ret pe_bl)) pss_nil)
    (pss_cons (ps_if (PW.pt (pw_or (pt_cmpR op_ne (pe_cmpR (op_eqO O_eq (hr.mono (by decide))) (pv 11) (pv 4) (nomark _)) (pe_cmpR op_eq (pv 10) (pe_ix ix_list (pv 12) pe_int (fun _ _ => rfl)) (nomark _)) (nomark _)) (pw_or (pt_not (pt_val (pe_callO O_law_has (hr.mono (by decide)) (pa_cons (pv 11) (pa_cons (pv 3) pa_nil))))) (pw_or1 (pt_cmpR (op_neD hr.units) (pe_methO0 (pv 11) hC.cls O_signs (hr.mono (by decide))) (pv 6) (nomark _)))))) (pss_one (ps_ret pe_bl)) pss_nil)
    (pss_one (ps_set (i := 4) sc_law.nd rfl (Or.inl rfl) (pe_mid (pe_ifExp (pt_cmpR op_gt (pe_callO O_law_take (hr.mono (by decide)) (pa_cons (pv 2) (pa_cons pe_int pa_nil))) pe_int (nomark _)) (pv 11) (pe_cmethX takes0 (pe_glob (v := .ref C) rfl gL rfl) O_read (hr.mono (by decide)) (pa_cons (pe_callTy (call_strO O_str (hr.mono (by decide))) (by rfl) T.n_str (by decide +kernel) (pa_cons (pv 11) pa_nil)) pa_nil))))))))))))))))))))))))))
    (pss_one (ps_ret pe_bl))), ?_⟩
    obtain ⟨oh, sa0, sq, nr⟩ : ∃ oh : Option HO, (∀ o, oh = some o → H a = some o) ∧ (∀ G : Hp, (∀ o, oh = some o → G a = some o) → SqL K G a (ns.map V.int)) ∧ ∀ r, oh = some (.lst r) → ∀ t, r[0]? ≠ some (V.ref t) := by
      rcases hS with (h | ⟨u, h⟩) | h
      · refine ⟨some _, fun o e => by injection e with e; exact e ▸ h, fun G k => .inl (.inl (k _ rfl)), fun r e t q => ?_⟩
        injection e with e
        injection e with e
        rw [← e, List.getElem?_map] at q
        cases z : ns[0]? with
        | none => rw [z] at q; cases q
        | some i => rw [z] at q; injection q with q; cases q
      · exact ⟨some _, fun o e => by injection e with e; exact e ▸ h, fun G k => .inl (.inr ⟨u, k _ rfl⟩), fun r e => by injection e with e; cases e⟩
      · exact ⟨none, (fun o e => by cases e), (fun G _ => .inr h), (fun r e => by cases e)⟩
    have hN : ∀ m : Int, m = (if (ns.map V.int).length < (4 : Int) then ((ns.map V.int).length : Int) else 4) → 1 ≤ (if m > 1 then m else 1) ∧ (if m > 1 then m else 1) ≤ 4 := fun m hm => by
      have q : m ≤ 4 := by rw [hm]; split <;> omega
      split <;> omega
    obtain ⟨n1, n4⟩ := hN _ rfl
    refine ⟨_, rfl, a, _, rfl, .inl hS, _, _, rfl, _, _, rfl, _, rfl, by omega, by omega, ?_⟩
    refine for_range (lo := 0) (fun i σ G => (∀ o, oh = some o → G a = some o) ∧ ∃ u1 u2 u3 u4 u5 u6 u7 u8 u9 u10 u11 u12 u13 : Option V, σ = [some (.ref a), u1, u2, u3, u4, u5, u6, u7, u8, u9, u10, u11, u12, u13]) ⟨sa0, ⟨_, _, _, _, _, _, _, _, _, _, _, _, _, rfl⟩⟩ ?_ ?_
    · rintro i σ G hi ⟨S0, u1, u2, u3, u4, u5, u6, u7, u8, u9, u10, u11, u12, u13, rfl⟩
      refine ⟨_, rfl, _, rfl, a, ns, i, 3571, by simp, sq G S0, by omega, by decide, fun b G1 nb S1 B1 => ?_⟩
      have nba : ∀ o, oh = some o → a ≠ b := fun o e q => by
        have z := S0 o e
        rw [q, nb] at z
        cases z
      refine ⟨_, rfl, _, rfl, b, 5, rfl, B1, by decide, fun fl ws G2 k2 B2 nfl flb hfl lws ndw fw => ⟨_, rfl, b, 1, rfl, B2, by decide, fun tlp ts G3 k3 B3 ntl tlb htl lts ndt ft => ?_⟩⟩
      obtain ⟨name, ets⟩ : ∃ name, ts = [name] := by
        match ts, lts with
        | [x], _ => exact ⟨x, rfl⟩
      subst ets
      have nfa : ∀ o, oh = some o → a ≠ fl := fun o e q => by
        have z := S1 _ _ (S0 o e)
        rw [q, nfl] at z
        cases z
      refine ⟨tlp, _, ((0 : Nat) : Int), _, rfl, rfl, SqL.of htl, at_str (r := [name]) rfl, b, fl, name, 6, ws, rfl, B3, k3 _ _ flb hfl, flb, by omega, by omega, ndw, fw, ft name (List.mem_singleton.mpr rfl), by decide, by decide, fun la L rest G4 k4 B4 hfl4 nla hLL okL allL _ _ => ?_⟩
      have S4 : ∀ o, oh = some o → G4 a = some o := fun o e => k4 a o (nba o e) (nfa o e) (k3 a o (nba o e) (k2 a o (nba o e) (S1 _ _ (S0 o e))))
      clear hfl4 k4 htl hfl k3 k2
      have mf := ops_fine allL
      obtain ⟨sh1, sh2⟩ := lawShort_of okL mf
      obtain ⟨ln1, ln2⟩ := okL.lines mf
      obtain ⟨tx1, tx2⟩ := okL.text mf
      obtain ⟨pp, pk, pr, kts, rts, hA⟩ := lawAt_of hLL
      refine ⟨rfl, ⟨_, rfl⟩, _, rfl, la, L, rfl, hLL, sh1, fun p G5 s5 np hp => ⟨_, p, linesM L, rfl, rfl, .inl (SqL.of hp), ?_, ?_⟩⟩
      · have q := sum_short (b := 200) fun w hw => (ln1 w hw).1
        have : (linesM L).length * 200 ≤ 13 * 200 := Nat.mul_le_mul_right _ ln2
        rw [n_lib.2.2.2.2.2.2.2.2.2]
        omega
      rw [join_eq]
      refine ⟨textM L, rfl, tx1, tx2, fun z e => ?_, fun L' e' am G6 s6 nam hLib => ?_⟩
      · rw [(read_text okL).1 allL] at e
        cases e
      rw [(read_text okL).1 allL] at e'
      obtain rfl : L = L' := by injection e'
      have S6 : ∀ o, oh = some o → G6 a = some o := fun o e => s6 _ _ (s5 _ _ (S4 o e))
      have B6 : BagAt G6 b := (B4.same s5).same s6
      have hA6 := (hA.same s5).same s6
      clear hA hLL mf sh1 sh2 ln1 ln2 tx1 tx2 S4 B4 hp s5 s6
      refine ⟨_, rfl, b, 6, rfl, B6, by decide, by decide, fun r G7 r0 r1 k7 B7 => ⟨_, _, rfl, rfl, 1 + r, rfl, by omega, by omega, ?_⟩⟩
      refine for_range (lo := 0) (fun i' σ G => (∀ o, oh = some o → G a = some o) ∧ BagAt G b ∧ ∃ (am : Addr) (L : Lib) (pp pk pr : Addr) (kts rts : List V), LawAt G la L pp pk pr kts rts ∧ LibOk L ∧ L.ops.all (mkOk L.hook) = true ∧ LibAt K G C am L ∧
          ∃ u5 u6 u7 u8 u9 u10 u11 u12 u13 : Option V, σ = [some (.ref a), some (.int (0 + (i : Int))), some (.ref b), some (.ref la), some (.ref am), u5, u6, u7, u8, u9, u10, u11, u12, u13])
        ⟨fun o e => k7 _ _ (nba o e) (S6 o e), B7, am, L, pp, pk, pr, kts, rts, hA6.keepB k7 B6, okL, allL, hLib.keepO (KeepO.bag k7 B6), ⟨_, _, _, _, _, _, _, _, _, rfl⟩⟩ ?_ ?_
      · clear hA6 okL allL hLib S6 B6 k7 B7
        rintro j σ G hj ⟨SG, BG, am, L, pp, pk, pr, kts, rts, AG, okL, allL, LG, v5, v6, v7, v8, v9, v10, v11, v12, v13, rfl⟩
        have ops6 := okL.ops6
        have mf := ops_fine allL
        obtain ⟨sh1, sh2⟩ := lawShort_of okL mf
        have nd := okL.nd
        -- signs
        refine ⟨_, rfl, la, _, ((4 : Nat) : Int), _, rfl, rfl, SqL.of AG.ha, atI_nat (j := 4) rfl, pr, rfl, ⟨_, SqL.of AG.hpr⟩, fun D1 nD1 => ?_⟩
        refine lc_fm (walk_list (xs := rts)) (fun i => L.ops[i]?.map fun o => V.str o.sign) nD1 (by rw [AG.hR.len]; omega) (fun _ s => SqL.of (s _ _ AG.hpr)) ?_ ?_
        · rintro i x G0 G' NT NE hi sg ⟨rfl, hx⟩ w0 w1
          have hi2 : i < L.ops.length := by
            rw [← AG.hR.len]
            exact (List.getElem?_eq_some_iff.mp hx).1
          obtain ⟨t, c, z1, z2, z3⟩ := AG.hR.row i _ (List.getElem?_eq_getElem hi2)
          rw [hx] at z1
          cases z1
          refine ⟨rfl, _, rfl, t, _, ((0 : Nat) : Int), _, rfl, rfl, SqL.of (sg _ _ z2), atI_nat (j := 0) rfl, w1 _ _ ?_ (Same.refl _)⟩
          show L.ops[i]?.map _ = _
          rw [List.getElem?_eq_getElem hi2]
          rfl
        intro H1 t1 hD1
        rw [gath_map L.ops _ AG.hR.len] at hD1
        have hsg : StrsAt H1 D1 (L.ops.map (·.sign)) := by
          show H1 D1 = _
          rw [hD1, List.map_map]
          rfl
        have LG1 := LG.keepO (KeepO.of t1)
        obtain ⟨dx, qa, qk, qo, qs, qc, qm, ham, RR⟩ := id LG1
        -- before
        refine ⟨_, rfl, am, dx, _, rfl, ham, am, L, rfl, LG1, _, rfl, ?_⟩
        -- the sign
        refine ⟨_, rfl, _, rfl, by show 1 ≤ sizeLine; decide, fun l1 n1' => ⟨by show 10 ≤ sizeLine; decide, fun l2 n2' => ?_⟩⟩
        refine ⟨D1, l2, _, _, rfl, rfl, same_upd n2' _ _ (same_upd n1' _ _ hsg), upd_same, by rw [List.length_map, List.length_map, sizeLine_eq]; show L.ops.length + 10 ≤ _; omega, fun l3 n3' => ?_⟩
        have c3 := fun (o : HO) => ((same_upd n1').trans (same_upd n2')).trans (same_upd (o := o) n3')
        refine ⟨b, l3, _, rfl, (BG.same t1).same (c3 _), upd_same, ((BG.same t1).same ((same_upd n1').trans (same_upd n2'))).ne n3', by rw [List.length_append]; show 0 < _ + 10; omega, by rw [List.length_append, List.length_map, List.length_map]; show L.ops.length + 10 ≤ 1000; omega, fun x8 G8 hx8 kx8 B8 => ?_⟩
        have k8 : Keep b H1 G8 := (Keep.of (c3 _)).trans kx8
        obtain ⟨os, hos, oko⟩ : ∃ os, OdAt G8 x8 os ∧ os.ok := by
          rcases List.mem_append.mp hx8 with hx | hx
          · obtain ⟨z, hz, rfl⟩ := List.mem_map.mp hx
            exact ⟨.s z, rfl, okL_of okL z hz⟩
          · have st : ∀ z : Str, PyData.strOk z = true → V.str z = x8 → ∃ os, OdAt G8 x8 os ∧ os.ok := fun z h e => ⟨.s z, e.symm, h⟩
            simp only [List.mem_cons, List.not_mem_nil, or_false] at hx
            rcases hx with rfl | rfl | rfl | rfl | rfl | rfl | rfl | rfl | rfl | rfl
            · exact st _ (by decide +kernel) rfl
            · exact st _ (by decide +kernel) rfl
            · exact st _ (by decide +kernel) rfl
            · exact st _ (by decide +kernel) rfl
            · exact st _ (by decide +kernel) rfl
            · exact st _ (by decide +kernel) rfl
            · exact ⟨.i 3, rfl, trivial⟩
            · exact ⟨.n, rfl, trivial⟩
            · refine ⟨.l "+", ⟨l1, rfl, kx8 _ _ ((BG.same t1).ne n1') (same_upd n3' _ _ (same_upd n2' _ _ upd_same))⟩, by show PyData.strOk "+" = true; decide +kernel⟩
            · exact ⟨.b true, rfl, trivial⟩
        have hsg8 : StrsAt G8 D1 (L.ops.map (·.sign)) := k8 _ _ ((BG.same t1).nstr hsg) hsg
        have S8 : ∀ o, oh = some o → G8 a = some o := fun o e => k8 _ _ (nba o e) (t1 _ _ (SG o e))
        have A8 := (AG.same t1).keepB k8 (BG.same t1)
        have L8 := LG1.keepO (KeepO.bag k8 (BG.same t1))
        clear hx8 kx8 k8 c3 RR ham hD1
        -- the maker
        refine ⟨by show 1 ≤ sizeLine; decide, fun l4 n4' => ⟨by show 8 ≤ sizeLine; decide, fun l5 n5' => ?_⟩⟩
        have c5 := fun (o : HO) => (same_upd n4').trans (same_upd (o := o) n5')
        refine ⟨_, rfl, 2, some "call", rfl, by decide, fun p9 G9 s9 np9 hp9 => ⟨_, rfl, p9, l5, _, _, rfl, rfl, hp9, s9 _ _ upd_same, ?_, fun l6 n6 => ?_⟩⟩
        · have := (allowed_len 2 true).2
          rw [List.length_map, sizeLine_eq]
          show (allowed 2 true).length + 8 ≤ _
          omega
        refine ⟨b, l6, _, rfl, ((B8.same (c5 _)).same s9).same (same_upd n6), upd_same, ((B8.same (c5 _)).same s9).ne n6, by rw [List.length_append]; show 0 < _ + 8; omega, ?_, fun x10 G10 hx10 kx10 B10 => ?_⟩
        · have := (allowed_len 2 true).2
          rw [List.length_append, List.length_map]
          show (allowed 2 true).length + 8 ≤ _
          omega
        have k10 : Keep b G8 G10 := (Keep.of (((c5 _).trans s9).trans (same_upd n6))).trans kx10
        obtain ⟨om, hom, okm, smm⟩ : ∃ om, OdAt G10 x10 om ∧ om.ok ∧ ∀ m, om = .s m → Short m ∧ NoNl m := by
          rcases List.mem_append.mp hx10 with hx | hx
          · obtain ⟨z, hz, rfl⟩ := List.mem_map.mp hx
            have q := maker_fine (allowed_mk hz).1
            exact ⟨.s z, rfl, q.asc.ok, fun m e => by injection e with e; subst e; exact ⟨Nat.le_trans q.len (by decide), q.nl⟩⟩
          · have st : ∀ z : Str, (PyData.strOk z = true ∧ z.length ≤ 100 ∧ 10 ∉ tl z) → V.str z = x10 → ∃ om, OdAt G10 x10 om ∧ om.ok ∧ ∀ m, om = .s m → Short m ∧ NoNl m := fun z h e =>
              ⟨.s z, e.symm, h.1, fun m q => by injection q with q; subst q; exact ⟨Nat.le_trans h.2.1 (by decide), h.2.2⟩⟩
            simp only [List.mem_cons, List.not_mem_nil, or_false] at hx
            rcases hx with rfl | rfl | rfl | rfl | rfl | rfl | rfl | rfl
            · exact st _ (by decide +kernel) rfl
            · exact st _ (by decide +kernel) rfl
            · exact st _ (by decide +kernel) rfl
            · exact st _ (by decide +kernel) rfl
            · exact st _ (by decide +kernel) rfl
            · exact ⟨.i 1, rfl, trivial, fun m q => by cases q⟩
            · exact ⟨.n, rfl, trivial, fun m q => by cases q⟩
            · exact ⟨.l "named", ⟨l4, rfl, kx10 _ _ (B8.ne n4') (same_upd n6 _ _ (s9 _ _ (same_upd n5' _ _ upd_same)))⟩, by show PyData.strOk "named" = true; decide +kernel, fun m q => by cases q⟩
        have hos10 : OdAt G10 x8 os := OdAt.keepB k10 B8 hos
        have hsg10 : StrsAt G10 D1 (L.ops.map (·.sign)) := k10 _ _ (B8.nstr hsg8) hsg8
        have S10 : ∀ o, oh = some o → G10 a = some o := fun o e => k10 _ _ (nba o e) (S8 o e)
        have A10 := A8.keepB k10 B8
        have L10 := L8.keepO (KeepO.bag k10 B8)
        clear hx10 kx10 k10 c5 s9 hp9 hos hsg8 S8 A8 L8
        -- the exchange
        refine ⟨_, rfl, _, rfl, _, rfl, am, L, x8, x10, os, om, rfl, L10, sh2, okL_of okL, hos10, oko, hom, okm, (fun m e => (smm m e).1), fun x11 G11 s11 told => ?_⟩
        have hos11 := hos10.same s11
        have hom11 := hom.same s11
        have hsg11 : StrsAt G11 D1 (L.ops.map (·.sign)) := s11 _ _ hsg10
        have S11 : ∀ o, oh = some o → G11 a = some o := fun o e => s11 _ _ (S10 o e)
        have A11 := A10.same s11
        have L11 := L10.keepO (KeepO.of s11)
        have B11 := B10.same s11
        clear hos10 hom hsg10 S10 A10 L10 B10
        obtain ⟨dx, qa, qk, qo, qs, qc, qm, ham, RR⟩ := id L11
        refine ⟨_, rfl, am, dx, _, rfl, ham, am, L, rfl, L11, _, rfl, _, rfl, rfl, _, rfl, ?_⟩
        rw [decide_eq_true rfl]
        refine iteF ⟨_, rfl, _, rfl, am, la, L, rfl, L11, A11.lib, nd, lawW_of okL, fun G12 s12 => ⟨_, rfl, iteF ?_⟩⟩
        have hos12 := hos11.same s12
        have hom12 := hom11.same s12
        have hsg12 : StrsAt G12 D1 (L.ops.map (·.sign)) := s12 _ _ hsg11
        have S12 : ∀ o, oh = some o → G12 a = some o := fun o e => s12 _ _ (S11 o e)
        have A12 := A11.same s12
        have L12 := L11.keepO (KeepO.of s12)
        have B12 := B11.same s12
        have T12 := told.same s12
        clear hos11 hom11 hsg11 S11 A11 L11 B11 told ham RR s11 s12
        refine ⟨_, rfl, _, rfl, os.data, (L.ops.map fun o : Op => o.sign).map PyData.str, hos12.dp, .lst (SqL.of hsg12) (dp_all _), Od.shaped oko, lst_shaped (okL_of okL), _, rfl, ?_⟩
        rw [any_strs]
        rcases T12 with ⟨e1, t, rfl, tell⟩ | ⟨z, rfl, e1, T12⟩
        · -- a sign that is not there
          rw [e1]
          refine iteT ⟨_, rfl, _, rfl, by show 4 ≤ sizeLine; decide, fun t2 nt2 => ne_same (tell_dp (tell.same (same_upd nt2))) (dp_tell upd_same (hos12.same (same_upd nt2))) (tell_shaped (by decide +kernel) oko) ⟨_, rfl, iteF ?_⟩⟩
          have s2 := same_upd (o := .tup [V.str "sign", x8, .bl true, .bl false]) nt2
          exact ⟨fun o e => s2 _ _ (S12 o e), B12.same s2, am, L, pp, pk, pr, kts, rts, A12.same s2, okL, allL, L12.keepO (KeepO.of s2), ⟨_, _, _, _, _, _, _, _, _, rfl⟩⟩
        · have e1' : inO (L.ops.map fun o : Op => o.sign) (.s z) = true := e1
          rw [e1']
          refine iteF ?_
          obtain rfl : x8 = V.str z := hos12
          obtain ⟨o, omem, rfl⟩ := List.mem_map.mp (List.contains_iff_mem.mp e1)
          obtain ⟨j0, hj0, eo⟩ := List.mem_iff_getElem.mp omem
          have eo : L.ops[j0]? = some o := by rw [← eo]; exact List.getElem?_eq_getElem hj0
          obtain ⟨tr, c, hr1, hrow, hch⟩ := A12.hR.row j0 _ eo
          obtain ⟨ix1, ix2, ix3⟩ := index_f nd eo
          refine ⟨_, rfl, la, _, ((4 : Nat) : Int), _, rfl, rfl, SqL.of A12.ha, atI_nat (j := 4) rfl, _, rfl, .inl ⟨rfl, _, SqL.of hsg12⟩, _, rfl, D1, _, _, j0, _, rfl, rfl, SqL.of hsg12, rfl, flat_strs _, ix1, ix2, ix3, pr, rts, ((j0 : Nat) : Int), _, rfl, rfl, SqL.of A12.hpr, atI_nat hr1, ?_⟩
          refine ⟨_, rfl, _, rfl, tr, _, ((3 : Nat) : Int), _, rfl, rfl, SqL.of hrow, atI_nat (j := 3) rfl, _, rfl, la, _, ((3 : Nat) : Int), _, rfl, rfl, SqL.of A12.ha, atI_nat (j := 3) rfl, arity o.sign, L.hook, rfl, arity_le _, fun p13 G13 s13 np13 hp13 => ?_⟩
          refine ⟨om.data, (allowed (arity o.sign) L.hook.isSome).map PyData.str, (hom12.same s13).dp, .lst (SqL.of hp13) (dp_all _), Od.shaped okm, lst_shaped (allowed_okw _ _), _, rfl, ?_⟩
          rw [any_strs]
          have hsg13 : StrsAt G13 D1 (L.ops.map (·.sign)) := s13 _ _ hsg12
          have S13 : ∀ o, oh = some o → G13 a = some o := fun o e => s13 _ _ (S12 o e)
          have A13 := A12.same s13
          have L13 := L12.keepO (KeepO.of s13)
          have B13 := B12.same s13
          have hrow13 := s13 _ _ hrow
          have hch13 : StrsAt G13 c o.changed := s13 _ _ hch
          rcases T12 with ⟨e2, t, rfl, tell⟩ | ⟨m, a', rfl, e2, rfl, lib⟩
          · -- a maker that is not allowed
            rw [e2]
            have hom13 := hom12.same s13
            refine iteT ⟨_, rfl, _, rfl, by show 4 ≤ sizeLine; decide, fun t2 nt2 => ne_same (tell_dp ((tell.same s13).same (same_upd nt2))) (dp_tell upd_same (hom13.same (same_upd nt2))) (tell_shaped (by decide +kernel) okm) ⟨_, rfl, iteF ?_⟩⟩
            have s2 := same_upd (o := .tup [V.str "maker", x10, .bl true, .bl false]) nt2
            exact ⟨fun o e => s2 _ _ (S13 o e), B13.same s2, am, L, pp, pk, pr, kts, rts, A13.same s2, okL, allL, L13.keepO (KeepO.of s2), ⟨_, _, _, _, _, _, _, _, _, rfl⟩⟩
          · have e2' : inO (allowed (arity o.sign) L.hook.isSome) (.s m) = true := e2
            rw [e2']
            refine iteF ?_
            obtain rfl : x10 = V.str m := hom12
            have lib13 := LibAt.same s13 lib
            rw [withM_set nd eo] at lib13
            have okN := set_ok okL eo (smm m rfl).2
            have allN : (setMk L j0 m).ops.all (mkOk (setMk L j0 m).hook) = true := by
              rw [set_all eo allL, ← allow_mk]
              exact e2
            have mfN := ops_fine allN
            obtain ⟨shN, _⟩ := lawShort_of okN mfN
            obtain ⟨lnN1, lnN2⟩ := okN.lines mfN
            obtain ⟨txN1, txN2⟩ := okN.text mfN
            have eoN : (setMk L j0 m).ops[j0]? = some ⟨o.sign, o.changed, m⟩ := by rw [set_ops eo, List.getElem?_set_self hj0]
            have esN : (setMk L j0 m).ops.map (·.sign) = L.ops.map (·.sign) := by
              rw [← withM_set nd eo]
              exact with_signs L _ _
            -- the exchange in the law's own library
            refine ⟨_, rfl, _, rfl, tr, _, ((1 : Nat) : Int), _, rfl, rfl, SqL.of hrow13, atI_nat (j := 1) rfl, _, rfl, _, rfl, tr, _, ((3 : Nat) : Int), _, rfl, rfl, SqL.of hrow13, atI_nat (j := 3) rfl, by show 4 ≤ sizeLine; decide, fun t' nt' => ?_⟩
            have s14 := same_upd (o := .lst [V.str o.sign, .ref c, .str m, .int (arity o.sign : Nat)]) nt'
            have A14 := A13.same s14
            have hsg14 := s14 _ _ hsg13
            refine ⟨_, rfl, la, _, ((4 : Nat) : Int), _, rfl, rfl, SqL.of A14.ha, atI_nat (j := 4) rfl, _, rfl, .inl ⟨rfl, _, SqL.of hsg14⟩, _, rfl, D1, _, _, j0, _, rfl, rfl, SqL.of hsg14, rfl, flat_strs _, ix1, ix2, ix3, pr, rts, ((j0 : Nat) : Int), j0, rfl, rfl, A14.hpr, ix_ok (by rw [A14.hR.len]; exact hj0), ?_⟩
            have A15 := A14.put (m := m) (t' := t') eo (s14 _ _ hch13) upd_same
            obtain ⟨t0, c0, rt0, _, _⟩ := A14.hR.row 0 _ (List.getElem?_eq_getElem (Nat.lt_of_le_of_lt (Nat.zero_le _) hj0))
            have ne : ∀ {p : Addr} {ys : List V}, upd G13 t' (.lst [V.str o.sign, .ref c, .str m, .int (arity o.sign : Nat)]) p = some (.lst ys) → (∀ t, ys[0]? ≠ some (.ref t)) → p ≠ pr := fun z n q => by
              rw [q, A14.hpr] at z
              injection z with z
              injection z with z
              exact n t0 (z ▸ rt0)
            have prb : pr ≠ b := (B13.same s14).nlst A14.hpr fun i e => by rw [rt0] at e; injection e with e; cases e
            have hsg15 : StrsAt (upd (upd G13 t' (.lst [V.str o.sign, .ref c, .str m, .int (arity o.sign : Nat)])) pr (.lst (rts.set j0 (.ref t')))) D1 (L.ops.map (·.sign)) := by
              show upd _ pr _ D1 = _
              rw [upd_ne (ne hsg14 fun t q => by
                rw [List.getElem?_map] at q
                revert q
                cases (L.ops.map fun x : Op => x.sign)[0]? <;> intro q <;> cases q)]
              exact hsg14
            have hrow15 : upd (upd G13 t' (.lst [V.str o.sign, .ref c, .str m, .int (arity o.sign : Nat)])) pr (.lst (rts.set j0 (.ref t'))) tr = some (.lst [.str o.sign, .ref c, .str o.maker, .int (arity o.sign : Nat)]) := by
              rw [upd_ne (ne (s14 _ _ hrow13) fun t q => by injection q with q; cases q)]
              exact s14 _ _ hrow13
            have S15 : ∀ u, oh = some u → upd (upd G13 t' (.lst [V.str o.sign, .ref c, .str m, .int (arity o.sign : Nat)])) pr (.lst (rts.set j0 (.ref t'))) a = some u := fun u e => by
              have z := s14 _ _ (S13 u e)
              rw [upd_ne fun q => by
                rw [q, A14.hpr] at z
                injection z with z
                exact nr rts (by rw [e, ← z]) t0 rt0]
              exact z
            have B15 : BagAt (upd (upd G13 t' (.lst [V.str o.sign, .ref c, .str m, .int (arity o.sign : Nat)])) pr (.lst (rts.set j0 (.ref t')))) b := (B13.same s14).upd prb
            have lib15 := (LibAt.same s14 lib13).keepO (KeepN.put (o := .lst (rts.set j0 (.ref t'))) A14.hpr)
            have L15 := (LibAt.same s14 L13).keepO (KeepN.put (o := .lst (rts.set j0 (.ref t'))) A14.hpr)
            clear ne prb hsg14 A14 s14 L13 lib13 lib S13 B13 A13 hsg13 S12 A12 L12 B12 hsg12 hrow hch hrow13 hch13 hp13 s13
            generalize upd (upd G13 t' (.lst [V.str o.sign, .ref c, .str m, .int (arity o.sign : Nat)])) pr (.lst (rts.set j0 (.ref t'))) = G15 at A15 hsg15 hrow15 S15 B15 lib15 L15
            refine ⟨⟨_, rfl⟩, _, rfl, la, _, rfl, A15.lib, shN, fun p16 G16 s16 np16 hp16 => ⟨_, p16, linesM (setMk L j0 m), rfl, rfl, .inl (SqL.of hp16), ?_, ?_⟩⟩
            · have q := sum_short (b := 200) fun w hw => (lnN1 w hw).1
              have : (linesM (setMk L j0 m)).length * 200 ≤ 13 * 200 := Nat.mul_le_mul_right _ lnN2
              rw [n_lib.2.2.2.2.2.2.2.2.2]
              omega
            rw [join_eq]
            change gName 13 (V.str (textM (setMk L j0 m))) _ _ _
            have A16 := A15.same s16
            have hsg16 : StrsAt G16 D1 (L.ops.map (·.sign)) := s16 _ _ hsg15
            have hrow16 := s16 _ _ hrow15
            have S16 : ∀ o, oh = some o → G16 a = some o := fun o e => s16 _ _ (S15 o e)
            have B16 := B15.same s16
            have lib16 := LibAt.same s16 lib15
            have L16 := LibAt.same s16 L15
            clear A15 hsg15 hrow15 S15 B15 lib15 L15 hp16
            obtain ⟨dn, na1, na2, na3, na4, na5, na6, haN, RN⟩ := id lib16
            obtain ⟨dx, qa, qk, qo, qs, qc, qm, ham, RR⟩ := id L16
            refine ⟨_, rfl, _, _, _, _, true, rfl, .own C, iL.tyx hC.cls haN, kit_self, _, rfl, iteF ?_⟩
            refine ⟨_, rfl, a', dn, _, rfl, haN, a', _, rfl, lib16, _, rfl, _, rfl, rfl, _, rfl, ?_⟩
            rw [decide_eq_true rfl]
            refine iteF ⟨_, rfl, a', dn, _, rfl, haN, lookF_no (by decide +kernel), _, rfl, a', _, j0, ⟨o.sign, o.changed, m⟩, rfl, lib16, okN.nd, eoN, _, rfl, rfl, _, rfl, ?_⟩
            rw [decide_eq_true rfl]
            refine iteF ?_
            refine ⟨_, rfl, _, rfl, a', am, dn, dx, _, _, rfl, rfl, haN, ham, a', am, _, L, rfl, lib16, L16, _, rfl, _, rfl, _, rfl, tr, _, ((2 : Nat) : Int), _, rfl, rfl, SqL.of hrow16, atI_nat (j := 2) rfl, rfl, rfl, _, rfl, ?_⟩
            have hb : (!decide (V.bl (textM (setMk L j0 m) == textM L) = V.bl (decide (V.str m = V.str o.maker)))) = false := by
              rw [eq_str, text_eq okL allL eo okN allN, decide_eq_true rfl]
              rfl
            rw [hb]
            refine iteF ⟨_, rfl, _, rfl, a', la, _, rfl, lib16, A16.lib, okN.nd, lawW_of okN, fun G17 s17 => ⟨_, rfl, iteF ?_⟩⟩
            have lib17 := LibAt.same s17 lib16
            have haN17 := s17 _ _ haN
            refine ⟨_, rfl, a', dn, _, rfl, haN17, lookF_no (by decide +kernel), a', _, rfl, lib17, fun l18 G18 s18 nl18 hl18 => ?_⟩
            rw [esN] at hl18
            refine ⟨_, rfl, ne_eqL (SqL.of hl18) (SqL.of (s18 _ _ (s17 _ _ hsg16))) (okL_of okL) ⟨_, rfl, iteF ?_⟩⟩
            have s78 := s17.trans s18
            have A18 := A16.same s78
            have S18 : ∀ o, oh = some o → G18 a = some o := fun o e => s78 _ _ (S16 o e)
            have B18 := B16.same s78
            have lib18 := LibAt.same s78 lib16
            clear A16 hsg16 hrow16 S16 B16 lib16 L16 haN17 lib17 hl18 ham haN RN RR hb
            refine ⟨fun v G' => ∃ am', v = .ref am' ∧ LibAt K G' C am' (setMk L j0 m) ∧ Keep b G18 G' ∧ BagAt G' b, ⟨_, rfl, b, 3, rfl, B18, by decide, by decide, fun r G19 r0 r1 k19 B19 => ?_⟩, ?_⟩
            · have lib19 := lib18.keepO (KeepO.bag k19 B18)
              obtain ⟨dm, mb1, mb2, mb3, mb4, mb5, mb6, haM, _⟩ := id lib19
              refine ⟨_, _, rfl, rfl, _, rfl, ite2 (fun h => ?_) (fun h => ?_)⟩
              · exact ⟨_, rfl, a', rfl, lib19, k19, B19⟩
              · refine ⟨rfl, _, rfl, a', dm, _, rfl, haM, a', _, rfl, lib19, _, rfl, textM (setMk L j0 m), rfl, txN1, txN2, fun z e => ?_, fun L2 e am2 G20 s20 nam2 hLib2 => ?_⟩
                · rw [(read_text okN).1 allN] at e
                  cases e
                · rw [(read_text okN).1 allN] at e
                  obtain rfl : setMk L j0 m = L2 := by injection e
                  exact ⟨am2, rfl, hLib2, k19.trans (Keep.of s20), B19.same s20⟩
            · rintro v G21 ⟨am2, rfl, hL21, k21, B21⟩
              exact ⟨fun o e => k21 _ _ (nba o e) (S18 o e), B21, am2, _, pp, pk, pr, kts, _, A18.keepB k21 B18, okN, allN, hL21, ⟨_, _, _, _, _, _, _, _, _, rfl⟩⟩
      · rintro σ G ⟨SG, BG, am, L, pp, pk, pr, kts, rts, AG, _, _, LG, v5, v6, v7, v8, v9, v10, v11, v12, v13, rfl⟩
        exact ⟨SG, ⟨_, _, _, _, _, _, _, _, _, _, _, _, _, rfl⟩⟩
    · rintro σ G ⟨S0, u1, u2, u3, u4, u5, u6, u7, u8, u9, u10, u11, u12, u13, rfl⟩
      exact k G
end
end K04

namespace K04
open PySem PySem.Spec PyProof.Rows L2 EV TL LM
theorem kit_sub {K : Fg} {D : Value} {C : Addr} {b : Bool} (hd : PySem.W.hasDictIn K C = true) (ty : PySem.W.typeIn K (.ref C) = some (.type "type")) (s : PySem.W.subIn K D (.ref C) = some b) (ne : D = .ref C → b = true) : PySem.W.kitOne K D (.ref C) = some b := by
  unfold PySem.W.kitOne PySem.W.kitCls
  by_cases e : (D == Value.ref C) = true
  · rw [if_pos e, ne (beq_iff_eq.mp e)]
  · rw [if_neg e]
    dsimp only
    obtain ⟨cd, hc, _⟩ := PySem.W.any_some hd
    rw [hc, ty]
    show (if (true && (some (Value.type "type") == some (Value.type "type"))) = true then PySem.W.subIn K D (.ref C) else none) = some b
    rw [if_pos (by decide +kernel)]
    exact s
theorem kit_subT {K : Fg} {D : Addr} {T : String} {b : Bool} (m : PySem.W.kitMeta T = true) (s : PySem.W.subIn K (.ref D) (.type T) = some b) : PySem.W.kitOne K (.ref D) (.type T) = some b := by
  unfold PySem.W.kitOne PySem.W.kitCls
  rw [if_neg (by simp)]
  dsimp only
  rw [if_pos m]
  exact s
end K04

namespace K04
open PySem PySem.Spec PyProof.Rows L2 EV TL LM
abbrev veT : List Value := [.type "ValueError", .type "Exception", .type "BaseException", .type "object"]
abbrev leT : List Value := [.type "LookupError", .type "Exception", .type "BaseException", .type "object"]
/-- the values are these texts -/
def strsIn : List Value → List Str → Bool
  | [], [] => true
  | .str z _ :: us, w :: ws => z == w && strsIn us ws
  | _, _ => false
theorem strs_vals : ∀ {us : List Value} {ws : List Str}, strsIn us ws = true → Vals (ws.map V.str) us
  | [], [], _ => .nil
  | [], _ :: _, h => by simp [strsIn] at h
  | u :: us, [], h => by cases u <;> simp [strsIn] at h
  | u :: us, w :: ws, h => by
    cases u <;> simp [strsIn] at h
    obtain ⟨h1, h2⟩ := h
    subst h1
    exact .cons ⟨_, rfl⟩ (strs_vals h2)
theorem tupk_of {K : Fg} {a : Addr} {od : Option Addr} {its : Array Value} {n : Nat} {sl : Array (Option Value)} {ws : List Str} (l : K.lookup a = some ⟨.type "tuple", od, .seq its n, sl⟩) (o : strsIn its.toList ws = true) (hl : ws.length ≤ sizeLine) : TupK K a (ws.map V.str) := by
  have v := strs_vals o
  refine ⟨_, _, _, l, rfl, rfl, ?_, v⟩
  have := v.length
  rw [List.length_map] at this
  show its.toList.length ≤ _
  omega
theorem makers_binds {K : Fg} {f : Addr} {fd : FuncData} (F : FunD K "makers" "Library.makers" (defArgs s_Library_makers) (defBody s_Library_makers) (defScope s_Library_makers) [] [("hook", V.bl true)] f fd) :
    (∃ ds, Vals [V.bl true] ds ∧ L2.Binds K fd ["arity", "hook"] ds) ∧ KBinds K fd ["arity", "hook"] ["hook"] gOne gOne := by
  constructor
  · refine F.binds0 1 (by simp) rfl fun D doc pm an cdv ct us ks h1 h2 => ?_
    match us, ks, h1, h2 with
    | [u], [k], _, _ => exact ⟨_, _, _, _, _, _, rfl, rfl, rfl⟩
  · obtain ⟨oc, od, dV, kV, doc, pm, an, cdv, ct, osl, rfl, lk, hcd, hD, hK⟩ := F.ex
    rcases hD with ⟨_, rfl⟩ | ⟨e, _⟩
    · refine ⟨fun s us ws X hl => ?_, fun r rz => ?_⟩
      · match us, ws, hl with
        | [u], [k], _ => exact .of_eq rfl
      · cases r with
        | nil => exact .nil
        | cons r1 r2 =>
          cases r2 with
          | nil => exact .cons r1 rz
          | cons _ _ => exact .nil
    · exact absurd rfl e

theorem all_mk {l : PySem.W.OpenLaw} {w : World} {K : Fg} {h : Heap} {mg : Str → Option Value} {fa : Addr} (X : K.In h) (G : h.Ns mainGlobals mg) (hfa : mg "law" = some (.ref fa))
    {C_HE C_NoSign C_BadMaker C_Library g__is_within g_is_small_word g_is_class_name g_is_field_name g_is_request g_arity_of g__is_first_row g__is_hook_row g__parameters_of g__kept_of g__is_selection g__request_of g__operation_of C_BadLibrary g_BadLibrary___init__ g__operations_of g__root_lines g__operation_line g_Library___init__ g_Library_read p_Library_read g__law_take g__law_bag g__law_of g_Library_makers kD_makers p_makers g_Library___contains__ g__law_makers g__law_words g__law_titles g__law_lines g_own_copy g_NoSign___init__ g_BadMaker___init__ g_Library__check g_Library_with_maker g_Library_arity g_Library_changed g_Library_maker_of g_Library_signs g_Library___str__ g_Library___eq__ g__law_exchanged g__law_has g__law_library g_law v_NO_FIELDSA v_BINARY_SIGNSA v_UNARY_SIGNSA v_ROOT_HOOKSA vM0 vM1 vM2 vM3 : Addr}
    {od__is_within an__is_within od_is_small_word an_is_small_word od_is_class_name an_is_class_name od_is_field_name an_is_field_name od_is_request an_is_request od_arity_of an_arity_of od__is_first_row an__is_first_row od__is_hook_row an__is_hook_row od__parameters_of an__parameters_of od__kept_of an__kept_of od__is_selection an__is_selection od__request_of an__request_of od__operation_of an__operation_of od_BadLibrary___init__ an_BadLibrary___init__ od__operations_of an__operations_of od__root_lines an__root_lines od__operation_line an__operation_line od_Library___init__ an_Library___init__ od_Library_read an_Library_read od__law_take an__law_take od__law_bag an__law_bag od__law_of an__law_of od_Library_makers an_Library_makers od_Library___contains__ an_Library___contains__ od__law_makers an__law_makers od__law_words an__law_words od__law_titles an__law_titles od__law_lines an__law_lines od_own_copy an_own_copy od_NoSign___init__ an_NoSign___init__ od_BadMaker___init__ an_BadMaker___init__ od_Library__check an_Library__check od_Library_with_maker an_Library_with_maker od_Library_arity an_Library_arity od_Library_changed an_Library_changed od_Library_maker_of an_Library_maker_of od_Library_signs an_Library_signs od_Library___str__ an_Library___str__ od_Library___eq__ an_Library___eq__ od__law_exchanged an__law_exchanged od__law_has an__law_has od__law_library an__law_library od_law an_law od_NO_FIELDS od_BINARY_SIGNS od_UNARY_SIGNS od_ROOT_HOOKS od_MK od_M0 od_M1 od_M2 : Option Addr}
    {sl__is_within sl_is_small_word sl_is_class_name sl_is_field_name sl_is_request sl_arity_of sl__is_first_row sl__is_hook_row sl__parameters_of sl__kept_of sl__is_selection sl__request_of sl__operation_of sl_BadLibrary___init__ sl__operations_of sl__root_lines sl__operation_line sl_Library___init__ sl_Library_read sl__law_take sl__law_bag sl__law_of sl_Library_makers sl_Library___contains__ sl__law_makers sl__law_words sl__law_titles sl__law_lines sl_own_copy sl_NoSign___init__ sl_BadMaker___init__ sl_Library__check sl_Library_with_maker sl_Library_arity sl_Library_changed sl_Library_maker_of sl_Library_signs sl_Library___str__ sl_Library___eq__ sl__law_exchanged sl__law_has sl__law_library sl_law sl_NO_FIELDS sl_BINARY_SIGNS sl_UNARY_SIGNS sl_ROOT_HOOKS sl_MK sl_M0 sl_M1 sl_M2 : Array (Option Value)}
    {oc__is_within dc__is_within pm__is_within cd__is_within ct__is_within kV__is_within oc_is_small_word dc_is_small_word pm_is_small_word cd_is_small_word ct_is_small_word kV_is_small_word oc_is_class_name dc_is_class_name pm_is_class_name cd_is_class_name ct_is_class_name kV_is_class_name oc_is_field_name dc_is_field_name pm_is_field_name cd_is_field_name ct_is_field_name kV_is_field_name oc_is_request dc_is_request pm_is_request cd_is_request ct_is_request kV_is_request oc_arity_of dc_arity_of pm_arity_of cd_arity_of ct_arity_of kV_arity_of oc__is_first_row dc__is_first_row pm__is_first_row cd__is_first_row ct__is_first_row kV__is_first_row oc__is_hook_row dc__is_hook_row pm__is_hook_row cd__is_hook_row ct__is_hook_row kV__is_hook_row oc__parameters_of dc__parameters_of pm__parameters_of cd__parameters_of ct__parameters_of kV__parameters_of oc__kept_of dc__kept_of pm__kept_of cd__kept_of ct__kept_of kV__kept_of oc__is_selection dc__is_selection pm__is_selection cd__is_selection ct__is_selection kV__is_selection oc__request_of dc__request_of pm__request_of cd__request_of ct__request_of kV__request_of oc__operation_of dc__operation_of pm__operation_of cd__operation_of ct__operation_of kV__operation_of oc_BadLibrary___init__ dc_BadLibrary___init__ pm_BadLibrary___init__ cd_BadLibrary___init__ ct_BadLibrary___init__ kV_BadLibrary___init__ oc__operations_of dc__operations_of pm__operations_of cd__operations_of ct__operations_of kV__operations_of oc__root_lines dc__root_lines pm__root_lines cd__root_lines ct__root_lines kV__root_lines oc__operation_line dc__operation_line pm__operation_line cd__operation_line ct__operation_line kV__operation_line oc_Library___init__ dc_Library___init__ pm_Library___init__ cd_Library___init__ ct_Library___init__ kV_Library___init__ oc_Library_read dc_Library_read pm_Library_read cd_Library_read ct_Library_read kV_Library_read oc__law_take dc__law_take pm__law_take cd__law_take ct__law_take kV__law_take oc__law_bag dc__law_bag pm__law_bag cd__law_bag ct__law_bag kV__law_bag oc__law_of dc__law_of pm__law_of cd__law_of ct__law_of kV__law_of oc_Library_makers dc_Library_makers pm_Library_makers cd_Library_makers ct_Library_makers oc_Library___contains__ dc_Library___contains__ pm_Library___contains__ cd_Library___contains__ ct_Library___contains__ kV_Library___contains__ oc__law_makers dc__law_makers pm__law_makers cd__law_makers ct__law_makers kV__law_makers oc__law_words dc__law_words pm__law_words cd__law_words ct__law_words kV__law_words oc__law_titles dc__law_titles pm__law_titles cd__law_titles ct__law_titles kV__law_titles oc__law_lines dc__law_lines pm__law_lines cd__law_lines ct__law_lines kV__law_lines oc_own_copy dc_own_copy pm_own_copy cd_own_copy ct_own_copy kV_own_copy oc_NoSign___init__ dc_NoSign___init__ pm_NoSign___init__ cd_NoSign___init__ ct_NoSign___init__ kV_NoSign___init__ oc_BadMaker___init__ dc_BadMaker___init__ pm_BadMaker___init__ cd_BadMaker___init__ ct_BadMaker___init__ kV_BadMaker___init__ oc_Library__check dc_Library__check pm_Library__check cd_Library__check ct_Library__check kV_Library__check oc_Library_with_maker dc_Library_with_maker pm_Library_with_maker cd_Library_with_maker ct_Library_with_maker kV_Library_with_maker oc_Library_arity dc_Library_arity pm_Library_arity cd_Library_arity ct_Library_arity kV_Library_arity oc_Library_changed dc_Library_changed pm_Library_changed cd_Library_changed ct_Library_changed kV_Library_changed oc_Library_maker_of dc_Library_maker_of pm_Library_maker_of cd_Library_maker_of ct_Library_maker_of kV_Library_maker_of oc_Library_signs dc_Library_signs pm_Library_signs cd_Library_signs ct_Library_signs kV_Library_signs oc_Library___str__ dc_Library___str__ pm_Library___str__ cd_Library___str__ ct_Library___str__ kV_Library___str__ oc_Library___eq__ dc_Library___eq__ pm_Library___eq__ cd_Library___eq__ ct_Library___eq__ kV_Library___eq__ oc__law_exchanged dc__law_exchanged pm__law_exchanged cd__law_exchanged ct__law_exchanged kV__law_exchanged oc__law_has dc__law_has pm__law_has cd__law_has ct__law_has kV__law_has oc__law_library dc__law_library pm__law_library cd__law_library ct__law_library kV__law_library oc_law dc_law pm_law cd_law ct_law kV_law : Value}
    {rs_Library_read rs_makers : List Value}
    {it_NO_FIELDS it_BINARY_SIGNS it_UNARY_SIGNS it_ROOT_HOOKS it_M0 it_M1 it_M2 : Array Value}
    {t_LONGEST_NAME t_MOST_PARAMETERS t_MOST_KEPT t_MOST_OPERATIONS n_NO_FIELDS n_BINARY_SIGNS n_UNARY_SIGNS n_ROOT_HOOKS n_MK n_M0 n_M1 n_M2 : Nat}
    (a_HE : PySem.W.nsIn K mainGlobals "HeirsbackError" = some (some (.ref C_HE)))
    (a__is_within : PySem.W.nsIn K mainGlobals "_is_within" = some (some (.ref g__is_within)))
    (a_is_small_word : PySem.W.nsIn K mainGlobals "is_small_word" = some (some (.ref g_is_small_word)))
    (a_is_class_name : PySem.W.nsIn K mainGlobals "is_class_name" = some (some (.ref g_is_class_name)))
    (a_is_field_name : PySem.W.nsIn K mainGlobals "is_field_name" = some (some (.ref g_is_field_name)))
    (a_is_request : PySem.W.nsIn K mainGlobals "is_request" = some (some (.ref g_is_request)))
    (a_arity_of : PySem.W.nsIn K mainGlobals "arity_of" = some (some (.ref g_arity_of)))
    (a__is_first_row : PySem.W.nsIn K mainGlobals "_is_first_row" = some (some (.ref g__is_first_row)))
    (a__is_hook_row : PySem.W.nsIn K mainGlobals "_is_hook_row" = some (some (.ref g__is_hook_row)))
    (a__parameters_of : PySem.W.nsIn K mainGlobals "_parameters_of" = some (some (.ref g__parameters_of)))
    (a__kept_of : PySem.W.nsIn K mainGlobals "_kept_of" = some (some (.ref g__kept_of)))
    (a__is_selection : PySem.W.nsIn K mainGlobals "_is_selection" = some (some (.ref g__is_selection)))
    (a__request_of : PySem.W.nsIn K mainGlobals "_request_of" = some (some (.ref g__request_of)))
    (a__operation_of : PySem.W.nsIn K mainGlobals "_operation_of" = some (some (.ref g__operation_of)))
    (a_BadLibrary : PySem.W.nsIn K mainGlobals "BadLibrary" = some (some (.ref C_BadLibrary)))
    (a__operations_of : PySem.W.nsIn K mainGlobals "_operations_of" = some (some (.ref g__operations_of)))
    (a__root_lines : PySem.W.nsIn K mainGlobals "_root_lines" = some (some (.ref g__root_lines)))
    (a__operation_line : PySem.W.nsIn K mainGlobals "_operation_line" = some (some (.ref g__operation_line)))
    (a_Library : PySem.W.nsIn K mainGlobals "Library" = some (some (.ref C_Library)))
    (a__law_take : PySem.W.nsIn K mainGlobals "_law_take" = some (some (.ref g__law_take)))
    (a__law_bag : PySem.W.nsIn K mainGlobals "_law_bag" = some (some (.ref g__law_bag)))
    (a__law_of : PySem.W.nsIn K mainGlobals "_law_of" = some (some (.ref g__law_of)))
    (a__law_makers : PySem.W.nsIn K mainGlobals "_law_makers" = some (some (.ref g__law_makers)))
    (a__law_words : PySem.W.nsIn K mainGlobals "_law_words" = some (some (.ref g__law_words)))
    (a__law_titles : PySem.W.nsIn K mainGlobals "_law_titles" = some (some (.ref g__law_titles)))
    (a__law_lines : PySem.W.nsIn K mainGlobals "_law_lines" = some (some (.ref g__law_lines)))
    (a_own_copy : PySem.W.nsIn K mainGlobals "own_copy" = some (some (.ref g_own_copy)))
    (a_NoSign : PySem.W.nsIn K mainGlobals "NoSign" = some (some (.ref C_NoSign)))
    (a_BadMaker : PySem.W.nsIn K mainGlobals "BadMaker" = some (some (.ref C_BadMaker)))
    (a__law_exchanged : PySem.W.nsIn K mainGlobals "_law_exchanged" = some (some (.ref g__law_exchanged)))
    (a__law_has : PySem.W.nsIn K mainGlobals "_law_has" = some (some (.ref g__law_has)))
    (a__law_library : PySem.W.nsIn K mainGlobals "_law_library" = some (some (.ref g__law_library)))
    (a_law : PySem.W.nsIn K mainGlobals "law" = some (some (.ref g_law)))
    (v_LONGEST_NAME : PySem.W.nsIn K mainGlobals "LONGEST_NAME" = some (some (.int 8 t_LONGEST_NAME)))
    (v_MOST_PARAMETERS : PySem.W.nsIn K mainGlobals "MOST_PARAMETERS" = some (some (.int 3 t_MOST_PARAMETERS)))
    (v_MOST_KEPT : PySem.W.nsIn K mainGlobals "MOST_KEPT" = some (some (.int 2 t_MOST_KEPT)))
    (v_MOST_OPERATIONS : PySem.W.nsIn K mainGlobals "MOST_OPERATIONS" = some (some (.int 6 t_MOST_OPERATIONS)))
    (v_NO_FIELDS : PySem.W.nsIn K mainGlobals "NO_FIELDS" = some (some (.ref v_NO_FIELDSA)))
    (v_BINARY_SIGNS : PySem.W.nsIn K mainGlobals "BINARY_SIGNS" = some (some (.ref v_BINARY_SIGNSA)))
    (v_UNARY_SIGNS : PySem.W.nsIn K mainGlobals "UNARY_SIGNS" = some (some (.ref v_UNARY_SIGNSA)))
    (v_ROOT_HOOKS : PySem.W.nsIn K mainGlobals "ROOT_HOOKS" = some (some (.ref v_ROOT_HOOKSA)))
    (v_MAKERS : PySem.W.nsIn K mainGlobals "MAKERS" = some (some (.ref vM3)))
    (z_isinstance : PySem.W.nsIn K mainGlobals "isinstance" = some none)
    (z_list : PySem.W.nsIn K mainGlobals "list" = some none)
    (z_tuple : PySem.W.nsIn K mainGlobals "tuple" = some none)
    (z_int : PySem.W.nsIn K mainGlobals "int" = some none)
    (z_str : PySem.W.nsIn K mainGlobals "str" = some none)
    (z_bool : PySem.W.nsIn K mainGlobals "bool" = some none)
    (z_len : PySem.W.nsIn K mainGlobals "len" = some none)
    (z_abs : PySem.W.nsIn K mainGlobals "abs" = some none)
    (z_max : PySem.W.nsIn K mainGlobals "max" = some none)
    (z_min : PySem.W.nsIn K mainGlobals "min" = some none)
    (z_range : PySem.W.nsIn K mainGlobals "range" = some none)
    (z_enumerate : PySem.W.nsIn K mainGlobals "enumerate" = some none)
    (z_all : PySem.W.nsIn K mainGlobals "all" = some none)
    (z_ValueError : PySem.W.nsIn K mainGlobals "ValueError" = some none)
    (z_LookupError : PySem.W.nsIn K mainGlobals "LookupError" = some none)
    (z_KeyError : PySem.W.nsIn K mainGlobals "KeyError" = some none)
    (z_IndexError : PySem.W.nsIn K mainGlobals "IndexError" = some none)
    (haI_Library : PySem.W.findIn K (.ref C_Library) "__class__" = some (some (.builtin "object.__class__")))
    (sa_BadLibrary : PySem.W.findIn K (.ref C_BadLibrary) "__setattr__" = some (some (.builtin "object.__setattr__")))
    (hg_BadLibrary : PySem.W.findIn K (.ref C_BadLibrary) "__getattribute__" = some (some (.builtin "BaseException.__getattribute__")))
    (hk_BadLibrary : PySem.W.findIn K (.ref C_BadLibrary) "__getattr__" = some none)
    (ha_BadLibrary : PySem.W.findIn K (.ref C_BadLibrary) "__class__" = some (some (.builtin "object.__class__")))
    (na_BadLibrary_at : PySem.W.findIn K (.ref C_BadLibrary) "at" = some none)
    (i_BadLibrary___init__ : PySem.W.findIn K (.ref C_BadLibrary) "__init__" = some (some (.ref g_BadLibrary___init__)))
    (sa_Library : PySem.W.findIn K (.ref C_Library) "__setattr__" = some (some (.builtin "object.__setattr__")))
    (nA_Library_0 : PySem.W.findIn K (.ref C_Library) "name" = some none)
    (nA_Library_1 : PySem.W.findIn K (.ref C_Library) "root_parameters" = some none)
    (nA_Library_2 : PySem.W.findIn K (.ref C_Library) "kept" = some none)
    (nA_Library_3 : PySem.W.findIn K (.ref C_Library) "root_hook" = some none)
    (nA_Library_4 : PySem.W.findIn K (.ref C_Library) "_operations" = some none)
    (nA_Library_5 : PySem.W.findIn K (.ref C_Library) "_signs" = some none)
    (nA_Library_6 : PySem.W.findIn K (.ref C_Library) "_changed" = some none)
    (nA_Library_7 : PySem.W.findIn K (.ref C_Library) "_maker" = some none)
    (nA_Library_8 : PySem.W.findIn K (.ref C_Library) "_text" = some none)
    (i_Library___init__ : PySem.W.findIn K (.ref C_Library) "__init__" = some (some (.ref g_Library___init__)))
    (fc_Library_read : PySem.W.findCls K (.ref C_Library) (.type "type") "read" = some (.get (.builtin "classmethod.__get__") (.ref p_Library_read) .none (.ref C_Library)))
    (fc_makers : PySem.W.findCls K (.ref C_Library) (.type "type") "makers" = some (.get (.builtin "staticmethod.__get__") (.ref p_makers) .none (.ref C_Library)))
    (fi_makers : PySem.W.findIn K (.ref C_Library) "makers" = some (some (.ref p_makers)))
    (m_Library___contains__ : PySem.W.findIn K (.ref C_Library) "__contains__" = some (some (.ref g_Library___contains__)))
    (sa_NoSign : PySem.W.findIn K (.ref C_NoSign) "__setattr__" = some (some (.builtin "object.__setattr__")))
    (hg_NoSign : PySem.W.findIn K (.ref C_NoSign) "__getattribute__" = some (some (.builtin "BaseException.__getattribute__")))
    (hk_NoSign : PySem.W.findIn K (.ref C_NoSign) "__getattr__" = some none)
    (ha_NoSign : PySem.W.findIn K (.ref C_NoSign) "__class__" = some (some (.builtin "object.__class__")))
    (na_NoSign_sign : PySem.W.findIn K (.ref C_NoSign) "sign" = some none)
    (i_NoSign___init__ : PySem.W.findIn K (.ref C_NoSign) "__init__" = some (some (.ref g_NoSign___init__)))
    (sa_BadMaker : PySem.W.findIn K (.ref C_BadMaker) "__setattr__" = some (some (.builtin "object.__setattr__")))
    (hg_BadMaker : PySem.W.findIn K (.ref C_BadMaker) "__getattribute__" = some (some (.builtin "BaseException.__getattribute__")))
    (hk_BadMaker : PySem.W.findIn K (.ref C_BadMaker) "__getattr__" = some none)
    (ha_BadMaker : PySem.W.findIn K (.ref C_BadMaker) "__class__" = some (some (.builtin "object.__class__")))
    (na_BadMaker_maker : PySem.W.findIn K (.ref C_BadMaker) "maker" = some none)
    (i_BadMaker___init__ : PySem.W.findIn K (.ref C_BadMaker) "__init__" = some (some (.ref g_BadMaker___init__)))
    (m_Library__check : PySem.W.findIn K (.ref C_Library) "_check" = some (some (.ref g_Library__check)))
    (m_Library_with_maker : PySem.W.findIn K (.ref C_Library) "with_maker" = some (some (.ref g_Library_with_maker)))
    (m_Library_arity : PySem.W.findIn K (.ref C_Library) "arity" = some (some (.ref g_Library_arity)))
    (m_Library_changed : PySem.W.findIn K (.ref C_Library) "changed" = some (some (.ref g_Library_changed)))
    (m_Library_maker_of : PySem.W.findIn K (.ref C_Library) "maker_of" = some (some (.ref g_Library_maker_of)))
    (m_Library_signs : PySem.W.findIn K (.ref C_Library) "signs" = some (some (.ref g_Library_signs)))
    (m_Library___str__ : PySem.W.findIn K (.ref C_Library) "__str__" = some (some (.ref g_Library___str__)))
    (m_Library___eq__ : PySem.W.findIn K (.ref C_Library) "__eq__" = some (some (.ref g_Library___eq__)))
    (rc_Library_read : PySem.W.recIn K p_Library_read "classmethod" = some (.ref g_Library_read :: rs_Library_read))
    (rc_makers : PySem.W.recIn K p_makers "staticmethod" = some (.ref g_Library_makers :: rs_makers))
    (l__is_within : K.lookup g__is_within = some ⟨oc__is_within, od__is_within, .func (PySem.W.fnOf "_is_within" "_is_within" (defArgs s_is_within) (defBody s_is_within) (defScope s_is_within) .none kV__is_within dc__is_within pm__is_within an__is_within cd__is_within ct__is_within), sl__is_within⟩)
    (l_is_small_word : K.lookup g_is_small_word = some ⟨oc_is_small_word, od_is_small_word, .func (PySem.W.fnOf "is_small_word" "is_small_word" (defArgs s_is_small_word) (defBody s_is_small_word) (defScope s_is_small_word) .none kV_is_small_word dc_is_small_word pm_is_small_word an_is_small_word cd_is_small_word ct_is_small_word), sl_is_small_word⟩)
    (l_is_class_name : K.lookup g_is_class_name = some ⟨oc_is_class_name, od_is_class_name, .func (PySem.W.fnOf "is_class_name" "is_class_name" (defArgs s_is_class_name) (defBody s_is_class_name) (defScope s_is_class_name) .none kV_is_class_name dc_is_class_name pm_is_class_name an_is_class_name cd_is_class_name ct_is_class_name), sl_is_class_name⟩)
    (l_is_field_name : K.lookup g_is_field_name = some ⟨oc_is_field_name, od_is_field_name, .func (PySem.W.fnOf "is_field_name" "is_field_name" (defArgs s_is_field_name) (defBody s_is_field_name) (defScope s_is_field_name) .none kV_is_field_name dc_is_field_name pm_is_field_name an_is_field_name cd_is_field_name ct_is_field_name), sl_is_field_name⟩)
    (l_is_request : K.lookup g_is_request = some ⟨oc_is_request, od_is_request, .func (PySem.W.fnOf "is_request" "is_request" (defArgs s_is_request) (defBody s_is_request) (defScope s_is_request) .none kV_is_request dc_is_request pm_is_request an_is_request cd_is_request ct_is_request), sl_is_request⟩)
    (l_arity_of : K.lookup g_arity_of = some ⟨oc_arity_of, od_arity_of, .func (PySem.W.fnOf "arity_of" "arity_of" (defArgs s_arity_of) (defBody s_arity_of) (defScope s_arity_of) .none kV_arity_of dc_arity_of pm_arity_of an_arity_of cd_arity_of ct_arity_of), sl_arity_of⟩)
    (l__is_first_row : K.lookup g__is_first_row = some ⟨oc__is_first_row, od__is_first_row, .func (PySem.W.fnOf "_is_first_row" "_is_first_row" (defArgs s_is_first_row) (defBody s_is_first_row) (defScope s_is_first_row) .none kV__is_first_row dc__is_first_row pm__is_first_row an__is_first_row cd__is_first_row ct__is_first_row), sl__is_first_row⟩)
    (l__is_hook_row : K.lookup g__is_hook_row = some ⟨oc__is_hook_row, od__is_hook_row, .func (PySem.W.fnOf "_is_hook_row" "_is_hook_row" (defArgs s_is_hook_row) (defBody s_is_hook_row) (defScope s_is_hook_row) .none kV__is_hook_row dc__is_hook_row pm__is_hook_row an__is_hook_row cd__is_hook_row ct__is_hook_row), sl__is_hook_row⟩)
    (l__parameters_of : K.lookup g__parameters_of = some ⟨oc__parameters_of, od__parameters_of, .func (PySem.W.fnOf "_parameters_of" "_parameters_of" (defArgs s_parameters_of) (defBody s_parameters_of) (defScope s_parameters_of) .none kV__parameters_of dc__parameters_of pm__parameters_of an__parameters_of cd__parameters_of ct__parameters_of), sl__parameters_of⟩)
    (l__kept_of : K.lookup g__kept_of = some ⟨oc__kept_of, od__kept_of, .func (PySem.W.fnOf "_kept_of" "_kept_of" (defArgs s_kept_of) (defBody s_kept_of) (defScope s_kept_of) .none kV__kept_of dc__kept_of pm__kept_of an__kept_of cd__kept_of ct__kept_of), sl__kept_of⟩)
    (l__is_selection : K.lookup g__is_selection = some ⟨oc__is_selection, od__is_selection, .func (PySem.W.fnOf "_is_selection" "_is_selection" (defArgs s_is_selection) (defBody s_is_selection) (defScope s_is_selection) .none kV__is_selection dc__is_selection pm__is_selection an__is_selection cd__is_selection ct__is_selection), sl__is_selection⟩)
    (l__request_of : K.lookup g__request_of = some ⟨oc__request_of, od__request_of, .func (PySem.W.fnOf "_request_of" "_request_of" (defArgs s_request_of) (defBody s_request_of) (defScope s_request_of) .none kV__request_of dc__request_of pm__request_of an__request_of cd__request_of ct__request_of), sl__request_of⟩)
    (l__operation_of : K.lookup g__operation_of = some ⟨oc__operation_of, od__operation_of, .func (PySem.W.fnOf "_operation_of" "_operation_of" (defArgs s_operation_of) (defBody s_operation_of) (defScope s_operation_of) .none kV__operation_of dc__operation_of pm__operation_of an__operation_of cd__operation_of ct__operation_of), sl__operation_of⟩)
    (l_BadLibrary___init__ : K.lookup g_BadLibrary___init__ = some ⟨oc_BadLibrary___init__, od_BadLibrary___init__, .func (PySem.W.fnOf "__init__" "BadLibrary.__init__" (defArgs s_BadLibrary___init__) (defBody s_BadLibrary___init__) (defScope s_BadLibrary___init__) .none kV_BadLibrary___init__ dc_BadLibrary___init__ pm_BadLibrary___init__ an_BadLibrary___init__ cd_BadLibrary___init__ ct_BadLibrary___init__), sl_BadLibrary___init__⟩)
    (l__operations_of : K.lookup g__operations_of = some ⟨oc__operations_of, od__operations_of, .func (PySem.W.fnOf "_operations_of" "_operations_of" (defArgs s_operations_of) (defBody s_operations_of) (defScope s_operations_of) .none kV__operations_of dc__operations_of pm__operations_of an__operations_of cd__operations_of ct__operations_of), sl__operations_of⟩)
    (l__root_lines : K.lookup g__root_lines = some ⟨oc__root_lines, od__root_lines, .func (PySem.W.fnOf "_root_lines" "_root_lines" (defArgs s_root_lines) (defBody s_root_lines) (defScope s_root_lines) .none kV__root_lines dc__root_lines pm__root_lines an__root_lines cd__root_lines ct__root_lines), sl__root_lines⟩)
    (l__operation_line : K.lookup g__operation_line = some ⟨oc__operation_line, od__operation_line, .func (PySem.W.fnOf "_operation_line" "_operation_line" (defArgs s_operation_line) (defBody s_operation_line) (defScope s_operation_line) .none kV__operation_line dc__operation_line pm__operation_line an__operation_line cd__operation_line ct__operation_line), sl__operation_line⟩)
    (l_Library___init__ : K.lookup g_Library___init__ = some ⟨oc_Library___init__, od_Library___init__, .func (PySem.W.fnOf "__init__" "Library.__init__" (defArgs s_Library___init__) (defBody s_Library___init__) (defScope s_Library___init__) .none kV_Library___init__ dc_Library___init__ pm_Library___init__ an_Library___init__ cd_Library___init__ ct_Library___init__), sl_Library___init__⟩)
    (l_Library_read : K.lookup g_Library_read = some ⟨oc_Library_read, od_Library_read, .func (PySem.W.fnOf "read" "Library.read" (defArgs s_Library_read) (defBody s_Library_read) (defScope s_Library_read) .none kV_Library_read dc_Library_read pm_Library_read an_Library_read cd_Library_read ct_Library_read), sl_Library_read⟩)
    (l__law_take : K.lookup g__law_take = some ⟨oc__law_take, od__law_take, .func (PySem.W.fnOf "_law_take" "_law_take" (defArgs s_law_take) (defBody s_law_take) (defScope s_law_take) .none kV__law_take dc__law_take pm__law_take an__law_take cd__law_take ct__law_take), sl__law_take⟩)
    (l__law_bag : K.lookup g__law_bag = some ⟨oc__law_bag, od__law_bag, .func (PySem.W.fnOf "_law_bag" "_law_bag" (defArgs s_law_bag) (defBody s_law_bag) (defScope s_law_bag) .none kV__law_bag dc__law_bag pm__law_bag an__law_bag cd__law_bag ct__law_bag), sl__law_bag⟩)
    (l__law_of : K.lookup g__law_of = some ⟨oc__law_of, od__law_of, .func (PySem.W.fnOf "_law_of" "_law_of" (defArgs s_law_of) (defBody s_law_of) (defScope s_law_of) .none kV__law_of dc__law_of pm__law_of an__law_of cd__law_of ct__law_of), sl__law_of⟩)
    (l_Library_makers : K.lookup g_Library_makers = some ⟨oc_Library_makers, od_Library_makers, .func (PySem.W.fnOf "makers" "Library.makers" (defArgs s_Library_makers) (defBody s_Library_makers) (defScope s_Library_makers) .none (.ref kD_makers) dc_Library_makers pm_Library_makers an_Library_makers cd_Library_makers ct_Library_makers), sl_Library_makers⟩)
    (l_Library___contains__ : K.lookup g_Library___contains__ = some ⟨oc_Library___contains__, od_Library___contains__, .func (PySem.W.fnOf "__contains__" "Library.__contains__" (defArgs s_Library___contains__) (defBody s_Library___contains__) (defScope s_Library___contains__) .none kV_Library___contains__ dc_Library___contains__ pm_Library___contains__ an_Library___contains__ cd_Library___contains__ ct_Library___contains__), sl_Library___contains__⟩)
    (l__law_makers : K.lookup g__law_makers = some ⟨oc__law_makers, od__law_makers, .func (PySem.W.fnOf "_law_makers" "_law_makers" (defArgs s_law_makers) (defBody s_law_makers) (defScope s_law_makers) .none kV__law_makers dc__law_makers pm__law_makers an__law_makers cd__law_makers ct__law_makers), sl__law_makers⟩)
    (l__law_words : K.lookup g__law_words = some ⟨oc__law_words, od__law_words, .func (PySem.W.fnOf "_law_words" "_law_words" (defArgs s_law_words) (defBody s_law_words) (defScope s_law_words) .none kV__law_words dc__law_words pm__law_words an__law_words cd__law_words ct__law_words), sl__law_words⟩)
    (l__law_titles : K.lookup g__law_titles = some ⟨oc__law_titles, od__law_titles, .func (PySem.W.fnOf "_law_titles" "_law_titles" (defArgs s_law_titles) (defBody s_law_titles) (defScope s_law_titles) .none kV__law_titles dc__law_titles pm__law_titles an__law_titles cd__law_titles ct__law_titles), sl__law_titles⟩)
    (l__law_lines : K.lookup g__law_lines = some ⟨oc__law_lines, od__law_lines, .func (PySem.W.fnOf "_law_lines" "_law_lines" (defArgs s_law_lines) (defBody s_law_lines) (defScope s_law_lines) .none kV__law_lines dc__law_lines pm__law_lines an__law_lines cd__law_lines ct__law_lines), sl__law_lines⟩)
    (l_own_copy : K.lookup g_own_copy = some ⟨oc_own_copy, od_own_copy, .func (PySem.W.fnOf "own_copy" "own_copy" (defArgs s_own_copy) (defBody s_own_copy) (defScope s_own_copy) .none kV_own_copy dc_own_copy pm_own_copy an_own_copy cd_own_copy ct_own_copy), sl_own_copy⟩)
    (l_NoSign___init__ : K.lookup g_NoSign___init__ = some ⟨oc_NoSign___init__, od_NoSign___init__, .func (PySem.W.fnOf "__init__" "NoSign.__init__" (defArgs s_NoSign___init__) (defBody s_NoSign___init__) (defScope s_NoSign___init__) .none kV_NoSign___init__ dc_NoSign___init__ pm_NoSign___init__ an_NoSign___init__ cd_NoSign___init__ ct_NoSign___init__), sl_NoSign___init__⟩)
    (l_BadMaker___init__ : K.lookup g_BadMaker___init__ = some ⟨oc_BadMaker___init__, od_BadMaker___init__, .func (PySem.W.fnOf "__init__" "BadMaker.__init__" (defArgs s_BadMaker___init__) (defBody s_BadMaker___init__) (defScope s_BadMaker___init__) .none kV_BadMaker___init__ dc_BadMaker___init__ pm_BadMaker___init__ an_BadMaker___init__ cd_BadMaker___init__ ct_BadMaker___init__), sl_BadMaker___init__⟩)
    (l_Library__check : K.lookup g_Library__check = some ⟨oc_Library__check, od_Library__check, .func (PySem.W.fnOf "_check" "Library._check" (defArgs s_Library__check) (defBody s_Library__check) (defScope s_Library__check) .none kV_Library__check dc_Library__check pm_Library__check an_Library__check cd_Library__check ct_Library__check), sl_Library__check⟩)
    (l_Library_with_maker : K.lookup g_Library_with_maker = some ⟨oc_Library_with_maker, od_Library_with_maker, .func (PySem.W.fnOf "with_maker" "Library.with_maker" (defArgs s_Library_with_maker) (defBody s_Library_with_maker) (defScope s_Library_with_maker) .none kV_Library_with_maker dc_Library_with_maker pm_Library_with_maker an_Library_with_maker cd_Library_with_maker ct_Library_with_maker), sl_Library_with_maker⟩)
    (l_Library_arity : K.lookup g_Library_arity = some ⟨oc_Library_arity, od_Library_arity, .func (PySem.W.fnOf "arity" "Library.arity" (defArgs s_Library_arity) (defBody s_Library_arity) (defScope s_Library_arity) .none kV_Library_arity dc_Library_arity pm_Library_arity an_Library_arity cd_Library_arity ct_Library_arity), sl_Library_arity⟩)
    (l_Library_changed : K.lookup g_Library_changed = some ⟨oc_Library_changed, od_Library_changed, .func (PySem.W.fnOf "changed" "Library.changed" (defArgs s_Library_changed) (defBody s_Library_changed) (defScope s_Library_changed) .none kV_Library_changed dc_Library_changed pm_Library_changed an_Library_changed cd_Library_changed ct_Library_changed), sl_Library_changed⟩)
    (l_Library_maker_of : K.lookup g_Library_maker_of = some ⟨oc_Library_maker_of, od_Library_maker_of, .func (PySem.W.fnOf "maker_of" "Library.maker_of" (defArgs s_Library_maker_of) (defBody s_Library_maker_of) (defScope s_Library_maker_of) .none kV_Library_maker_of dc_Library_maker_of pm_Library_maker_of an_Library_maker_of cd_Library_maker_of ct_Library_maker_of), sl_Library_maker_of⟩)
    (l_Library_signs : K.lookup g_Library_signs = some ⟨oc_Library_signs, od_Library_signs, .func (PySem.W.fnOf "signs" "Library.signs" (defArgs s_Library_signs) (defBody s_Library_signs) (defScope s_Library_signs) .none kV_Library_signs dc_Library_signs pm_Library_signs an_Library_signs cd_Library_signs ct_Library_signs), sl_Library_signs⟩)
    (l_Library___str__ : K.lookup g_Library___str__ = some ⟨oc_Library___str__, od_Library___str__, .func (PySem.W.fnOf "__str__" "Library.__str__" (defArgs s_Library___str__) (defBody s_Library___str__) (defScope s_Library___str__) .none kV_Library___str__ dc_Library___str__ pm_Library___str__ an_Library___str__ cd_Library___str__ ct_Library___str__), sl_Library___str__⟩)
    (l_Library___eq__ : K.lookup g_Library___eq__ = some ⟨oc_Library___eq__, od_Library___eq__, .func (PySem.W.fnOf "__eq__" "Library.__eq__" (defArgs s_Library___eq__) (defBody s_Library___eq__) (defScope s_Library___eq__) .none kV_Library___eq__ dc_Library___eq__ pm_Library___eq__ an_Library___eq__ cd_Library___eq__ ct_Library___eq__), sl_Library___eq__⟩)
    (l__law_exchanged : K.lookup g__law_exchanged = some ⟨oc__law_exchanged, od__law_exchanged, .func (PySem.W.fnOf "_law_exchanged" "_law_exchanged" (defArgs s_law_exchanged) (defBody s_law_exchanged) (defScope s_law_exchanged) .none kV__law_exchanged dc__law_exchanged pm__law_exchanged an__law_exchanged cd__law_exchanged ct__law_exchanged), sl__law_exchanged⟩)
    (l__law_has : K.lookup g__law_has = some ⟨oc__law_has, od__law_has, .func (PySem.W.fnOf "_law_has" "_law_has" (defArgs s_law_has) (defBody s_law_has) (defScope s_law_has) .none kV__law_has dc__law_has pm__law_has an__law_has cd__law_has ct__law_has), sl__law_has⟩)
    (l__law_library : K.lookup g__law_library = some ⟨oc__law_library, od__law_library, .func (PySem.W.fnOf "_law_library" "_law_library" (defArgs s_law_library) (defBody s_law_library) (defScope s_law_library) .none kV__law_library dc__law_library pm__law_library an__law_library cd__law_library ct__law_library), sl__law_library⟩)
    (l_law : K.lookup g_law = some ⟨oc_law, od_law, .func (PySem.W.fnOf "law" "law" (defArgs s_law) (defBody s_law) (defScope s_law) .none kV_law dc_law pm_law an_law cd_law ct_law), sl_law⟩)
    (l_NO_FIELDS : K.lookup v_NO_FIELDSA = some ⟨.type "tuple", od_NO_FIELDS, .seq it_NO_FIELDS n_NO_FIELDS, sl_NO_FIELDS⟩)
    (l_BINARY_SIGNS : K.lookup v_BINARY_SIGNSA = some ⟨.type "tuple", od_BINARY_SIGNS, .seq it_BINARY_SIGNS n_BINARY_SIGNS, sl_BINARY_SIGNS⟩)
    (l_UNARY_SIGNS : K.lookup v_UNARY_SIGNSA = some ⟨.type "tuple", od_UNARY_SIGNS, .seq it_UNARY_SIGNS n_UNARY_SIGNS, sl_UNARY_SIGNS⟩)
    (l_ROOT_HOOKS : K.lookup v_ROOT_HOOKSA = some ⟨.type "tuple", od_ROOT_HOOKS, .seq it_ROOT_HOOKS n_ROOT_HOOKS, sl_ROOT_HOOKS⟩)
    (l_MK : K.lookup vM3 = some ⟨.type "tuple", od_MK, .seq #[.ref vM0, .ref vM1, .ref vM2] n_MK, sl_MK⟩)
    (l_M0 : K.lookup vM0 = some ⟨.type "tuple", od_M0, .seq it_M0 n_M0, sl_M0⟩)
    (l_M1 : K.lookup vM1 = some ⟨.type "tuple", od_M1, .seq it_M1 n_M1, sl_M1⟩)
    (l_M2 : K.lookup vM2 = some ⟨.type "tuple", od_M2, .seq it_M2 n_M2, sl_M2⟩)
    (hd_HE : PySem.W.hasDictIn K C_HE = true)
    (ty_HE : PySem.W.typeIn K (.ref C_HE) = some (.type "type"))
    (sH_NoSign : PySem.W.subIn K (.ref C_NoSign) (.ref C_HE) = some true)
    (sH_BadMaker : PySem.W.subIn K (.ref C_BadMaker) (.ref C_HE) = some true)
    (sL_NoSign : PySem.W.subIn K (.ref C_NoSign) (.type "LookupError") = some false)
    (sL_BadMaker : PySem.W.subIn K (.ref C_BadMaker) (.type "LookupError") = some false)
    (s_BN : PySem.W.subIn K (.ref C_BadMaker) (.ref C_NoSign) = some false)
    (hm_Library : PySem.W.mroIn K C_Library (.type "object") = some true)
    (tyI_Library : PySem.W.typeIn K (.ref C_Library) = some (.type "type"))
    (s_TL : PySem.W.subIn K (.type "tuple") (.ref C_Library) = some false)
    (c__is_within : PySem.W.codeIn K cd__is_within "_is_within" = true)
    (k__is_within : PySem.W.keepIn K (.ref g__is_within) = true)
    (c_is_small_word : PySem.W.codeIn K cd_is_small_word "is_small_word" = true)
    (k_is_small_word : PySem.W.keepIn K (.ref g_is_small_word) = true)
    (c_is_class_name : PySem.W.codeIn K cd_is_class_name "is_class_name" = true)
    (k_is_class_name : PySem.W.keepIn K (.ref g_is_class_name) = true)
    (c_is_field_name : PySem.W.codeIn K cd_is_field_name "is_field_name" = true)
    (k_is_field_name : PySem.W.keepIn K (.ref g_is_field_name) = true)
    (c_is_request : PySem.W.codeIn K cd_is_request "is_request" = true)
    (k_is_request : PySem.W.keepIn K (.ref g_is_request) = true)
    (c_arity_of : PySem.W.codeIn K cd_arity_of "arity_of" = true)
    (k_arity_of : PySem.W.keepIn K (.ref g_arity_of) = true)
    (c__is_first_row : PySem.W.codeIn K cd__is_first_row "_is_first_row" = true)
    (k__is_first_row : PySem.W.keepIn K (.ref g__is_first_row) = true)
    (c__is_hook_row : PySem.W.codeIn K cd__is_hook_row "_is_hook_row" = true)
    (k__is_hook_row : PySem.W.keepIn K (.ref g__is_hook_row) = true)
    (c__parameters_of : PySem.W.codeIn K cd__parameters_of "_parameters_of" = true)
    (k__parameters_of : PySem.W.keepIn K (.ref g__parameters_of) = true)
    (c__kept_of : PySem.W.codeIn K cd__kept_of "_kept_of" = true)
    (k__kept_of : PySem.W.keepIn K (.ref g__kept_of) = true)
    (c__is_selection : PySem.W.codeIn K cd__is_selection "_is_selection" = true)
    (k__is_selection : PySem.W.keepIn K (.ref g__is_selection) = true)
    (c__request_of : PySem.W.codeIn K cd__request_of "_request_of" = true)
    (k__request_of : PySem.W.keepIn K (.ref g__request_of) = true)
    (c__operation_of : PySem.W.codeIn K cd__operation_of "_operation_of" = true)
    (k__operation_of : PySem.W.keepIn K (.ref g__operation_of) = true)
    (q1_BadLibrary : PySem.W.excInitIn K C_BadLibrary veT "ValueError.__new__" = true)
    (q2_BadLibrary : PySem.W.excOver K C_BadLibrary veT = true)
    (sb_BadLibrary : PySem.W.subIn K (.ref C_BadLibrary) (.type "BaseException") = some true)
    (so_BadLibrary : PySem.W.mroIn K C_BadLibrary (.type "object") = some true)
    (ss_BadLibrary : PySem.W.subIn K (.ref C_BadLibrary) (.ref C_BadLibrary) = some true)
    (hd_BadLibrary : PySem.W.hasDictIn K C_BadLibrary = true)
    (kC_BadLibrary : PySem.W.keepIn K (.ref C_BadLibrary) = true)
    (ty_BadLibrary : PySem.W.typeIn K (.ref C_BadLibrary) = some (.type "type"))
    (hn : PySem.W.specialIn K (.builtin "object.__class__") "__get__" = some (some (.builtin "getset_descriptor.__get__")))
    (ht : PySem.W.takesIn K (.builtin "object.__class__") = some true)
    (c_BadLibrary___init__ : PySem.W.codeIn K cd_BadLibrary___init__ "BadLibrary.__init__" = true)
    (k_BadLibrary___init__ : PySem.W.keepIn K (.ref g_BadLibrary___init__) = true)
    (f_BadLibrary___init__ : PySem.W.isFn K (.ref g_BadLibrary___init__) = true)
    (c__operations_of : PySem.W.codeIn K cd__operations_of "_operations_of" = true)
    (k__operations_of : PySem.W.keepIn K (.ref g__operations_of) = true)
    (c__root_lines : PySem.W.codeIn K cd__root_lines "_root_lines" = true)
    (k__root_lines : PySem.W.keepIn K (.ref g__root_lines) = true)
    (c__operation_line : PySem.W.codeIn K cd__operation_line "_operation_line" = true)
    (k__operation_line : PySem.W.keepIn K (.ref g__operation_line) = true)
    (pg_Library : PySem.W.plainGet K C_Library Str.empty = true)
    (hd_Library : PySem.W.hasDictIn K C_Library = true)
    (po_Library : PySem.W.plainOver K C_Library = true)
    (kC_Library : PySem.W.keepIn K (.ref C_Library) = true)
    (mk_Library : PySem.W.makesIn K C_Library = true)
    (rd_Library : PySem.W.readsIn K C_Library (.type "type") = true)
    (ga_Library : PySem.W.specialIn K (.ref C_Library) "__getattribute__" = some (some (.builtin "type.__getattribute__")))
    (ic_Library : PySem.W.isClsIn K C_Library = true)
    (c_Library___init__ : PySem.W.codeIn K cd_Library___init__ "Library.__init__" = true)
    (k_Library___init__ : PySem.W.keepIn K (.ref g_Library___init__) = true)
    (f_Library___init__ : PySem.W.isFn K (.ref g_Library___init__) = true)
    (c_Library_read : PySem.W.codeIn K cd_Library_read "Library.read" = true)
    (k_Library_read : PySem.W.keepIn K (.ref g_Library_read) = true)
    (fn_Library_read : PySem.W.fnIn K g_Library_read = true)
    (c__law_take : PySem.W.codeIn K cd__law_take "_law_take" = true)
    (k__law_take : PySem.W.keepIn K (.ref g__law_take) = true)
    (c__law_bag : PySem.W.codeIn K cd__law_bag "_law_bag" = true)
    (k__law_bag : PySem.W.keepIn K (.ref g__law_bag) = true)
    (c__law_of : PySem.W.codeIn K cd__law_of "_law_of" = true)
    (k__law_of : PySem.W.keepIn K (.ref g__law_of) = true)
    (c_Library_makers : PySem.W.codeIn K cd_Library_makers "Library.makers" = true)
    (k_Library_makers : PySem.W.keepIn K (.ref g_Library_makers) = true)
    (kd_makers : PySem.W.nsIn K kD_makers "hook" = some (some (.bool true)))
    (ti_makers : PySem.W.typeIn K (.ref p_makers) = some (.type "staticmethod"))
    (sg_makers : PySem.W.specialIn K (.ref p_makers) "__get__" = some (some (.builtin "staticmethod.__get__")))
    (tk_makers : PySem.W.takesIn K (.ref p_makers) = some false)
    (c_Library___contains__ : PySem.W.codeIn K cd_Library___contains__ "Library.__contains__" = true)
    (k_Library___contains__ : PySem.W.keepIn K (.ref g_Library___contains__) = true)
    (f_Library___contains__ : PySem.W.isFn K (.ref g_Library___contains__) = true)
    (c__law_makers : PySem.W.codeIn K cd__law_makers "_law_makers" = true)
    (k__law_makers : PySem.W.keepIn K (.ref g__law_makers) = true)
    (c__law_words : PySem.W.codeIn K cd__law_words "_law_words" = true)
    (k__law_words : PySem.W.keepIn K (.ref g__law_words) = true)
    (c__law_titles : PySem.W.codeIn K cd__law_titles "_law_titles" = true)
    (k__law_titles : PySem.W.keepIn K (.ref g__law_titles) = true)
    (c__law_lines : PySem.W.codeIn K cd__law_lines "_law_lines" = true)
    (k__law_lines : PySem.W.keepIn K (.ref g__law_lines) = true)
    (c_own_copy : PySem.W.codeIn K cd_own_copy "own_copy" = true)
    (k_own_copy : PySem.W.keepIn K (.ref g_own_copy) = true)
    (q1_NoSign : PySem.W.excInitIn K C_NoSign veT "ValueError.__new__" = true)
    (q2_NoSign : PySem.W.excOver K C_NoSign veT = true)
    (sb_NoSign : PySem.W.subIn K (.ref C_NoSign) (.type "BaseException") = some true)
    (so_NoSign : PySem.W.mroIn K C_NoSign (.type "object") = some true)
    (ss_NoSign : PySem.W.subIn K (.ref C_NoSign) (.ref C_NoSign) = some true)
    (hd_NoSign : PySem.W.hasDictIn K C_NoSign = true)
    (kC_NoSign : PySem.W.keepIn K (.ref C_NoSign) = true)
    (ty_NoSign : PySem.W.typeIn K (.ref C_NoSign) = some (.type "type"))
    (c_NoSign___init__ : PySem.W.codeIn K cd_NoSign___init__ "NoSign.__init__" = true)
    (k_NoSign___init__ : PySem.W.keepIn K (.ref g_NoSign___init__) = true)
    (f_NoSign___init__ : PySem.W.isFn K (.ref g_NoSign___init__) = true)
    (q1_BadMaker : PySem.W.excInitIn K C_BadMaker veT "ValueError.__new__" = true)
    (q2_BadMaker : PySem.W.excOver K C_BadMaker veT = true)
    (sb_BadMaker : PySem.W.subIn K (.ref C_BadMaker) (.type "BaseException") = some true)
    (so_BadMaker : PySem.W.mroIn K C_BadMaker (.type "object") = some true)
    (ss_BadMaker : PySem.W.subIn K (.ref C_BadMaker) (.ref C_BadMaker) = some true)
    (hd_BadMaker : PySem.W.hasDictIn K C_BadMaker = true)
    (kC_BadMaker : PySem.W.keepIn K (.ref C_BadMaker) = true)
    (ty_BadMaker : PySem.W.typeIn K (.ref C_BadMaker) = some (.type "type"))
    (c_BadMaker___init__ : PySem.W.codeIn K cd_BadMaker___init__ "BadMaker.__init__" = true)
    (k_BadMaker___init__ : PySem.W.keepIn K (.ref g_BadMaker___init__) = true)
    (f_BadMaker___init__ : PySem.W.isFn K (.ref g_BadMaker___init__) = true)
    (c_Library__check : PySem.W.codeIn K cd_Library__check "Library._check" = true)
    (k_Library__check : PySem.W.keepIn K (.ref g_Library__check) = true)
    (f_Library__check : PySem.W.isFn K (.ref g_Library__check) = true)
    (c_Library_with_maker : PySem.W.codeIn K cd_Library_with_maker "Library.with_maker" = true)
    (k_Library_with_maker : PySem.W.keepIn K (.ref g_Library_with_maker) = true)
    (f_Library_with_maker : PySem.W.isFn K (.ref g_Library_with_maker) = true)
    (c_Library_arity : PySem.W.codeIn K cd_Library_arity "Library.arity" = true)
    (k_Library_arity : PySem.W.keepIn K (.ref g_Library_arity) = true)
    (f_Library_arity : PySem.W.isFn K (.ref g_Library_arity) = true)
    (c_Library_changed : PySem.W.codeIn K cd_Library_changed "Library.changed" = true)
    (k_Library_changed : PySem.W.keepIn K (.ref g_Library_changed) = true)
    (f_Library_changed : PySem.W.isFn K (.ref g_Library_changed) = true)
    (c_Library_maker_of : PySem.W.codeIn K cd_Library_maker_of "Library.maker_of" = true)
    (k_Library_maker_of : PySem.W.keepIn K (.ref g_Library_maker_of) = true)
    (f_Library_maker_of : PySem.W.isFn K (.ref g_Library_maker_of) = true)
    (c_Library_signs : PySem.W.codeIn K cd_Library_signs "Library.signs" = true)
    (k_Library_signs : PySem.W.keepIn K (.ref g_Library_signs) = true)
    (f_Library_signs : PySem.W.isFn K (.ref g_Library_signs) = true)
    (c_Library___str__ : PySem.W.codeIn K cd_Library___str__ "Library.__str__" = true)
    (k_Library___str__ : PySem.W.keepIn K (.ref g_Library___str__) = true)
    (f_Library___str__ : PySem.W.isFn K (.ref g_Library___str__) = true)
    (c_Library___eq__ : PySem.W.codeIn K cd_Library___eq__ "Library.__eq__" = true)
    (k_Library___eq__ : PySem.W.keepIn K (.ref g_Library___eq__) = true)
    (f_Library___eq__ : PySem.W.isFn K (.ref g_Library___eq__) = true)
    (c__law_exchanged : PySem.W.codeIn K cd__law_exchanged "_law_exchanged" = true)
    (k__law_exchanged : PySem.W.keepIn K (.ref g__law_exchanged) = true)
    (c__law_has : PySem.W.codeIn K cd__law_has "_law_has" = true)
    (k__law_has : PySem.W.keepIn K (.ref g__law_has) = true)
    (c__law_library : PySem.W.codeIn K cd__law_library "_law_library" = true)
    (k__law_library : PySem.W.keepIn K (.ref g__law_library) = true)
    (c_law : PySem.W.codeIn K cd_law "law" = true)
    (k_law : PySem.W.keepIn K (.ref g_law) = true)
    (o_NO_FIELDS : strsIn it_NO_FIELDS.toList noFields = true)
    (o_BINARY_SIGNS : strsIn it_BINARY_SIGNS.toList binary = true)
    (o_UNARY_SIGNS : strsIn it_UNARY_SIGNS.toList unary = true)
    (o_ROOT_HOOKS : strsIn it_ROOT_HOOKS.toList rootHooks = true)
    (o_M0 : strsIn it_M0.toList makers0 = true)
    (o_M1 : strsIn it_M1.toList makers1 = true)
    (o_M2 : strsIn it_M2.toList makers2 = true)
    : ∃ fd : FuncData, (∀ (s : Shared) (v : Value), BindsTo s fd ⟨[v], []⟩ [("script", v)]) ∧ ∀ base : Heap, K.In base → base.Ns mainGlobals mg → FnOk l.prog w K mg base CX0 9 fa fd ["script"] (spLaw K) := by
  have e := hfa.symm.trans (PySem.W.mg_of X G a_law)
  cases e
  have T : Cst K mg := ⟨⟨PySem.W.mg_none_of X G z_isinstance, PySem.W.mg_none_of X G z_list, PySem.W.mg_none_of X G z_tuple, PySem.W.mg_none_of X G z_int, PySem.W.mg_none_of X G z_str, PySem.W.mg_none_of X G z_bool, PySem.W.mg_none_of X G z_len, PySem.W.mg_none_of X G z_abs, PySem.W.mg_none_of X G z_max, PySem.W.mg_none_of X G z_min, PySem.W.mg_none_of X G z_range, PySem.W.mg_none_of X G z_enumerate, PySem.W.mg_none_of X G z_all, PySem.W.mg_none_of X G z_ValueError, PySem.W.mg_none_of X G z_LookupError, PySem.W.mg_none_of X G z_KeyError, PySem.W.mg_none_of X G z_IndexError⟩, ⟨_, PySem.W.mg_of X G v_LONGEST_NAME, ⟨_, rfl⟩⟩, ⟨_, PySem.W.mg_of X G v_MOST_PARAMETERS, ⟨_, rfl⟩⟩, ⟨_, PySem.W.mg_of X G v_MOST_KEPT, ⟨_, rfl⟩⟩, ⟨_, PySem.W.mg_of X G v_MOST_OPERATIONS, ⟨_, rfl⟩⟩, ⟨_, PySem.W.mg_of X G v_NO_FIELDS, (tupk_of l_NO_FIELDS o_NO_FIELDS (by decide +kernel))⟩, ⟨_, PySem.W.mg_of X G v_BINARY_SIGNS, (tupk_of l_BINARY_SIGNS o_BINARY_SIGNS (by decide +kernel))⟩, ⟨_, PySem.W.mg_of X G v_UNARY_SIGNS, (tupk_of l_UNARY_SIGNS o_UNARY_SIGNS (by decide +kernel))⟩, ⟨_, PySem.W.mg_of X G v_ROOT_HOOKS, (tupk_of l_ROOT_HOOKS o_ROOT_HOOKS (by decide +kernel))⟩, ⟨_, vM0, vM1, vM2, PySem.W.mg_of X G v_MAKERS, ⟨_, _, _, l_MK, rfl, rfl, by show 3 ≤ sizeLine; decide, .cons rfl (.cons rfl (.cons rfl .nil))⟩, (tupk_of l_M0 o_M0 (by decide +kernel)), (tupk_of l_M1 o_M1 (by decide +kernel)), (tupk_of l_M2 o_M2 (by decide +kernel))⟩⟩
  refine ⟨PySem.W.fnOf "law" "law" (defArgs s_law) (defBody s_law) (defScope s_law) .none kV_law dc_law pm_law an_law cd_law ct_law, fun s v => .of_eq rfl, fun base _ _ => ?_⟩
  have U__is_within := fun_mk (st := s_is_within) l__is_within c__is_within k__is_within
  have Z1 : Ok l.prog w K mg base 1 "_is_within" ["word", "low", "high"] spWithin := ⟨_, _, (ok_is_within U__is_within T), PySem.W.mg_of X G a__is_within, k__is_within, U__is_within.binds (ps := ["word", "low", "high"]) (fun _ _ _ _ _ _ us hl => match us, hl with | [_, _, _], _ => rfl)⟩
  have U_is_small_word := fun_mk (st := s_is_small_word) l_is_small_word c_is_small_word k_is_small_word
  have Z2 : Ok l.prog w K mg base 2 "is_small_word" ["word"] (spW1 small) := ⟨_, _, (ok_is_small_word U_is_small_word T Z1), PySem.W.mg_of X G a_is_small_word, k_is_small_word, U_is_small_word.binds (ps := ["word"]) (fun _ _ _ _ _ _ us hl => match us, hl with | [_], _ => rfl)⟩
  have U_is_class_name := fun_mk (st := s_is_class_name) l_is_class_name c_is_class_name k_is_class_name
  have Z3 : Ok l.prog w K mg base 2 "is_class_name" ["word"] (spW1 className) := ⟨_, _, (ok_is_class_name U_is_class_name T Z1), PySem.W.mg_of X G a_is_class_name, k_is_class_name, U_is_class_name.binds (ps := ["word"]) (fun _ _ _ _ _ _ us hl => match us, hl with | [_], _ => rfl)⟩
  have U_is_field_name := fun_mk (st := s_is_field_name) l_is_field_name c_is_field_name k_is_field_name
  have Z4 : Ok l.prog w K mg base 3 "is_field_name" ["word"] (spW1 fieldName) := ⟨_, _, (ok_is_field_name U_is_field_name T Z2), PySem.W.mg_of X G a_is_field_name, k_is_field_name, U_is_field_name.binds (ps := ["word"]) (fun _ _ _ _ _ _ us hl => match us, hl with | [_], _ => rfl)⟩
  have U_is_request := fun_mk (st := s_is_request) l_is_request c_is_request k_is_request
  have Z5 : Ok l.prog w K mg base 3 "is_request" ["word"] (spW1 request) := ⟨_, _, (ok_is_request U_is_request T Z2), PySem.W.mg_of X G a_is_request, k_is_request, U_is_request.binds (ps := ["word"]) (fun _ _ _ _ _ _ us hl => match us, hl with | [_], _ => rfl)⟩
  have U_arity_of := fun_mk (st := s_arity_of) l_arity_of c_arity_of k_arity_of
  have Z6 : Ok l.prog w K mg base 1 "arity_of" ["sign"] spArity := ⟨_, _, (ok_arity_of U_arity_of T), PySem.W.mg_of X G a_arity_of, k_arity_of, U_arity_of.binds (ps := ["sign"]) (fun _ _ _ _ _ _ us hl => match us, hl with | [_], _ => rfl)⟩
  have U__is_first_row := fun_mk (st := s_is_first_row) l__is_first_row c__is_first_row k__is_first_row
  have Z7 : Ok l.prog w K mg base 3 "_is_first_row" ["row"] (spRowB firstRow) := ⟨_, _, (ok_is_first_row U__is_first_row T Z3), PySem.W.mg_of X G a__is_first_row, k__is_first_row, U__is_first_row.binds (ps := ["row"]) (fun _ _ _ _ _ _ us hl => match us, hl with | [_], _ => rfl)⟩
  have U__is_hook_row := fun_mk (st := s_is_hook_row) l__is_hook_row c__is_hook_row k__is_hook_row
  have Z8 : Ok l.prog w K mg base 1 "_is_hook_row" ["row"] (spRowB hookRow) := ⟨_, _, (ok_is_hook_row U__is_hook_row T), PySem.W.mg_of X G a__is_hook_row, k__is_hook_row, U__is_hook_row.binds (ps := ["row"]) (fun _ _ _ _ _ _ us hl => match us, hl with | [_], _ => rfl)⟩
  have U__parameters_of := fun_mk (st := s_parameters_of) l__parameters_of c__parameters_of k__parameters_of
  have Z9 : Ok l.prog w K mg base 4 "_parameters_of" ["rows"] spParams := ⟨_, _, (ok_parameters_of U__parameters_of T Z4), PySem.W.mg_of X G a__parameters_of, k__parameters_of, U__parameters_of.binds (ps := ["rows"]) (fun _ _ _ _ _ _ us hl => match us, hl with | [_], _ => rfl)⟩
  have U__kept_of := fun_mk (st := s_kept_of) l__kept_of c__kept_of k__kept_of
  have Z10 : Ok l.prog w K mg base 4 "_kept_of" ["rows", "parameters"] (spKept K) := ⟨_, _, (ok_kept_of U__kept_of T Z4), PySem.W.mg_of X G a__kept_of, k__kept_of, U__kept_of.binds (ps := ["rows", "parameters"]) (fun _ _ _ _ _ _ us hl => match us, hl with | [_, _], _ => rfl)⟩
  have U__is_selection := fun_mk (st := s_is_selection) l__is_selection c__is_selection k__is_selection
  have Z11 : Ok l.prog w K mg base 1 "_is_selection" ["words", "parameters"] (spSel K) := ⟨_, _, (ok_is_selection U__is_selection T), PySem.W.mg_of X G a__is_selection, k__is_selection, U__is_selection.binds (ps := ["words", "parameters"]) (fun _ _ _ _ _ _ us hl => match us, hl with | [_, _], _ => rfl)⟩
  have U__request_of := fun_mk (st := s_request_of) l__request_of c__request_of k__request_of
  have Z12 : Ok l.prog w K mg base 4 "_request_of" ["row", "parameters"] (spOp K requestM) := ⟨_, _, (ok_request_of U__request_of T Z5), PySem.W.mg_of X G a__request_of, k__request_of, U__request_of.binds (ps := ["row", "parameters"]) (fun _ _ _ _ _ _ us hl => match us, hl with | [_, _], _ => rfl)⟩
  have U__operation_of := fun_mk (st := s_operation_of) l__operation_of c__operation_of k__operation_of
  have Z13 : Ok l.prog w K mg base 5 "_operation_of" ["row", "parameters"] (spOp K opM) := ⟨_, _, (ok_operation_of U__operation_of T Z12 Z6 Z11), PySem.W.mg_of X G a__operation_of, k__operation_of, U__operation_of.binds (ps := ["row", "parameters"]) (fun _ _ _ _ _ _ us hl => match us, hl with | [_, _], _ => rfl)⟩
  have x_BadLibrary : XCls K C_BadLibrary := ⟨⟨_, _, _, _, PySem.F.excBase_ValueError, PySem.F.store_ValueError, q1_BadLibrary, q2_BadLibrary⟩, sa_BadLibrary, ⟨hg_BadLibrary, hk_BadLibrary, sb_BadLibrary, hd_BadLibrary, ha_BadLibrary, hn, ht, so_BadLibrary⟩, kC_BadLibrary⟩
  have cc_BadLibrary : CatchC K mg "BadLibrary" C_BadLibrary := ⟨PySem.W.mg_of X G a_BadLibrary, PySem.W.exm_ref sb_BadLibrary hd_BadLibrary ty_BadLibrary ss_BadLibrary⟩
  have U_BadLibrary___init__ := fun_mk (st := s_BadLibrary___init__) l_BadLibrary___init__ c_BadLibrary___init__ k_BadLibrary___init__
  have Z14 : OkC l.prog w K mg base 1 "BadLibrary" C_BadLibrary ["self", "at"] (spErr1 C_BadLibrary "at") := ⟨x_BadLibrary, PySem.W.mg_of X G a_BadLibrary, _, _, (ok_BadLibrary U_BadLibrary___init__ x_BadLibrary na_BadLibrary_at), i_BadLibrary___init__, f_BadLibrary___init__, U_BadLibrary___init__.binds (ps := ["self", "at"]) (fun _ _ _ _ _ _ us hl => match us, hl with | [_, _], _ => rfl)⟩
  have U__operations_of := fun_mk (st := s_operations_of) l__operations_of c__operations_of k__operations_of
  have Z15 : OkX l.prog w K mg base 6 "_operations_of" ["rows", "start", "parameters", "root_hook"] (spOps C_BadLibrary) := ⟨_, _, (ok_operations_of U__operations_of T Z13 Z14 ty_BadLibrary), PySem.W.mg_of X G a__operations_of, k__operations_of, U__operations_of.binds (ps := ["rows", "start", "parameters", "root_hook"]) (fun _ _ _ _ _ _ us hl => match us, hl with | [_, _, _, _], _ => rfl)⟩
  have U__root_lines := fun_mk (st := s_root_lines) l__root_lines c__root_lines k__root_lines
  have Z16 : Ok l.prog w K mg base 1 "_root_lines" ["name", "parameters", "kept", "hook"] (spRootLines K) := ⟨_, _, (ok_root_lines U__root_lines T), PySem.W.mg_of X G a__root_lines, k__root_lines, U__root_lines.binds (ps := ["name", "parameters", "kept", "hook"]) (fun _ _ _ _ _ _ us hl => match us, hl with | [_, _, _, _], _ => rfl)⟩
  have U__operation_line := fun_mk (st := s_operation_line) l__operation_line c__operation_line k__operation_line
  have Z17 : Ok l.prog w K mg base 2 "_operation_line" ["sign", "changed", "maker"] (spOpLine K) := ⟨_, _, (ok_operation_line U__operation_line T Z6), PySem.W.mg_of X G a__operation_line, k__operation_line, U__operation_line.binds (ps := ["sign", "changed", "maker"]) (fun _ _ _ _ _ _ us hl => match us, hl with | [_, _, _], _ => rfl)⟩
  have cl_Library : Cls K C_Library := ⟨pg_Library, hd_Library, po_Library, sa_Library⟩
  have hC : LibC K C_Library := ⟨cl_Library, fun f hf => by simp only [List.mem_cons, List.not_mem_nil, or_false] at hf; rcases hf with rfl | rfl | rfl | rfl | rfl | rfl | rfl | rfl | rfl; exact nA_Library_0; exact nA_Library_1; exact nA_Library_2; exact nA_Library_3; exact nA_Library_4; exact nA_Library_5; exact nA_Library_6; exact nA_Library_7; exact nA_Library_8⟩
  have U_Library___init__ := fun_mk (st := s_Library___init__) l_Library___init__ c_Library___init__ k_Library___init__
  have Z18 : OkI l.prog w K mg base 3 "Library" C_Library ["self", "name", "root_parameters", "kept", "root_hook", "operations"] (spInit K C_Library) := ⟨PySem.W.mg_of X G a_Library, _, _, (ok_init U_Library___init__ T hC Z16 Z17), ⟨mk_Library, i_Library___init__, f_Library___init__, kC_Library⟩, U_Library___init__.binds (ps := ["self", "name", "root_parameters", "kept", "root_hook", "operations"]) (fun _ _ _ _ _ _ us hl => match us, hl with | [_, _, _, _, _, _], _ => rfl)⟩
  have U_Library_read := fun_mk (st := s_Library_read) l_Library_read c_Library_read k_Library_read
  have Z19 : OkCM l.prog w K mg base 7 C_Library "read" ["cls", "text"] (spRead K C_Library C_BadLibrary) := ⟨p_Library_read, _, _, _, (ok_read U_Library_read T hC Z7 Z8 Z9 Z10 Z15 Z18 Z14 ty_BadLibrary), ⟨rd_Library, ga_Library⟩, ⟨fc_Library_read, ⟨rs_Library_read, rc_Library_read⟩, fn_Library_read⟩, U_Library_read.binds (ps := ["cls", "text"]) (fun _ _ _ _ _ _ us hl => match us, hl with | [_, _], _ => rfl)⟩
  have U__law_take := fun_mk (st := s_law_take) l__law_take c__law_take k__law_take
  have Z20 : Ok l.prog w K mg base 1 "_law_take" ["bag", "many"] spTake := ⟨_, _, (ok_law_take U__law_take T), PySem.W.mg_of X G a__law_take, k__law_take, U__law_take.binds (ps := ["bag", "many"]) (fun _ _ _ _ _ _ us hl => match us, hl with | [_, _], _ => rfl)⟩
  have U__law_bag := fun_mk (st := s_law_bag) l__law_bag c__law_bag k__law_bag
  have Z21 : Ok l.prog w K mg base 1 "_law_bag" ["script", "at", "salt"] (spBag K) := ⟨_, _, (ok_law_bag U__law_bag T), PySem.W.mg_of X G a__law_bag, k__law_bag, U__law_bag.binds (ps := ["script", "at", "salt"]) (fun _ _ _ _ _ _ us hl => match us, hl with | [_, _, _], _ => rfl)⟩
  have U__law_of := fun_mk (st := s_law_of) l__law_of c__law_of k__law_of
  have Z22 : Ok l.prog w K mg base 2 "_law_of" ["bag", "some"] spOf := ⟨_, _, (ok_law_of U__law_of T Z20), PySem.W.mg_of X G a__law_of, k__law_of, U__law_of.binds (ps := ["bag", "some"]) (fun _ _ _ _ _ _ us hl => match us, hl with | [_, _], _ => rfl)⟩
  have U_Library_makers := fun_mk (st := s_Library_makers) l_Library_makers c_Library_makers k_Library_makers
  obtain ⟨⟨dsm, Dm, Bm⟩, Km⟩ := makers_binds (K := K) (f := g_Library_makers) ⟨⟨_, _, _, _, _, _, _, _, _, _, rfl, l_Library_makers, c_Library_makers, .inl ⟨rfl, rfl⟩, .inr ⟨kD_makers, rfl, fun q hq => by rw [List.mem_singleton.mp hq]; exact ⟨_, kd_makers, rfl⟩⟩⟩, k_Library_makers⟩
  have Fm := ok_makers (P := l.prog) (w := w) (base := base) U_Library_makers T
  have Sm : SM K C_Library "makers" g_Library_makers := ⟨⟨_, p_makers, rs_makers, ⟨rd_Library, ga_Library⟩, fc_makers, rc_makers⟩, k_Library_makers⟩
  have SmI : SMI K C_Library "makers" g_Library_makers := ⟨pg_Library, ic_Library, by decide +kernel, ⟨p_makers, rs_makers, fi_makers, ti_makers, sg_makers, tk_makers, rc_makers⟩, k_Library_makers⟩
  have OkMk_ : OkMk l.prog w K mg base C_Library := ⟨_, _, Fm, Sm, Km⟩
  have U_Library___contains__ := fun_mk (st := s_Library___contains__) l_Library___contains__ c_Library___contains__ k_Library___contains__
  have Z23 : OkM CX0 l.prog w K mg base 1 C_Library "__contains__" ["self", "x"] (spHas K C_Library) := ⟨_, _, (ok_contains U_Library___contains__ T hC), ⟨m_Library___contains__, f_Library___contains__, k_Library___contains__⟩, U_Library___contains__.binds (ps := ["self", "x"]) (fun _ _ _ _ _ _ us hl => match us, hl with | [_, _], _ => rfl)⟩
  have U__law_makers := fun_mk (st := s_law_makers) l__law_makers c__law_makers k__law_makers
  have Z24 : Ok l.prog w K mg base 1 "_law_makers" ["arity", "hooked"] spLawMakers := ⟨_, _, (ok_law_makers U__law_makers T), PySem.W.mg_of X G a__law_makers, k__law_makers, U__law_makers.binds (ps := ["arity", "hooked"]) (fun _ _ _ _ _ _ us hl => match us, hl with | [_, _], _ => rfl)⟩
  have U__law_words := fun_mk (st := s_law_words) l__law_words c__law_words k__law_words
  have Z25 : Ok l.prog w K mg base 3 "_law_words" ["bag", "many"] spWords := ⟨_, _, (ok_law_words U__law_words T Z20 Z22), PySem.W.mg_of X G a__law_words, k__law_words, U__law_words.binds (ps := ["bag", "many"]) (fun _ _ _ _ _ _ us hl => match us, hl with | [_, _], _ => rfl)⟩
  have U__law_titles := fun_mk (st := s_law_titles) l__law_titles c__law_titles k__law_titles
  have Z26 : Ok l.prog w K mg base 3 "_law_titles" ["bag", "many"] spTitles := ⟨_, _, (ok_law_titles U__law_titles T Z20 Z22), PySem.W.mg_of X G a__law_titles, k__law_titles, U__law_titles.binds (ps := ["bag", "many"]) (fun _ _ _ _ _ _ us hl => match us, hl with | [_, _], _ => rfl)⟩
  have U__law_lines := fun_mk (st := s_law_lines) l__law_lines c__law_lines k__law_lines
  have Z27 : Ok l.prog w K mg base 1 "_law_lines" ["lib"] spLines := ⟨_, _, (ok_law_lines U__law_lines T), PySem.W.mg_of X G a__law_lines, k__law_lines, U__law_lines.binds (ps := ["lib"]) (fun _ _ _ _ _ _ us hl => match us, hl with | [_], _ => rfl)⟩
  have U_own_copy := fun_mk (st := s_own_copy) l_own_copy c_own_copy k_own_copy
  have Z28 : Ok l.prog w K mg base 1 "own_copy" ["thing"] spOwnS := ⟨_, _, (ok_own_copy0 U_own_copy T), PySem.W.mg_of X G a_own_copy, k_own_copy, U_own_copy.binds (ps := ["thing"]) (fun _ _ _ _ _ _ us hl => match us, hl with | [_], _ => rfl)⟩
  have Z29 : Ok l.prog w K mg base 2 "own_copy" ["thing"] spOwn := ⟨_, _, (ok_own_copy U_own_copy T Z28), PySem.W.mg_of X G a_own_copy, k_own_copy, U_own_copy.binds (ps := ["thing"]) (fun _ _ _ _ _ _ us hl => match us, hl with | [_], _ => rfl)⟩
  have x_NoSign : XCls K C_NoSign := ⟨⟨_, _, _, _, PySem.F.excBase_ValueError, PySem.F.store_ValueError, q1_NoSign, q2_NoSign⟩, sa_NoSign, ⟨hg_NoSign, hk_NoSign, sb_NoSign, hd_NoSign, ha_NoSign, hn, ht, so_NoSign⟩, kC_NoSign⟩
  have cc_NoSign : CatchC K mg "NoSign" C_NoSign := ⟨PySem.W.mg_of X G a_NoSign, PySem.W.exm_ref sb_NoSign hd_NoSign ty_NoSign ss_NoSign⟩
  have U_NoSign___init__ := fun_mk (st := s_NoSign___init__) l_NoSign___init__ c_NoSign___init__ k_NoSign___init__
  have Z30 : OkC l.prog w K mg base 3 "NoSign" C_NoSign ["self", "sign"] (spErrO C_NoSign "sign") := ⟨x_NoSign, PySem.W.mg_of X G a_NoSign, _, _, (ok_NoSign U_NoSign___init__ x_NoSign na_NoSign_sign Z29), i_NoSign___init__, f_NoSign___init__, U_NoSign___init__.binds (ps := ["self", "sign"]) (fun _ _ _ _ _ _ us hl => match us, hl with | [_, _], _ => rfl)⟩
  have x_BadMaker : XCls K C_BadMaker := ⟨⟨_, _, _, _, PySem.F.excBase_ValueError, PySem.F.store_ValueError, q1_BadMaker, q2_BadMaker⟩, sa_BadMaker, ⟨hg_BadMaker, hk_BadMaker, sb_BadMaker, hd_BadMaker, ha_BadMaker, hn, ht, so_BadMaker⟩, kC_BadMaker⟩
  have cc_BadMaker : CatchC K mg "BadMaker" C_BadMaker := ⟨PySem.W.mg_of X G a_BadMaker, PySem.W.exm_ref sb_BadMaker hd_BadMaker ty_BadMaker ss_BadMaker⟩
  have U_BadMaker___init__ := fun_mk (st := s_BadMaker___init__) l_BadMaker___init__ c_BadMaker___init__ k_BadMaker___init__
  have Z31 : OkC l.prog w K mg base 3 "BadMaker" C_BadMaker ["self", "maker"] (spErrO C_BadMaker "maker") := ⟨x_BadMaker, PySem.W.mg_of X G a_BadMaker, _, _, (ok_BadMaker U_BadMaker___init__ x_BadMaker na_BadMaker_maker Z29), i_BadMaker___init__, f_BadMaker___init__, U_BadMaker___init__.binds (ps := ["self", "maker"]) (fun _ _ _ _ _ _ us hl => match us, hl with | [_, _], _ => rfl)⟩
  have Z32 : OkM CX0 l.prog w K mg base 1 C_Library "__contains__" ["self", "x"] (spHasX K C_Library) := ⟨_, _, (ok_containsX U_Library___contains__ T hC), ⟨m_Library___contains__, f_Library___contains__, k_Library___contains__⟩, U_Library___contains__.binds (ps := ["self", "x"]) (fun _ _ _ _ _ _ us hl => match us, hl with | [_, _], _ => rfl)⟩
  have U_Library__check := fun_mk (st := s_Library__check) l_Library__check c_Library__check k_Library__check
  have Z33 : OkM (L2.CX l.prog w) l.prog w K mg base 5 C_Library "_check" ["self", "sign"] (spCheckX K C_Library C_NoSign) := ⟨_, _, (ok_checkX U_Library__check T Z32 Z30 ty_NoSign), ⟨m_Library__check, f_Library__check, k_Library__check⟩, U_Library__check.binds (ps := ["self", "sign"]) (fun _ _ _ _ _ _ us hl => match us, hl with | [_, _], _ => rfl)⟩
  have U_Library_with_maker := fun_mk (st := s_Library_with_maker) l_Library_with_maker c_Library_with_maker k_Library_with_maker
  have Z34 : OkM (L2.CX l.prog w) l.prog w K mg base 7 C_Library "with_maker" ["self", "sign", "maker"] (spWithX K C_Library C_NoSign C_BadMaker) := ⟨_, _, (ok_with_maker U_Library_with_maker T hC Z33 Z6 OkMk_ (PySem.W.mg_of X G a_Library) Z18 Z31 ty_BadMaker), ⟨m_Library_with_maker, f_Library_with_maker, k_Library_with_maker⟩, U_Library_with_maker.binds (ps := ["self", "sign", "maker"]) (fun _ _ _ _ _ _ us hl => match us, hl with | [_, _, _], _ => rfl)⟩
  have Z35 : OkM CX0 l.prog w K mg base 2 C_Library "_check" ["self", "sign"] (spCheck K C_Library) := ⟨_, _, (ok_check U_Library__check T Z23), ⟨m_Library__check, f_Library__check, k_Library__check⟩, U_Library__check.binds (ps := ["self", "sign"]) (fun _ _ _ _ _ _ us hl => match us, hl with | [_, _], _ => rfl)⟩
  have U_Library_arity := fun_mk (st := s_Library_arity) l_Library_arity c_Library_arity k_Library_arity
  have Z36 : OkM CX0 l.prog w K mg base 3 C_Library "arity" ["self", "sign"] (spArityM K C_Library) := ⟨_, _, (ok_arity U_Library_arity T hC Z35 Z6), ⟨m_Library_arity, f_Library_arity, k_Library_arity⟩, U_Library_arity.binds (ps := ["self", "sign"]) (fun _ _ _ _ _ _ us hl => match us, hl with | [_, _], _ => rfl)⟩
  have U_Library_changed := fun_mk (st := s_Library_changed) l_Library_changed c_Library_changed k_Library_changed
  have Z37 : OkM CX0 l.prog w K mg base 3 C_Library "changed" ["self", "sign"] (spChanged K C_Library) := ⟨_, _, (ok_changed U_Library_changed T hC Z35), ⟨m_Library_changed, f_Library_changed, k_Library_changed⟩, U_Library_changed.binds (ps := ["self", "sign"]) (fun _ _ _ _ _ _ us hl => match us, hl with | [_, _], _ => rfl)⟩
  have U_Library_maker_of := fun_mk (st := s_Library_maker_of) l_Library_maker_of c_Library_maker_of k_Library_maker_of
  have Z38 : OkM CX0 l.prog w K mg base 3 C_Library "maker_of" ["self", "sign"] (spMakerOf K C_Library) := ⟨_, _, (ok_maker_of U_Library_maker_of T hC Z35), ⟨m_Library_maker_of, f_Library_maker_of, k_Library_maker_of⟩, U_Library_maker_of.binds (ps := ["self", "sign"]) (fun _ _ _ _ _ _ us hl => match us, hl with | [_, _], _ => rfl)⟩
  have U_Library_signs := fun_mk (st := s_Library_signs) l_Library_signs c_Library_signs k_Library_signs
  have Z39 : OkM CX0 l.prog w K mg base 1 C_Library "signs" ["self"] (spSigns K C_Library) := ⟨_, _, (ok_signs U_Library_signs T hC), ⟨m_Library_signs, f_Library_signs, k_Library_signs⟩, U_Library_signs.binds (ps := ["self"]) (fun _ _ _ _ _ _ us hl => match us, hl with | [_], _ => rfl)⟩
  have U_Library___str__ := fun_mk (st := s_Library___str__) l_Library___str__ c_Library___str__ k_Library___str__
  have Z40 : OkM CX0 l.prog w K mg base 1 C_Library "__str__" ["self"] (spStr K C_Library) := ⟨_, _, (ok_str U_Library___str__ T hC), ⟨m_Library___str__, f_Library___str__, k_Library___str__⟩, U_Library___str__.binds (ps := ["self"]) (fun _ _ _ _ _ _ us hl => match us, hl with | [_], _ => rfl)⟩
  have U_Library___eq__ := fun_mk (st := s_Library___eq__) l_Library___eq__ c_Library___eq__ k_Library___eq__
  have Z41 : OkM CX0 l.prog w K mg base 1 C_Library "__eq__" ["self", "other"] (spEq K C_Library) := ⟨_, _, (ok_eq U_Library___eq__ T hC ⟨haI_Library, hn, ht, hm_Library, kit_sub hd_Library tyI_Library s_TL (fun z => by cases z)⟩ (PySem.W.mg_of X G a_Library)), ⟨m_Library___eq__, f_Library___eq__, k_Library___eq__⟩, U_Library___eq__.binds (ps := ["self", "other"]) (fun _ _ _ _ _ _ us hl => match us, hl with | [_, _], _ => rfl)⟩
  have U__law_exchanged := fun_mk (st := s_law_exchanged) l__law_exchanged c__law_exchanged k__law_exchanged
  have Z42 : Ok l.prog w K mg base 8 "_law_exchanged" ["made", "sign", "maker"] (spExch K C_Library) := ⟨_, _, (ok_law_exchanged U__law_exchanged T hC cc_NoSign cc_BadMaker x_NoSign x_BadMaker na_NoSign_sign na_BadMaker_maker (PySem.W.mg_of X G a_HE) ⟨kit_sub hd_HE ty_HE sH_NoSign (fun _ => rfl), kit_subT (by decide +kernel) sL_NoSign⟩ ⟨kit_sub hd_HE ty_HE sH_BadMaker (fun _ => rfl), kit_subT (by decide +kernel) sL_BadMaker⟩ (PySem.W.exm_ref sb_NoSign hd_NoSign ty_NoSign s_BN) Z34), PySem.W.mg_of X G a__law_exchanged, k__law_exchanged, U__law_exchanged.binds (ps := ["made", "sign", "maker"]) (fun _ _ _ _ _ _ us hl => match us, hl with | [_, _, _], _ => rfl)⟩
  have U__law_has := fun_mk (st := s_law_has) l__law_has c__law_has k__law_has
  have Z43 : Ok l.prog w K mg base 4 "_law_has" ["told", "lib"] (spLawHas K C_Library) := ⟨_, _, (ok_law_has U__law_has T hC Z37 Z38 Z36), PySem.W.mg_of X G a__law_has, k__law_has, U__law_has.binds (ps := ["told", "lib"]) (fun _ _ _ _ _ _ us hl => match us, hl with | [_, _], _ => rfl)⟩
  have U__law_library := fun_mk (st := s_law_library) l__law_library c__law_library k__law_library
  have Z44 : Ok l.prog w K mg base 3 "_law_library" ["bag", "fields", "name", "most"] spLib := ⟨_, _, (ok_law_library U__law_library T Z20 Z22 Z24), PySem.W.mg_of X G a__law_library, k__law_library, U__law_library.binds (ps := ["bag", "fields", "name", "most"]) (fun _ _ _ _ _ _ us hl => match us, hl with | [_, _, _, _], _ => rfl)⟩
  have U_law := fun_mk (st := s_law) l_law c_law k_law
  exact ok_law U_law T hC ⟨haI_Library, hn, ht, hm_Library, kit_sub hd_Library tyI_Library s_TL (fun z => by cases z)⟩ (PySem.W.mg_of X G a_Library) Z24 Z21 Z20 Z22 Z25 Z26 Z44 Z27 Z19 Z40 Z41 Z39 Z38 Z42 Z43
theorem walk {l : PySem.W.OpenLaw} {q : Program} {loose : List Str} {XP : (Str → Option Value) → Heap → Prop} {YP : World → Heap → Prop} {d : DefRec} {K : Params → Fg} (hn : l.most = some 63) (hdf : d.params.defaults = [])
    (hY : ∀ (w : World) (h : Heap), YP w h → (K w.params).In h)
    (F : ∀ (w : World) (mg : Str → Option Value) (fa : Addr) (h : Heap), (K w.params).In h → h.Ns mainGlobals mg → mg d.name = some (.ref fa) →
      ∃ fd : FuncData, (∀ (s : Shared) (u : Value), BindsTo s fd ⟨[u], []⟩ [("script", u)]) ∧ ∀ base : Heap, (K w.params).In base → base.Ns mainGlobals mg → FnOk l.prog w (K w.params) mg base CX0 9 fa fd ["script"] (spLaw (K w.params))) :
    PySem.W.WalkO q loose XP YP l.row.toRowW d [] (fun f vs => PySem.call f vs) :=
  L2.walk_of (n := 63) (k := 9) (x := "script") (CX := fun _ => CX0) (sp := fun w => spLaw (K w.params)) hn (by decide) hdf ⟨rfl, by decide, by decide⟩ hY F
    (fun _ _ a ns hl _ hS => ⟨a, ns, rfl, hS, hl, fun _ => rfl⟩) fun _ _ _ _ _ z => z
end K04

open PySem PySem.W PyProof.Rows in
set_option maxRecDepth 100000 in
set_option maxHeartbeats 0 in
theorem PySem.Challenge.cw_heirsback_k04_makers_exchanged_holds : PySem.Challenge.rw_heirsback_k04_makers_exchanged.Holds := by
  w_on; o_law; k_head; (case hw => w_witness2)
  k_fill
  refine K04.walk (l := PySem.Challenge.rw_heirsback_k04_makers_exchanged) rfl rfl (fun w h Y => PySem.W.kIn_of Y) ?F
  case F =>
    intro w mg fa h KX G hmg
    refine' K04.all_mk KX G hmg ?a_HE ?a__is_within ?a_is_small_word ?a_is_class_name ?a_is_field_name ?a_is_request ?a_arity_of ?a__is_first_row ?a__is_hook_row ?a__parameters_of ?a__kept_of ?a__is_selection ?a__request_of ?a__operation_of ?a_BadLibrary ?a__operations_of ?a__root_lines ?a__operation_line ?a_Library ?a__law_take ?a__law_bag ?a__law_of ?a__law_makers ?a__law_words ?a__law_titles ?a__law_lines ?a_own_copy ?a_NoSign ?a_BadMaker ?a__law_exchanged ?a__law_has ?a__law_library ?a_law ?v_LONGEST_NAME ?v_MOST_PARAMETERS ?v_MOST_KEPT ?v_MOST_OPERATIONS ?v_NO_FIELDS ?v_BINARY_SIGNS ?v_UNARY_SIGNS ?v_ROOT_HOOKS ?v_MAKERS ?z_isinstance ?z_list ?z_tuple ?z_int ?z_str ?z_bool ?z_len ?z_abs ?z_max ?z_min ?z_range ?z_enumerate ?z_all ?z_ValueError ?z_LookupError ?z_KeyError ?z_IndexError ?haI_Library ?sa_BadLibrary ?hg_BadLibrary ?hk_BadLibrary ?ha_BadLibrary ?na_BadLibrary_at ?i_BadLibrary___init__ ?sa_Library ?nA_Library_0 ?nA_Library_1 ?nA_Library_2 ?nA_Library_3 ?nA_Library_4 ?nA_Library_5 ?nA_Library_6 ?nA_Library_7 ?nA_Library_8 ?i_Library___init__ ?fc_Library_read ?fc_makers ?fi_makers ?m_Library___contains__ ?sa_NoSign ?hg_NoSign ?hk_NoSign ?ha_NoSign ?na_NoSign_sign ?i_NoSign___init__ ?sa_BadMaker ?hg_BadMaker ?hk_BadMaker ?ha_BadMaker ?na_BadMaker_maker ?i_BadMaker___init__ ?m_Library__check ?m_Library_with_maker ?m_Library_arity ?m_Library_changed ?m_Library_maker_of ?m_Library_signs ?m_Library___str__ ?m_Library___eq__ ?rc_Library_read ?rc_makers ?l__is_within ?l_is_small_word ?l_is_class_name ?l_is_field_name ?l_is_request ?l_arity_of ?l__is_first_row ?l__is_hook_row ?l__parameters_of ?l__kept_of ?l__is_selection ?l__request_of ?l__operation_of ?l_BadLibrary___init__ ?l__operations_of ?l__root_lines ?l__operation_line ?l_Library___init__ ?l_Library_read ?l__law_take ?l__law_bag ?l__law_of ?l_Library_makers ?l_Library___contains__ ?l__law_makers ?l__law_words ?l__law_titles ?l__law_lines ?l_own_copy ?l_NoSign___init__ ?l_BadMaker___init__ ?l_Library__check ?l_Library_with_maker ?l_Library_arity ?l_Library_changed ?l_Library_maker_of ?l_Library_signs ?l_Library___str__ ?l_Library___eq__ ?l__law_exchanged ?l__law_has ?l__law_library ?l_law ?l_NO_FIELDS ?l_BINARY_SIGNS ?l_UNARY_SIGNS ?l_ROOT_HOOKS ?l_MK ?l_M0 ?l_M1 ?l_M2 ?hd_HE ?ty_HE ?sH_NoSign ?sH_BadMaker ?sL_NoSign ?sL_BadMaker ?s_BN ?hm_Library ?tyI_Library ?s_TL ?c__is_within ?k__is_within ?c_is_small_word ?k_is_small_word ?c_is_class_name ?k_is_class_name ?c_is_field_name ?k_is_field_name ?c_is_request ?k_is_request ?c_arity_of ?k_arity_of ?c__is_first_row ?k__is_first_row ?c__is_hook_row ?k__is_hook_row ?c__parameters_of ?k__parameters_of ?c__kept_of ?k__kept_of ?c__is_selection ?k__is_selection ?c__request_of ?k__request_of ?c__operation_of ?k__operation_of ?q1_BadLibrary ?q2_BadLibrary ?sb_BadLibrary ?so_BadLibrary ?ss_BadLibrary ?hd_BadLibrary ?kC_BadLibrary ?ty_BadLibrary ?hn ?ht ?c_BadLibrary___init__ ?k_BadLibrary___init__ ?f_BadLibrary___init__ ?c__operations_of ?k__operations_of ?c__root_lines ?k__root_lines ?c__operation_line ?k__operation_line ?pg_Library ?hd_Library ?po_Library ?kC_Library ?mk_Library ?rd_Library ?ga_Library ?ic_Library ?c_Library___init__ ?k_Library___init__ ?f_Library___init__ ?c_Library_read ?k_Library_read ?fn_Library_read ?c__law_take ?k__law_take ?c__law_bag ?k__law_bag ?c__law_of ?k__law_of ?c_Library_makers ?k_Library_makers ?kd_makers ?ti_makers ?sg_makers ?tk_makers ?c_Library___contains__ ?k_Library___contains__ ?f_Library___contains__ ?c__law_makers ?k__law_makers ?c__law_words ?k__law_words ?c__law_titles ?k__law_titles ?c__law_lines ?k__law_lines ?c_own_copy ?k_own_copy ?q1_NoSign ?q2_NoSign ?sb_NoSign ?so_NoSign ?ss_NoSign ?hd_NoSign ?kC_NoSign ?ty_NoSign ?c_NoSign___init__ ?k_NoSign___init__ ?f_NoSign___init__ ?q1_BadMaker ?q2_BadMaker ?sb_BadMaker ?so_BadMaker ?ss_BadMaker ?hd_BadMaker ?kC_BadMaker ?ty_BadMaker ?c_BadMaker___init__ ?k_BadMaker___init__ ?f_BadMaker___init__ ?c_Library__check ?k_Library__check ?f_Library__check ?c_Library_with_maker ?k_Library_with_maker ?f_Library_with_maker ?c_Library_arity ?k_Library_arity ?f_Library_arity ?c_Library_changed ?k_Library_changed ?f_Library_changed ?c_Library_maker_of ?k_Library_maker_of ?f_Library_maker_of ?c_Library_signs ?k_Library_signs ?f_Library_signs ?c_Library___str__ ?k_Library___str__ ?f_Library___str__ ?c_Library___eq__ ?k_Library___eq__ ?f_Library___eq__ ?c__law_exchanged ?k__law_exchanged ?c__law_has ?k__law_has ?c__law_library ?k__law_library ?c_law ?k_law ?o_NO_FIELDS ?o_BINARY_SIGNS ?o_UNARY_SIGNS ?o_ROOT_HOOKS ?o_M0 ?o_M1 ?o_M2
    (case a_HE => k_is)
    (case a__is_within => k_is)
    (case a_is_small_word => k_is)
    (case a_is_class_name => k_is)
    (case a_is_field_name => k_is)
    (case a_is_request => k_is)
    (case a_arity_of => k_is)
    (case a__is_first_row => k_is)
    (case a__is_hook_row => k_is)
    (case a__parameters_of => k_is)
    (case a__kept_of => k_is)
    (case a__is_selection => k_is)
    (case a__request_of => k_is)
    (case a__operation_of => k_is)
    (case a_BadLibrary => k_is)
    (case a__operations_of => k_is)
    (case a__root_lines => k_is)
    (case a__operation_line => k_is)
    (case a_Library => k_is)
    (case a__law_take => k_is)
    (case a__law_bag => k_is)
    (case a__law_of => k_is)
    (case a__law_makers => k_is)
    (case a__law_words => k_is)
    (case a__law_titles => k_is)
    (case a__law_lines => k_is)
    (case a_own_copy => k_is)
    (case a_NoSign => k_is)
    (case a_BadMaker => k_is)
    (case a__law_exchanged => k_is)
    (case a__law_has => k_is)
    (case a__law_library => k_is)
    (case a_law => k_is)
    (case v_LONGEST_NAME => k_is)
    (case v_MOST_PARAMETERS => k_is)
    (case v_MOST_KEPT => k_is)
    (case v_MOST_OPERATIONS => k_is)
    (case v_NO_FIELDS => k_is)
    (case v_BINARY_SIGNS => k_is)
    (case v_UNARY_SIGNS => k_is)
    (case v_ROOT_HOOKS => k_is)
    (case v_MAKERS => k_is)
    (case z_isinstance => k_is)
    (case z_list => k_is)
    (case z_tuple => k_is)
    (case z_int => k_is)
    (case z_str => k_is)
    (case z_bool => k_is)
    (case z_len => k_is)
    (case z_abs => k_is)
    (case z_max => k_is)
    (case z_min => k_is)
    (case z_range => k_is)
    (case z_enumerate => k_is)
    (case z_all => k_is)
    (case z_ValueError => k_is)
    (case z_LookupError => k_is)
    (case z_KeyError => k_is)
    (case z_IndexError => k_is)
    (case haI_Library => k_is)
    (case sa_BadLibrary => k_is)
    (case hg_BadLibrary => k_is)
    (case hk_BadLibrary => k_is)
    (case ha_BadLibrary => k_is)
    (case na_BadLibrary_at => k_is)
    (case i_BadLibrary___init__ => k_is)
    (case sa_Library => k_is)
    (case nA_Library_0 => k_is)
    (case nA_Library_1 => k_is)
    (case nA_Library_2 => k_is)
    (case nA_Library_3 => k_is)
    (case nA_Library_4 => k_is)
    (case nA_Library_5 => k_is)
    (case nA_Library_6 => k_is)
    (case nA_Library_7 => k_is)
    (case nA_Library_8 => k_is)
    (case i_Library___init__ => k_is)
    (case fc_Library_read => k_is)
    (case fc_makers => k_is)
    (case fi_makers => k_is)
    (case m_Library___contains__ => k_is)
    (case sa_NoSign => k_is)
    (case hg_NoSign => k_is)
    (case hk_NoSign => k_is)
    (case ha_NoSign => k_is)
    (case na_NoSign_sign => k_is)
    (case i_NoSign___init__ => k_is)
    (case sa_BadMaker => k_is)
    (case hg_BadMaker => k_is)
    (case hk_BadMaker => k_is)
    (case ha_BadMaker => k_is)
    (case na_BadMaker_maker => k_is)
    (case i_BadMaker___init__ => k_is)
    (case m_Library__check => k_is)
    (case m_Library_with_maker => k_is)
    (case m_Library_arity => k_is)
    (case m_Library_changed => k_is)
    (case m_Library_maker_of => k_is)
    (case m_Library_signs => k_is)
    (case m_Library___str__ => k_is)
    (case m_Library___eq__ => k_is)
    (case rc_Library_read => k_is)
    (case rc_makers => k_is)
    (case l__is_within => k_is)
    (case l_is_small_word => k_is)
    (case l_is_class_name => k_is)
    (case l_is_field_name => k_is)
    (case l_is_request => k_is)
    (case l_arity_of => k_is)
    (case l__is_first_row => k_is)
    (case l__is_hook_row => k_is)
    (case l__parameters_of => k_is)
    (case l__kept_of => k_is)
    (case l__is_selection => k_is)
    (case l__request_of => k_is)
    (case l__operation_of => k_is)
    (case l_BadLibrary___init__ => k_is)
    (case l__operations_of => k_is)
    (case l__root_lines => k_is)
    (case l__operation_line => k_is)
    (case l_Library___init__ => k_is)
    (case l_Library_read => k_is)
    (case l__law_take => k_is)
    (case l__law_bag => k_is)
    (case l__law_of => k_is)
    (case l_Library_makers => k_is)
    (case l_Library___contains__ => k_is)
    (case l__law_makers => k_is)
    (case l__law_words => k_is)
    (case l__law_titles => k_is)
    (case l__law_lines => k_is)
    (case l_own_copy => k_is)
    (case l_NoSign___init__ => k_is)
    (case l_BadMaker___init__ => k_is)
    (case l_Library__check => k_is)
    (case l_Library_with_maker => k_is)
    (case l_Library_arity => k_is)
    (case l_Library_changed => k_is)
    (case l_Library_maker_of => k_is)
    (case l_Library_signs => k_is)
    (case l_Library___str__ => k_is)
    (case l_Library___eq__ => k_is)
    (case l__law_exchanged => k_is)
    (case l__law_has => k_is)
    (case l__law_library => k_is)
    (case l_law => k_is)
    (case l_NO_FIELDS => k_is)
    (case l_BINARY_SIGNS => k_is)
    (case l_UNARY_SIGNS => k_is)
    (case l_ROOT_HOOKS => k_is)
    (case l_MK => k_is)
    (case l_M0 => k_is)
    (case l_M1 => k_is)
    (case l_M2 => k_is)
    (case hd_HE => k_is)
    (case ty_HE => k_is)
    (case sH_NoSign => k_is)
    (case sH_BadMaker => k_is)
    (case sL_NoSign => k_is)
    (case sL_BadMaker => k_is)
    (case s_BN => k_is)
    (case hm_Library => k_is)
    (case tyI_Library => k_is)
    (case s_TL => first | k_is | decide +kernel | rfl)
    (case c__is_within => k_is)
    (case k__is_within => k_is)
    (case c_is_small_word => k_is)
    (case k_is_small_word => k_is)
    (case c_is_class_name => k_is)
    (case k_is_class_name => k_is)
    (case c_is_field_name => k_is)
    (case k_is_field_name => k_is)
    (case c_is_request => k_is)
    (case k_is_request => k_is)
    (case c_arity_of => k_is)
    (case k_arity_of => k_is)
    (case c__is_first_row => k_is)
    (case k__is_first_row => k_is)
    (case c__is_hook_row => k_is)
    (case k__is_hook_row => k_is)
    (case c__parameters_of => k_is)
    (case k__parameters_of => k_is)
    (case c__kept_of => k_is)
    (case k__kept_of => k_is)
    (case c__is_selection => k_is)
    (case k__is_selection => k_is)
    (case c__request_of => k_is)
    (case k__request_of => k_is)
    (case c__operation_of => k_is)
    (case k__operation_of => k_is)
    (case q1_BadLibrary => kx_is)
    (case q2_BadLibrary => kx_is)
    (case sb_BadLibrary => k_is)
    (case so_BadLibrary => k_is)
    (case ss_BadLibrary => k_is)
    (case hd_BadLibrary => k_is)
    (case kC_BadLibrary => k_is)
    (case ty_BadLibrary => k_is)
    (case hn => k_is)
    (case ht => k_is)
    (case c_BadLibrary___init__ => k_is)
    (case k_BadLibrary___init__ => k_is)
    (case f_BadLibrary___init__ => k_is)
    (case c__operations_of => k_is)
    (case k__operations_of => k_is)
    (case c__root_lines => k_is)
    (case k__root_lines => k_is)
    (case c__operation_line => k_is)
    (case k__operation_line => k_is)
    (case pg_Library => k_is)
    (case hd_Library => k_is)
    (case po_Library => k_is)
    (case kC_Library => k_is)
    (case mk_Library => k_is)
    (case rd_Library => k_is)
    (case ga_Library => k_is)
    (case ic_Library => k_is)
    (case c_Library___init__ => k_is)
    (case k_Library___init__ => k_is)
    (case f_Library___init__ => k_is)
    (case c_Library_read => k_is)
    (case k_Library_read => k_is)
    (case fn_Library_read => k_is)
    (case c__law_take => k_is)
    (case k__law_take => k_is)
    (case c__law_bag => k_is)
    (case k__law_bag => k_is)
    (case c__law_of => k_is)
    (case k__law_of => k_is)
    (case c_Library_makers => k_is)
    (case k_Library_makers => k_is)
    (case kd_makers => k_is)
    (case ti_makers => k_is)
    (case sg_makers => k_is)
    (case tk_makers => k_is)
    (case c_Library___contains__ => k_is)
    (case k_Library___contains__ => k_is)
    (case f_Library___contains__ => k_is)
    (case c__law_makers => k_is)
    (case k__law_makers => k_is)
    (case c__law_words => k_is)
    (case k__law_words => k_is)
    (case c__law_titles => k_is)
    (case k__law_titles => k_is)
    (case c__law_lines => k_is)
    (case k__law_lines => k_is)
    (case c_own_copy => k_is)
    (case k_own_copy => k_is)
    (case q1_NoSign => kx_is)
    (case q2_NoSign => kx_is)
    (case sb_NoSign => k_is)
    (case so_NoSign => k_is)
    (case ss_NoSign => k_is)
    (case hd_NoSign => k_is)
    (case kC_NoSign => k_is)
    (case ty_NoSign => k_is)
    (case c_NoSign___init__ => k_is)
    (case k_NoSign___init__ => k_is)
    (case f_NoSign___init__ => k_is)
    (case q1_BadMaker => kx_is)
    (case q2_BadMaker => kx_is)
    (case sb_BadMaker => k_is)
    (case so_BadMaker => k_is)
    (case ss_BadMaker => k_is)
    (case hd_BadMaker => k_is)
    (case kC_BadMaker => k_is)
    (case ty_BadMaker => k_is)
    (case c_BadMaker___init__ => k_is)
    (case k_BadMaker___init__ => k_is)
    (case f_BadMaker___init__ => k_is)
    (case c_Library__check => k_is)
    (case k_Library__check => k_is)
    (case f_Library__check => k_is)
    (case c_Library_with_maker => k_is)
    (case k_Library_with_maker => k_is)
    (case f_Library_with_maker => k_is)
    (case c_Library_arity => k_is)
    (case k_Library_arity => k_is)
    (case f_Library_arity => k_is)
    (case c_Library_changed => k_is)
    (case k_Library_changed => k_is)
    (case f_Library_changed => k_is)
    (case c_Library_maker_of => k_is)
    (case k_Library_maker_of => k_is)
    (case f_Library_maker_of => k_is)
    (case c_Library_signs => k_is)
    (case k_Library_signs => k_is)
    (case f_Library_signs => k_is)
    (case c_Library___str__ => k_is)
    (case k_Library___str__ => k_is)
    (case f_Library___str__ => k_is)
    (case c_Library___eq__ => k_is)
    (case k_Library___eq__ => k_is)
    (case f_Library___eq__ => k_is)
    (case c__law_exchanged => k_is)
    (case k__law_exchanged => k_is)
    (case c__law_has => k_is)
    (case k__law_has => k_is)
    (case c__law_library => k_is)
    (case k__law_library => k_is)
    (case c_law => k_is)
    (case k_law => k_is)
    (case o_NO_FIELDS => decide +kernel)
    (case o_BINARY_SIGNS => decide +kernel)
    (case o_UNARY_SIGNS => decide +kernel)
    (case o_ROOT_HOOKS => decide +kernel)
    (case o_M0 => decide +kernel)
    (case o_M1 => decide +kernel)
    (case o_M2 => decide +kernel)
