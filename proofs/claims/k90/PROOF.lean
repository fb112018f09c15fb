import PyProof.Rows.All
import Wide.All
import OpenK.AllK
import Wide.FinOn
import KE.KExcInit
import KE.KExcIs
import PyProof.ListStr
import PyProof.FitsInt
import HandS.ExcInit
import HandS.ExcField
import HandS.ExcIs
import HandS.IsInst
import HandS.Words
import HandS.WordsList
import HandS.Wide
import HandS.Comp
import HandS.Text
import HandS.Iter
import HandS.Walk
import PySem.Challenge.RW_heirsback_k90_errors_of_the_package
import KE.KExcLine
set_option Elab.async false
set_option linter.all false
set_option maxRecDepth 100000
set_option maxHeartbeats 8000000
/-! own exceptions held as values: made by their own __init__, their fields stored and read, isinstance -/
namespace EV
open PySem PySem.Spec PyProof.Rows L2 PySem.Builtin PySem.Builtin.ObjectAttr
abbrev Fg := PySem.W.Frag
/-- what the text says of an own exception class at C -/
structure XCls (K : Fg) (C : Addr) : Prop where
  base : ∃ (B nI iI : String) (bmB : List Value), ExcBaseFacts B nI iI bmB ∧ StoreFacts B bmB "object.__setattr__" "object" ∧
    PySem.W.excInitIn K C bmB nI = true ∧ PySem.W.excOver K C bmB = true
  sa : PySem.W.findIn K (.ref C) "__setattr__" = some (some (.builtin "object.__setattr__"))
  ex : ExcC K C
  kC : PySem.W.keepIn K (.ref C) = true
section
variable {X : Cx} {pins : List (Addr × Obj)} {σ : L2.St} {H : Hp} {s : Shared} {a C dx : Addr} {f : Str} {y : V} {u : Value}
variable {fs : List (Str × V)} {Q : Unit → Shared → Prop} {E : Value → Shared → Prop} {A : Around}

/-- the first field -/
theorem put_first (T : XCls X.K C) (I : Inv X pins σ H s) (e : H a = some (exo a C none)) (no : NoAttr X.K C f) (ry : RelV y u)
    (h : ∀ dx s', H dx = none → dx ≠ a → Inv X pins σ (upd (upd H dx (exd dx [(f, y)])) a (exo a C (some dx))) s' → Q () s') :
    wpAny (model X.prog X.w) A (setAttr (.ref a) f u) Q E s := by
  obtain ⟨B, nI, iI, bmB, FB, SF, q1, q2⟩ := T.base
  obtain ⟨t1, ho⟩ := exo_at I.hok e
  obtain ⟨hp, g, d, t, os⟩ := s
  have J : PySem.W.InstAt hp a { cls := .ref C, dict := none, data := .fields #[.ref t1, .none, .none, .none, .bool false, .none] } C none :=
    ⟨ho, rfl, rfl, trivial⟩
  refine PySem.W.set_plain I.kIn J T.sa ?_
  refine PySem.W.osa_openX (s := ⟨hp, g, d, t + 1, os⟩) (r := none) SF I.kIn J q2 no.taker fun b => ?_
  show wpAny _ _ (storeInOwnDict (.ref a) (.ref C) (.str f t) f u b) _ _ _
  obtain ⟨cd, hc, hh⟩ := PySem.W.any_some T.ex.hd
  have hcls : PySem.W.Looks (model X.prog X.w) hp (classData C) cd := PySem.W.looks_clsIn I.kIn hc
  have hxs : a ≠ hp.objs.size := Nat.ne_of_lt (Heap.lt_size ho)
  obtain ⟨nm, bs, mro, ns, qn, hd, sn, sb, ab, col, del⟩ := cd
  dsimp only at hh
  subst hh
  unfold storeInOwnDict ownDictForStores
  repeat (first
    | with_reducible refine PySem.HandSPX.store_in_new ?_ ?_
    | with_reducible refine wpAny_loadPart_at ho ?_
    | with_reducible refine hcls.at ?_
    | wp_step)
  · exact ⟨_, #[], _, (Heap.get?_update_ne _ _ _ _ hxs.symm).trans (Heap.get?_push_at rfl rfl), rfl, fun z hz => absurd hz (by simp), fun _ => rfl⟩
  · intro h' tk' hn hs
    have en : H hp.objs.size = none := I.hok.fresh (Nat.le_refl _)
    have g1 : (hp.push { cls := .type "dict", data := .dict #[] }).get? hp.objs.size = some { cls := .type "dict", data := .dict #[] } :=
      Heap.get?_push_size hp rfl
    have e3 : (hp.push { cls := .type "dict", data := .dict #[] }).Ns hp.objs.size (fun _ => none) :=
      ⟨_, #[], _, g1, rfl, fun z hz => absurd hz (by simp), fun _ => rfl⟩
    have I1 := I.laid (a := hp.objs.size) (o := exd hp.objs.size []) (t' := tk') (h' := hp.push { cls := .type "dict", data := .dict #[] })
      (fun b o q => Heap.get?_push_of_some _ q) (Nat.le_refl _) (exd_ok (fs := []) (Heap.Ns1.of_empty e3) fun _ => True.intro)
    have g2 := Heap.get?_push_of_some (h := hp) { cls := .type "dict", data := .dict #[] } ho
    have ga := Heap.get?_update_self (fun o : Obj => { cls := o.cls, dict := some hp.objs.size, data := o.data, slots := o.slots }) g2 rfl
    have I2 := I1.write (x := a) (e := a) (o := exo a C (some hp.objs.size)) (t' := tk')
      (h' := (hp.push { cls := .type "dict", data := .dict #[] }).update a fun o => { cls := o.cls, dict := some hp.objs.size, data := o.data, slots := o.slots })
      (by rw [upd_ne hxs, e]; exact True.intro) (.inl rfl) (fun b o hb q => (Heap.get?_update_ne _ _ _ _ hb).trans q) ⟨_, ga⟩ (exo_ok ga)
    have I3 := I2.write (x := hp.objs.size) (e := hp.objs.size) (o := exd hp.objs.size [(f, y)]) (t' := tk') (h' := h')
      (by rw [upd_ne hxs.symm, upd_same]; exact True.intro) (.inl rfl) (fun b o hb q => (hs.2 b hb).trans q)
      (let ⟨o, _, _, z, _⟩ := hn; ⟨o, z⟩) (exd_ok hn (relO_put (fs := []) ry fun _ => True.intro))
    have eu : upd (upd (upd H hp.objs.size (exd hp.objs.size [])) a (exo a C (some hp.objs.size))) hp.objs.size (exd hp.objs.size [(f, y)])
        = upd (upd H hp.objs.size (exd hp.objs.size [(f, y)])) a (exo a C (some hp.objs.size)) := by
      funext b
      unfold upd
      by_cases h1 : b = a
      · subst h1
        rw [if_neg hxs, if_pos rfl, if_pos rfl]
      · by_cases h2 : b = hp.objs.size
        · rw [if_pos h2, if_neg h1, if_pos h2]
        · rw [if_neg h2, if_neg h1, if_neg h2, if_neg h1, if_neg h2]
    rw [eu] at I3
    exact h hp.objs.size _ en hxs.symm I3
/-- a further field -/
theorem put_more (T : XCls X.K C) (I : Inv X pins σ H s) (e : H a = some (exo a C (some dx))) (ed : H dx = some (exd dx fs)) (hl : fs.length ≤ 900)
    (no : NoAttr X.K C f) (ry : RelV y u) (h : ∀ s', Inv X pins σ (upd H dx (exd dx ((f, y) :: fs))) s' → Q () s') :
    wpAny (model X.prog X.w) A (setAttr (.ref a) f u) Q E s := by
  obtain ⟨B, nI, iI, bmB, FB, SF, q1, q2⟩ := T.base
  obtain ⟨t1, ho⟩ := exo_at I.hok e
  obtain ⟨mA, hns, rel⟩ := exd_at I.hok ed
  have hw := within_of rel
  obtain ⟨hp, g, d, t, os⟩ := s
  obtain ⟨oD, esD, epD, hoD, hdD, _⟩ := hns.count hw
  have J : PySem.W.InstAt hp a { cls := .ref C, dict := some dx, data := .fields #[.ref t1, .none, .none, .none, .bool false, .none] } C (some oD) :=
    ⟨ho, rfl, rfl, hoD⟩
  refine PySem.W.set_plain I.kIn J T.sa ?_
  refine PySem.W.osa_openX (s := ⟨hp, g, d, t + 1, os⟩) (r := none) SF I.kIn J q2 no.taker fun b => ?_
  show wpAny _ _ (storeInOwnDict (.ref a) (.ref C) (.str f t) f u b) _ _ _
  obtain ⟨cd, hc, hh⟩ := PySem.W.any_some T.ex.hd
  have hcls : PySem.W.Looks (model X.prog X.w) hp (classData C) cd := PySem.W.looks_clsIn I.kIn hc
  obtain ⟨nm, bs, mro, ns, qn, hd, sn, sb, ab, col, del⟩ := cd
  dsimp only at hh
  subst hh
  unfold storeInOwnDict ownDictForStores
  repeat (first
    | with_reducible refine PySem.OEX.store_in_old hns hw ?_ ?_
    | with_reducible refine wpAny_loadPart_at ho ?_
    | with_reducible refine hcls.at ?_
    | wp_step)
  · rw [List.length_map]; omega
  · intro h' tk' hn hs
    have hd : ∃ o, h'.get? dx = some o := by
      obtain ⟨o, _, _, z, _⟩ := hn
      exact ⟨o, z⟩
    exact h _ (I.write (t' := tk') (x := dx) (e := dx) (o := exd dx ((f, y) :: fs)) (by rw [ed]; exact True.intro) (.inl rfl)
      (fun b o hb q => (hs.2 b hb).trans q) hd (exd_ok hn (relO_put ry rel)))
end
/-! ### the statement self.f = e -/
/-- the error at a is of the class at C, its fields are fs -/
def ErrAt (H : Hp) (a C : Addr) (fs : List (Str × V)) : Prop := ∃ d, H a = some (exo a C (some d)) ∧ H d = some (exd d fs)
section
variable {X : Cx} {o e : Expr} {es : List Expr} {to te : TE} {ta : TA} {f : Str} {p p' pos : Pos} {C : Addr}
def tPut1 (K : Fg) (f : Str) (to te : TE) : TS := fun D σ H => te σ H fun y H1 => to σ H1 fun x H2 => ∃ a C : Addr, x = .ref a ∧ XCls K C ∧ NoAttr K C f ∧
  H2 a = some (exo a C none) ∧ ∀ dx, H2 dx = none → dx ≠ a → D.nx σ (upd (upd H2 dx (exd dx [(f, y)])) a (exo a C (some dx)))
def tPut2 (K : Fg) (f : Str) (to te : TE) : TS := fun D σ H => te σ H fun y H1 => to σ H1 fun x H2 => ∃ (a C dx : Addr) (fs : List (Str × V)), x = .ref a ∧ XCls K C ∧ NoAttr K C f ∧
  H2 a = some (exo a C (some dx)) ∧ H2 dx = some (exd dx fs) ∧ fs.length ≤ 900 ∧ D.nx σ (upd H2 dx (exd dx ((f, y) :: fs)))
theorem ps_put1 (ho : PE X o to) (he : PE X e te) (hs : swapsWith e (some (.Attribute o f p')) pos.line X.env = pure false := by rfl) :
    PS X (.Assign [.Attribute o f p'] e pos) (tPut1 X.K f to te) := by
  refine ⟨fun pins s σ H D I h => ?_⟩
  refine plainObj_wpAny_Assign_Attribute (thn (he.run pins s σ H _ I h) fun v s1 hv => ?_) hs
  obtain ⟨y, H1, I1, r1, q1⟩ := hv
  refine thn (ho.run pins s1 σ H1 _ I1 q1) fun u s2 hu => ?_
  obtain ⟨x, H2, I2, r2, a, C, ex, T, no, ea, q⟩ := hu
  subst ex
  obtain rfl : u = Value.ref a := r2
  exact put_first T I2 ea no r1 fun dx s' n ne J => ⟨σ, _, J, q dx n ne⟩
theorem ps_put2 (ho : PE X o to) (he : PE X e te) (hs : swapsWith e (some (.Attribute o f p')) pos.line X.env = pure false := by rfl) :
    PS X (.Assign [.Attribute o f p'] e pos) (tPut2 X.K f to te) := by
  refine ⟨fun pins s σ H D I h => ?_⟩
  refine plainObj_wpAny_Assign_Attribute (thn (he.run pins s σ H _ I h) fun v s1 hv => ?_) hs
  obtain ⟨y, H1, I1, r1, q1⟩ := hv
  refine thn (ho.run pins s1 σ H1 _ I1 q1) fun u s2 hu => ?_
  obtain ⟨x, H2, I2, r2, a, C, dx, fs, ex, T, no, ea, ed, hl, q⟩ := hu
  subst ex
  obtain rfl : u = Value.ref a := r2
  exact put_more T I2 ea ed hl no r1 fun s' J => ⟨σ, _, J, q⟩
/-! ### C(e, ..), a new error as a value -/
def tNew (C : Addr) (sp : Sp) (dvs : List V) (ta : TA) : TE := fun σ H Q => ta σ H fun vs H1 => vs.length ≤ 1000 ∧ ∀ a, H1 a = none →
  sp (.ref a :: (vs ++ dvs)) (upd H1 a (exo a C none)) (fun v H2 => v = .non ∧ Q (.ref a) H2) (fun _ _ _ => False)
theorem pe_new {CX : CXT} {x : Str} {fI : Addr} {k : Nat} {fd : FuncData} {ps : List Str} {sp : Sp} {ds : List Value} {dvs : List V} (T : XCls X.K C)
    (iC : PySem.W.findIn X.K (.ref C) "__init__" = some (some (.ref fI))) (tI : PySem.W.isFn X.K (.ref fI) = true)
    (F1 : FnOk X.prog X.w X.K X.mg X.base CX k fI fd ps sp) (hr : Room (k + 1) X.A) (hb : Binds X.K fd ps ds) (hd : Vals dvs ds)
    (hx : Passes CX X (fun _ _ _ => False)) (hg : Gl X x) (hm : X.mg x = some (.ref C)) (ha : PA X (e :: es) ta)
    (hdb : (x == ("__debug__" : Str)) = false := by decide) (he : starEach (e :: es) X.env = (false, eval e X.env) :: starEach es X.env := by rfl)
    (hpl : (backTo pos (starEach es X.env)).any (·.1) = false := by rfl) :
    PE X (.Call (.Name x p) (e :: es) [] pos) (tNew C sp dvs ta) := by
  refine ⟨fun pins s σ H Q I h => ?_⟩
  obtain ⟨B, nI, iI, bmB, FB, SF, q1, q2⟩ := T.base
  refine wpAny_Call_Name_kw (ld_glob I hg hm ?_ hdb)
  refine PySem.W.callWith_K (h₀ := X.base) I.ok.mod.kin T.kC (thn (ha.run pos pins s σ H _ I h) fun us s1 hu => ?_) he hpl
  obtain ⟨vs, H1, I1, r1, hz, q⟩ := hu
  refine ⟨I1.kIn, ?_⟩
  show wpAny _ _ (call (.ref C) us) _ _ _
  obtain ⟨nm, N', qn, bs, bm, hdct, sn, sub, ab, col, dd, k0, k1, k2, k3, k5, hC, hT⟩ := PySem.W.excInit_of I1.kIn q1
  obtain ⟨oI, hoI, hcI⟩ : ∃ oI, s1.heap.get? fI = some oI ∧ oI.cls = .type "function" := by
    obtain ⟨o, z1, z2⟩ := Option.map_eq_some_iff.mp (show (X.K.lookup fI).map (·.cls) = some (.type "function") from beq_iff_eq.mp tI)
    exact ⟨o, I1.kIn _ _ z1, z2⟩
  obtain ⟨hp, g, dr, tk, os⟩ := s1
  have hsz : hp.objs.size ≤ hp.objs.size + 1 := Nat.le_succ _
  have hn : H1 (hp.objs.size + 1) = none := I1.hok.fresh hsz
  have hq := q (hp.objs.size + 1) hn
  have kk : ∀ b o, hp.get? b = some o → ((hp.push (PySem.W.kdv_tup us)).push (PySem.HandSPX.excO C hp.objs.size)).get? b = some o :=
    fun b o z => Heap.get?_push_of_some _ (Heap.get?_push_of_some _ z)
  have hget : ((hp.push (PySem.W.kdv_tup us)).push (PySem.HandSPX.excO C hp.objs.size)).get? (hp.objs.size + 1) = some (PySem.HandSPX.excO C hp.objs.size) := by heap_get
  have I2 := I1.laid (t' := tk) (a := hp.objs.size + 1) (o := exo (hp.objs.size + 1) C none)
    (h' := (hp.push (PySem.W.kdv_tup us)).push (PySem.HandSPX.excO C hp.objs.size)) kk hsz (exo_ok hget)
  have r2 : Vals (V.ref (hp.objs.size + 1) :: (vs ++ dvs)) (Value.ref (hp.objs.size + 1) :: (us ++ ds)) := .cons rfl (r1.append hd)
  have hl : (Value.ref (hp.objs.size + 1) :: us ++ ds).length = ps.length := by
    have z := r2.length
    rw [F1.len _ _ _ _ hq] at z
    exact z.symm
  have hus : us.length ≤ sizeLine := by
    rw [← Paired.length r1, sizeLine_eq]
    omega
  refine wpAny_call (PySem.HandSPX.call_own FB hT hC (PySem.W.looks_findIn I1.kIn iC) (fun self => PySem.W.exc_bind hoI hcI self) hus
    (codeAny_mono (F1.run _ X.stack _ _ ⟨Value.ref (hp.objs.size + 1) :: us, []⟩ (Value.ref (hp.objs.size + 1) :: (us ++ ds)) _ _ (fun _ _ _ => False)
      (hr.make C us []) (I2.env0.make C us []) (hb _ (Value.ref (hp.objs.size + 1) :: us) I2.kIn hl) r2 hq) fun r s' hq' => ?_))
  cases r with
  | error er => exact hx pins σ _ _ er s' I2 hq'
  | ok fl =>
    cases fl with
    | ret u =>
      obtain ⟨v, H2, I3, rv, ev, q2⟩ := I2.after hq'
      subst ev
      exact ⟨rv, .ref (hp.objs.size + 1), H2, I3, rfl, q2⟩
    | next => exact False.elim hq'
    | brk => exact False.elim hq'
    | cont => exact False.elim hq'
/-! ### e.f of an error -/
def tGet (K : Fg) (te : TE) (f : Str) : TE := fun σ H Q => te σ H fun x H1 => ∃ (a C : Addr) (fs : List (Str × V)) (v : V), x = .ref a ∧ XCls K C ∧ NoAttr K C f ∧
  ErrAt H1 a C fs ∧ fs.lookup f = some v ∧ Q v H1
theorem pe_get {te : TE} (he : PE X e te) (hb : attributeBase e f X.env (eval e X.env) = eval e X.env := by rfl) :
    PE X (.Attribute e f pos) (tGet X.K te f) := by
  refine ⟨fun pins s σ H Q I h => ?_⟩
  refine attr_of hb (thn (he.run pins s σ H _ I h) fun u s1 hu => ?_)
  obtain ⟨x, H1, I1, rx, a, C, fs, v, ex, T, no, ⟨d, ea, ed⟩, l, q⟩ := hu
  subst ex
  obtain rfl : u = Value.ref a := rx
  obtain ⟨t1, ho⟩ := exo_at I1.hok ea
  obtain ⟨mA, hns, hr⟩ := exd_at I1.hok ed
  obtain ⟨od, hod, hl⟩ := lookIn_ns hns
  obtain ⟨u, hu, ru⟩ := RelO.some_of (v := v) (o := mA f) (by rw [← l]; exact hr f)
  have J : PySem.W.InstAt s1.heap a { cls := .ref C, dict := some d, data := .fields #[.ref t1, .none, .none, .none, .bool false, .none] } C (some od) :=
    ⟨ho, rfl, rfl, hod⟩
  exact PySem.HandSPX.exc_get I1.kIn J T.ex.hg T.ex.hk T.ex.hs (PySem.W.findObj_own T.ex.hd no rfl (by rw [hl, hu])) (handed_of ru)
    ⟨v, H1, I1.tok _, ru, q⟩
/-! ### isinstance of an error -/
def rIsX (K : Fg) : List V → Hp → VK → Prop := fun xs H Q => ∃ (a C : Addr) (c : V) (u : Value) (b : Bool) (fs : List (Str × V)), xs = [.ref a, c] ∧ ClsV c u ∧
  ErrAt H a C fs ∧ XCls K C ∧ PySem.W.kitOne K (.ref C) u = some b ∧ Q (.bl b) H
theorem call_isX : CallR X (.builtin "isinstance") (rIsX X.K) := by
  intro pins s σ H xs us Q I r h
  obtain ⟨a, C, c, u, b, fs, rfl, hc, ⟨d, ea, ed⟩, T, ek, q⟩ := h
  obtain ⟨u1, u2, rfl, r1, r2⟩ := vals2 r
  obtain rfl : u1 = Value.ref a := r1
  have e2 := hc.eq r2
  subst e2
  obtain ⟨t1, ho⟩ := exo_at I.hok ea
  obtain ⟨mA, hns, hr⟩ := exd_at I.hok ed
  obtain ⟨od, hod, hl⟩ := lookIn_ns hns
  have J : PySem.W.InstAt s.heap a { cls := .ref C, dict := some d, data := .fields #[.ref t1, .none, .none, .none, .bool false, .none] } C (some od) :=
    ⟨ho, rfl, rfl, hod⟩
  exact PySem.W.kia_one (PySem.W.kitx_exc (by obtain ⟨cd, hc, _⟩ := PySem.W.any_some T.ex.hd; rw [hc]; rfl) T.ex.hg T.ex.hk T.ex.hs T.ex.ha T.ex.hn T.ex.ht T.ex.hm) I.kIn J ek (fun z => nomatch z)
    fun tk => ⟨.bl b, H, I.kept (t' := tk) fun _ _ z => z, rfl, q⟩
end
/-! ### a def, a class by its name -/
structure Ok (P : Program) (w : World) (K : Fg) (mg : Str → Option Value) (base : Heap) (k : Nat) (x : Str) (ps : List Str) (sp : Sp) : Prop where
  ex : ∃ (f : Addr) (fd : FuncData), FnOk P w K mg base CX0 k f fd ps sp ∧ mg x = some (.ref f) ∧ PySem.W.keepIn K (.ref f) = true ∧ Binds K fd ps []
structure OkC (P : Program) (w : World) (K : Fg) (mg : Str → Option Value) (base : Heap) (k : Nat) (x : Str) (C : Addr) (ps : List Str) (sp : Sp) : Prop where
  cl : XCls K C
  nm : mg x = some (.ref C)
  ex : ∃ (f : Addr) (fd : FuncData), FnOk P w K mg base CX0 k f fd ps sp ∧ PySem.W.findIn K (.ref C) "__init__" = some (some (.ref f)) ∧
    PySem.W.isFn K (.ref f) = true ∧ Binds K fd ps []
section
variable {X : Cx} {e : Expr} {es : List Expr} {t : TA} {x : Str} {p pos : Pos} {k : Nat} {ps : List Str} {sp : Sp} {C : Addr}
theorem pe_callO (O : Ok X.prog X.w X.K X.mg X.base k x ps sp) (hr : Room k X.A) (ha : PA X (e :: es) t) (hg : Gl X x := by rfl)
    (hdb : (x == ("__debug__" : Str)) = false := by decide) (he : starEach (e :: es) X.env = (false, eval e X.env) :: starEach es X.env := by rfl)
    (hpl : (backTo pos (starEach es X.env)).any (·.1) = false := by rfl) : PE X (.Call (.Name x p) (e :: es) [] pos) (tCall sp [] E0 t) := by
  obtain ⟨f, fd, G, m, kp, b⟩ := O.ex
  exact pe_call G hr hg m kp b .nil pass0 ha hdb he hpl
theorem pe_newO (O : OkC X.prog X.w X.K X.mg X.base k x C ps sp) (hr : Room (k + 1) X.A) (ha : PA X (e :: es) t) (hg : Gl X x := by rfl)
    (hdb : (x == ("__debug__" : Str)) = false := by decide) (he : starEach (e :: es) X.env = (false, eval e X.env) :: starEach es X.env := by rfl)
    (hpl : (backTo pos (starEach es X.env)).any (·.1) = false := by rfl) : PE X (.Call (.Name x p) (e :: es) [] pos) (tNew C sp [] t) := by
  obtain ⟨f, fd, G, i, kp, b⟩ := O.ex
  exact pe_new O.cl i kp G hr b .nil pass0 hg O.nm ha hdb he hpl
end
/-! ### what is said of heaps -/
theorem same_upd {H : Hp} {p : Addr} {o : HO} (h : H p = none) : Same H (upd H p o) := fun b u z => by
  rw [upd_ne (ne_of_none z h)]
  exact z
theorem same_upd' {H0 H : Hp} {p : Addr} {o : HO} (s : Same H0 H) (h : H0 p = none) : Same H0 (upd H p o) := fun b u z => by
  rw [upd_ne (ne_of_none z h)]
  exact s b u z
theorem ErrAt.same {H H' : Hp} {a C : Addr} {fs : List (Str × V)} (s : Same H H') (h : ErrAt H a C fs) : ErrAt H' a C fs :=
  let ⟨d, z1, z2⟩ := h
  ⟨d, s _ _ z1, s _ _ z2⟩
/-- all but what stands at b is as it was -/
def Keep (b : Addr) (H H' : Hp) : Prop := ∀ a o, a ≠ b → H a = some o → H' a = some o
theorem Keep.refl {b : Addr} (H : Hp) : Keep b H H := fun _ _ _ z => z
theorem Keep.trans {b : Addr} {H H1 H2 : Hp} (x : Keep b H H1) (y : Keep b H1 H2) : Keep b H H2 := fun a o n z => y a o n (x a o n z)
theorem Keep.of {b : Addr} {H H' : Hp} (s : Same H H') : Keep b H H' := fun a o _ z => s a o z
theorem Keep.upd {b : Addr} {H : Hp} {o : HO} : Keep b H (upd H b o) := fun a u n z => by
  rw [upd_ne n]
  exact z
theorem ErrAt.keep {b : Addr} {H H' : Hp} {a C : Addr} {fs : List (Str × V)} (s : Keep b H H') (h : ErrAt H a C fs) {l : List V} (hb : H b = some (.lst l)) : ErrAt H' a C fs :=
  let ⟨d, z1, z2⟩ := h
  ⟨d, s _ _ (ne_of z1 hb (by intro q; cases q)) z1, s _ _ (ne_of z2 hb (by intro q; cases q)) z2⟩
/-! ### list(text) -/
def signsV (z : Str) : List V := z.cps.toList.map fun c => V.str ⟨#[c]⟩
theorem signs_vals (z : Str) : ∀ (l : List Nat) (its : List Value), its.length = l.length →
    (∀ (j : Nat) (v : Value), its[j]? = some v → ∃ (c : Nat) (u : Tok), l[j]? = some c ∧ v = Value.str ⟨#[c]⟩ u) → Vals (l.map fun c => V.str ⟨#[c]⟩) its
  | [], [], _, _ => .nil
  | [], _ :: _, h, _ => absurd h (by simp)
  | _ :: _, [], h, _ => absurd h (by simp)
  | c :: l, v :: its, h, k => by
    refine .cons ?_ (signs_vals z l its (by simpa using h) fun j u q => ?_)
    · obtain ⟨c', u, e1, e2⟩ := k 0 v rfl
      cases e1
      exact ⟨u, e2⟩
    · exact k (j + 1) u (by simpa using q)
theorem call_list_text {X : Cx} (hc : X.calm = true) : CallR X (.type "list") (fun xs H Q => ∃ z, xs = [.str z] ∧ z.length ≤ sizeLine ∧
    ∀ l, H l = none → Q (.ref l) (upd H l (.lst (signsV z)))) := by
  intro pins s σ H xs us Q I r h
  obtain ⟨z, rfl, hz, q⟩ := h
  obtain ⟨u, rfl, t, rfl⟩ := vals1 r
  have hl : z.cps.size ≤ sizeLine := hz
  refine call_list_str (hn := hl) (I.ok.hd hc) z t fun h' tk acc' c' hk hS hacc => ?_
  have hn : H s.heap.objs.size = none := I.hok.fresh (Nat.le_refl _)
  have hv : Vals (signsV z) acc'.toList := by
    refine signs_vals z _ _ (by rw [Array.length_toList, Array.length_toList, hacc.1]) fun j v q => ?_
    obtain ⟨c, u, e1, e2⟩ := hacc.2 j v (by rw [← Array.getElem?_toList]; exact q)
    exact ⟨c, u, by rw [Array.getElem?_toList]; exact e1, e2⟩
  refine ⟨.ref s.heap.objs.size, _, I.laid (a := s.heap.objs.size) (o := .lst (signsV z)) (t' := tk) hk (Nat.le_refl _) ⟨?_, acc'.toList, c', hv, ?_⟩, rfl, q _ hn⟩
  · show (z.cps.toList.map _).length ≤ sizeLine
    rw [List.length_map, Array.length_toList]
    exact hl
  · simpa using hS
/-! ### where ways meet: what is wanted between -/
section
variable {X : Cx} {e : Expr} {te : TE} {tt : TT} {st : Stmt} {ts : TS}
def tMid (t : TE) : TE := fun σ H Q => ∃ Q0 : VK, t σ H Q0 ∧ ∀ x H1, Q0 x H1 → Q x H1
theorem pe_mid (h : PE X e te) : PE X e (tMid te) := by
  refine ⟨fun pins s σ H Q I hq => ?_⟩
  obtain ⟨Q0, h0, k⟩ := hq
  exact thn (h.run pins s σ H Q0 I h0) fun u s1 hu => by
    obtain ⟨v, H1, I1, r, q⟩ := hu
    exact ⟨v, H1, I1, r, k _ _ q⟩
def bMid (t : TT) : TT := fun σ H Q => ∃ Q0 : Bool → Hp → Prop, t σ H Q0 ∧ ∀ x H1, Q0 x H1 → Q x H1
theorem pt_mid (h : PT X e tt) : PT X e (bMid tt) := by
  refine ⟨fun pins s σ H Q I hq => ?_⟩
  obtain ⟨Q0, h0, k⟩ := hq
  exact thn (h.run pins s σ H Q0 I h0) fun u s1 hu => by
    obtain ⟨H1, I1, q⟩ := hu
    exact ⟨H1, I1, k _ _ q⟩
def sMid (t : TS) : TS := fun D σ H => ∃ M : L2.St → Hp → Prop, t { D with nx := M } σ H ∧ ∀ σ' H', M σ' H' → D.nx σ' H'
theorem ps_mid (h : PS X st ts) : PS X st (sMid ts) := by
  refine ⟨fun pins s σ H D I hq => ?_⟩
  obtain ⟨M, h0, k⟩ := hq
  refine thn (h.run pins s σ H _ I h0) fun f s1 hf => ?_
  cases f with
  | next =>
    obtain ⟨σ', H', I', q⟩ := hf
    exact ⟨σ', H', I', k _ _ q⟩
  | ret v => exact hf
  | brk => exact hf
  | cont => exact hf
end
theorem same_keep {H0 H H' : Hp} {b : Addr} (s : Same H0 H) (n : H0 b = none) (k : Keep b H H') : Same H0 H' := fun a o z =>
  k a o (ne_of_none z n) (s a o z)
/-! ### lists of truth values, compared -/
theorem dp_bools {K : Fg} {H : Hp} {p : Addr} {bs : List Bool} (h : H p = some (.lst (bs.map V.bl))) : Dp K H (.ref p) (.list (bs.map PyData.bool)) := by
  refine .lst (SqL.of h) ?_
  clear h
  induction bs with
  | nil => exact .nil
  | cons b bs ih => exact .cons (.bl b) ih
theorem can_bools (bs : List Bool) : PyData.canLay0 (.list (bs.map PyData.bool)) = true := by
  rw [PyData.canLay0]
  induction bs with
  | nil => rfl
  | cons b bs ih =>
    rw [List.map_cons, PyData.canLayAll0, PyData.canLay0, ih]
    rfl
theorem depth_bools (bs : List Bool) : PyData.depthAll (bs.map PyData.bool) ≤ 1 := by
  induction bs with
  | nil => simp [PyData.depthAll]
  | cons b bs ih => simp only [List.map_cons, PyData.depthAll, PyData.depth]; omega
theorem shaped_bools (bs : List Bool) : SeqAt.shaped (.list (bs.map PyData.bool)) = true := by
  unfold SeqAt.shaped
  rw [can_bools, Bool.true_and]
  refine decide_eq_true ?_
  have q := depth_bools bs
  rw [PyData.depth]
  omega
/-- two lists of the same truth values are not unlike -/
theorem ne_bools {K : Fg} {H : Hp} {p q : Addr} {bs : List Bool} {Q : VK} (h1 : H p = some (.lst (bs.map V.bl))) (h2 : H q = some (.lst (bs.map V.bl))) (k : Q (.bl false) H) :
    rNeD K (.ref p) (.ref q) H Q := by
  refine ⟨_, _, dp_bools h1, dp_bools h2, shaped_bools bs, shaped_bools bs, ?_⟩
  rw [SeqAt.eqv_refl _ (can_bools bs)]
  exact k
end EV

namespace K90
open PySem PySem.Spec PyProof.Rows L2 EV
def top (i : Nat) : Stmt := PySem.Challenge.pw_heirsback_k90_errors_of_the_package.main.body.getD i (.Pass ⟨0, 0, 0, 0⟩)

abbrev s_own_copy : Stmt := top 1
theorem sc_own_copy : FnScope ["thing", "part"] ["thing"] (defScope s_own_copy) :=
  ⟨rfl, rfl, rfl, by decide +kernel, rfl, by decide +kernel, by decide +kernel⟩
abbrev s_BadLibrary___init__ : Stmt := inClass (top 3) 0
theorem sc_BadLibrary___init__ : FnScope ["self", "at"] ["self", "at"] (defScope s_BadLibrary___init__) :=
  ⟨rfl, rfl, rfl, by decide +kernel, rfl, by decide +kernel, by decide +kernel⟩
abbrev s_BadWorld___init__ : Stmt := inClass (top 4) 0
theorem sc_BadWorld___init__ : FnScope ["self", "at"] ["self", "at"] (defScope s_BadWorld___init__) :=
  ⟨rfl, rfl, rfl, by decide +kernel, rfl, by decide +kernel, by decide +kernel⟩
abbrev s_BadValue___init__ : Stmt := inClass (top 5) 0
theorem sc_BadValue___init__ : FnScope ["self", "field"] ["self", "field"] (defScope s_BadValue___init__) :=
  ⟨rfl, rfl, rfl, by decide +kernel, rfl, by decide +kernel, by decide +kernel⟩
abbrev s_BadExpression___init__ : Stmt := inClass (top 6) 0
theorem sc_BadExpression___init__ : FnScope ["self", "at"] ["self", "at"] (defScope s_BadExpression___init__) :=
  ⟨rfl, rfl, rfl, by decide +kernel, rfl, by decide +kernel, by decide +kernel⟩
abbrev s_BadFamily___init__ : Stmt := inClass (top 7) 0
theorem sc_BadFamily___init__ : FnScope ["self", "word"] ["self", "word"] (defScope s_BadFamily___init__) :=
  ⟨rfl, rfl, rfl, by decide +kernel, rfl, by decide +kernel, by decide +kernel⟩
abbrev s_BadVirtue___init__ : Stmt := inClass (top 8) 0
theorem sc_BadVirtue___init__ : FnScope ["self", "word"] ["self", "word"] (defScope s_BadVirtue___init__) :=
  ⟨rfl, rfl, rfl, by decide +kernel, rfl, by decide +kernel, by decide +kernel⟩
abbrev s_BadMaker___init__ : Stmt := inClass (top 9) 0
theorem sc_BadMaker___init__ : FnScope ["self", "maker"] ["self", "maker"] (defScope s_BadMaker___init__) :=
  ⟨rfl, rfl, rfl, by decide +kernel, rfl, by decide +kernel, by decide +kernel⟩
abbrev s_NoClass___init__ : Stmt := inClass (top 10) 0
theorem sc_NoClass___init__ : FnScope ["self", "name"] ["self", "name"] (defScope s_NoClass___init__) :=
  ⟨rfl, rfl, rfl, by decide +kernel, rfl, by decide +kernel, by decide +kernel⟩
abbrev s_NoSign___init__ : Stmt := inClass (top 11) 0
theorem sc_NoSign___init__ : FnScope ["self", "sign"] ["self", "sign"] (defScope s_NoSign___init__) :=
  ⟨rfl, rfl, rfl, by decide +kernel, rfl, by decide +kernel, by decide +kernel⟩
abbrev s_TooMany___init__ : Stmt := inClass (top 12) 0
theorem sc_TooMany___init__ : FnScope ["self", "what"] ["self", "what"] (defScope s_TooMany___init__) :=
  ⟨rfl, rfl, rfl, by decide +kernel, rfl, by decide +kernel, by decide +kernel⟩
abbrev s_Unlike___init__ : Stmt := inClass (top 13) 0
theorem sc_Unlike___init__ : FnScope ["self", "at"] ["self", "at"] (defScope s_Unlike___init__) :=
  ⟨rfl, rfl, rfl, by decide +kernel, rfl, by decide +kernel, by decide +kernel⟩
abbrev s_Surplus___init__ : Stmt := inClass (top 14) 0
theorem sc_Surplus___init__ : FnScope ["self", "name", "many"] ["self", "name", "many"] (defScope s_Surplus___init__) :=
  ⟨rfl, rfl, rfl, by decide +kernel, rfl, by decide +kernel, by decide +kernel⟩
abbrev s_Lacking___init__ : Stmt := inClass (top 15) 0
theorem sc_Lacking___init__ : FnScope ["self", "name", "field"] ["self", "name", "field"] (defScope s_Lacking___init__) :=
  ⟨rfl, rfl, rfl, by decide +kernel, rfl, by decide +kernel, by decide +kernel⟩
abbrev s_Unknown___init__ : Stmt := inClass (top 16) 0
theorem sc_Unknown___init__ : FnScope ["self", "name", "field"] ["self", "name", "field"] (defScope s_Unknown___init__) :=
  ⟨rfl, rfl, rfl, by decide +kernel, rfl, by decide +kernel, by decide +kernel⟩
abbrev s_Failed___init__ : Stmt := inClass (top 17) 0
theorem sc_Failed___init__ : FnScope ["self", "at", "reason"] ["self", "at", "reason"] (defScope s_Failed___init__) :=
  ⟨rfl, rfl, rfl, by decide +kernel, rfl, by decide +kernel, by decide +kernel⟩
abbrev s_law_bag : Stmt := top 19
theorem sc_law_bag : FnScope ["script", "at", "cell", "digits"] ["script", "at"] (defScope s_law_bag) :=
  ⟨rfl, rfl, rfl, by decide +kernel, rfl, by decide +kernel, by decide +kernel⟩
abbrev s_law_take : Stmt := top 20
theorem sc_law_take : FnScope ["bag", "many", "digit", "mixed"] ["bag", "many"] (defScope s_law_take) :=
  ⟨rfl, rfl, rfl, by decide +kernel, rfl, by decide +kernel, by decide +kernel⟩
abbrev s_law_of : Stmt := top 21
theorem sc_law_of : FnScope ["bag", "some"] ["bag", "some"] (defScope s_law_of) :=
  ⟨rfl, rfl, rfl, by decide +kernel, rfl, by decide +kernel, by decide +kernel⟩
abbrev s_law_thing : Stmt := top 22
theorem sc_law_thing : FnScope ["bag", "number"] ["bag"] (defScope s_law_thing) :=
  ⟨rfl, rfl, rfl, by decide +kernel, rfl, by decide +kernel, by decide +kernel⟩
abbrev s_law_letters : Stmt := top 23
theorem sc_law_letters : FnScope ["bag", "word", "turn"] ["bag"] (defScope s_law_letters) :=
  ⟨rfl, rfl, rfl, by decide +kernel, rfl, by decide +kernel, by decide +kernel⟩
abbrev s_law_errors : Stmt := top 24
theorem sc_law_errors : FnScope ["thing", "number", "one", "two", "first", "last"] ["thing", "number", "one", "two"] (defScope s_law_errors) :=
  ⟨rfl, rfl, rfl, by decide +kernel, rfl, by decide +kernel, by decide +kernel⟩
abbrev s_law_kinds : Stmt := top 25
theorem sc_law_kinds : FnScope ["one", "found"] ["one"] (defScope s_law_kinds) :=
  ⟨rfl, rfl, rfl, by decide +kernel, rfl, by decide +kernel, by decide +kernel⟩
abbrev s_law_field : Stmt := top 26
theorem sc_law_field : FnScope ["one", "word"] ["one", "word"] (defScope s_law_field) :=
  ⟨rfl, rfl, rfl, by decide +kernel, rfl, by decide +kernel, by decide +kernel⟩
abbrev s_law_is : Stmt := top 27
theorem sc_law_is : FnScope ["kept", "given"] ["kept", "given"] (defScope s_law_is) :=
  ⟨rfl, rfl, rfl, by decide +kernel, rfl, by decide +kernel, by decide +kernel⟩
abbrev s_law_under : Stmt := top 28
theorem sc_law_under : FnScope ["one", "found"] ["one"] (defScope s_law_under) :=
  ⟨rfl, rfl, rfl, by decide +kernel, rfl, by decide +kernel, by decide +kernel⟩
abbrev s_law_last_right : Stmt := top 29
theorem sc_law_last_right : FnScope ["last", "number", "one", "two"] ["last", "number", "one", "two"] (defScope s_law_last_right) :=
  ⟨rfl, rfl, rfl, by decide +kernel, rfl, by decide +kernel, by decide +kernel⟩
abbrev s_law : Stmt := top 30
theorem sc_law : FnScope ["script", "at", "bag", "turn", "thing", "number", "one", "two", "first", "last", "k", "row", "each", "place"] ["script"] (defScope s_law) :=
  ⟨rfl, rfl, rfl, by decide +kernel, rfl, by decide +kernel, by decide +kernel⟩
structure Txt (K : Fg) (mg : Str → Option Value) : Prop where
  n_isinstance : mg "isinstance" = none
  n_list : mg "list" = none
  n_tuple : mg "tuple" = none
  n_int : mg "int" = none
  n_str : mg "str" = none
  n_bool : mg "bool" = none
  n_len : mg "len" = none
  n_abs : mg "abs" = none
  n_max : mg "max" = none
  n_min : mg "min" = none
  n_range : mg "range" = none
  n_enumerate : mg "enumerate" = none
  n_ValueError : mg "ValueError" = none
  n_LookupError : mg "LookupError" = none
  n_KeyError : mg "KeyError" = none
  n_IndexError : mg "IndexError" = none
end K90

namespace K90
open PySem PySem.Spec PyProof.Rows L2 EV
/-- the bag at b: digits, a number below 2 ^ 62, at most n draws -/
def BagAt (H : Hp) (b : Addr) (n : Nat) : Prop := ∃ d m c : Int, H b = some (.lst [.int d, .int m, .int c]) ∧ 0 ≤ d ∧ 0 ≤ m ∧ m < 4611686018427387904 ∧ 0 ≤ c ∧ c ≤ n
theorem BagAt.mono {H : Hp} {b : Addr} {n m : Nat} (h : BagAt H b n) (l : n ≤ m) : BagAt H b m := by
  obtain ⟨d, q, c, h1, h2, h3, h4, h5, h6⟩ := h
  exact ⟨d, q, c, h1, h2, h3, h4, h5, by omega⟩
theorem BagAt.same {H H' : Hp} {b : Addr} {n : Nat} (h : BagAt H b n) (s : Same H H') : BagAt H' b n := by
  obtain ⟨d, q, c, h1, h2⟩ := h
  exact ⟨d, q, c, s _ _ h1, h2⟩
def spTake : Sp := fun vs H Q _ => ∃ (b : Addr) (n : Nat) (many : Int), vs = [.ref b, .int many] ∧ BagAt H b n ∧ n ≤ 1000000 ∧ 0 < many ∧ many.natAbs < 2 ^ 200 ∧
  ∀ (r : Int) (H' : Hp), 0 ≤ r → r < many → Keep b H H' → BagAt H' b (n + 1) → Q (.int r) H'
section
variable {P : Program} {w : World} {K : Fg} {mg : Str → Option Value} {base : Heap}
theorem pow2n (i : Int) (h : i.natAbs < 9223372036854775808) : i.natAbs < 2 ^ 64 := Nat.lt_of_lt_of_le h (by decide)
theorem ok_take {f : Addr} {fd : FuncData} (F : Fun K "_law_take" "_law_take" s_law_take f fd) (T : Txt K mg) :
    FnOk P w K mg base CX0 1 f fd ["bag", "many"] spTake := by
  refine F.ok sc_law_take (fun vs H Q E h => ?_) (fun cdv A outer s H vs Q E hr h => ?_)
  · obtain ⟨b, n, many, rfl, _⟩ := h
    rfl
  · obtain ⟨b, n, many, rfl, ⟨d, m, c, hb, d0, m0, m1, c0, cn⟩, hn, h0, h200, k⟩ := h
    refine ⟨_, (pss_cons (ps_if (pt_cmpR op_gt (pe_ix ix_list (pv 0) pe_int (fun _ _ => rfl)) pe_int (nomark _)) (pss_cons (ps_set (i := 2) sc_law_take.nd rfl (Or.inl rfl) (pe_op op_mod (pe_callTy call_int1 (by rfl) T.n_int (by decide +kernel) (pa_cons (pe_ix ix_list (pv 0) pe_int (fun _ _ => rfl)) pa_nil)) (pv 1)))
    (pss_cons (ps_asg (pe_op op_fdivW (pe_ix ix_list (pv 0) pe_int (fun _ _ => rfl)) (pv 1)) (pg_sub (pv 0) pe_int set_list))
    (pss_one (ps_ret (pv 2))))) pss_nil)
    (pss_cons (ps_asg (pe_op op_add (pe_ix ix_list (pv 0) pe_int (fun _ _ => rfl)) pe_int) (pg_sub (pv 0) pe_int set_list))
    (pss_cons (ps_set (i := 3) sc_law_take.nd rfl (Or.inl rfl) (pe_op op_mod (pe_callTy call_int1 (by rfl) T.n_int (by decide +kernel) (pa_cons (pe_op op_pow (pe_op op_add (pe_ix ix_list (pv 0) pe_int (fun _ _ => rfl)) (pe_op op_mul pe_int (pe_ix ix_list (pv 0) pe_int (fun _ _ => rfl)))) pe_int) pa_nil)) pe_int))
    (pss_cons (ps_set (i := 3) sc_law_take.nd rfl (Or.inl rfl) (pe_op op_mod (pe_callTy call_int1 (by rfl) T.n_int (by decide +kernel) (pa_cons (pe_op op_pow (pe_op op_add (pv 3) (pe_op op_mul pe_int (pe_ix ix_list (pv 0) pe_int (fun _ _ => rfl)))) pe_int) pa_nil)) pe_int))
    (pss_one (ps_ret (pe_op op_mod (pe_callTy call_int1 (by rfl) T.n_int (by decide +kernel) (pa_cons (pe_op op_fdiv (pv 3) pe_int) pa_nil)) (pv 1)))))))), ?_⟩
    refine ⟨_, rfl, b, _, 0, _, rfl, rfl, SqL.of hb, rfl, _, _, rfl, rfl, _, rfl, ?_⟩
    refine ite2 (fun hd => ?_) (fun hd => ?_)
    · have hd' : 0 < d := of_decide_eq_true hd
      refine ⟨_, rfl, b, _, 0, _, rfl, rfl, SqL.of hb, rfl, .inl ⟨_, rfl, _, rfl, _, _, rfl, rfl, h0, ?_⟩⟩
      refine ⟨_, rfl, b, _, 0, _, rfl, rfl, SqL.of hb, rfl, _, rfl, _, _, rfl, rfl, wide_div h0 h200 (by decide) (by decide), ?_⟩
      refine ⟨_, rfl, b, _, 0, 0, rfl, rfl, hb, rfl, ?_⟩
      refine ⟨_, rfl, k _ _ (Int.emod_nonneg _ (by omega)) (Int.emod_lt_of_pos _ h0) Keep.upd ⟨d / many, m, c, upd_same, Int.ediv_nonneg d0 (by omega), m0, m1, c0, by omega⟩⟩
    · refine ⟨_, rfl, b, _, 2, _, rfl, rfl, SqL.of hb, rfl, _, _, rfl, rfl, ?_⟩
      refine ⟨_, rfl, b, _, 2, 2, rfl, rfl, hb, rfl, ?_⟩
      have hb1 : upd H b (.lst ([V.int d, .int m, .int c].set 2 (.int (c + 1)))) b = some (.lst [.int d, .int m, .int (c + 1)]) := upd_same
      refine ⟨_, rfl, b, _, 1, _, rfl, rfl, SqL.of hb1, rfl, _, rfl, b, _, 2, _, rfl, rfl, SqL.of hb1, rfl, _, _, rfl, rfl, .inl ⟨by decide, by decide⟩, _, _, rfl, rfl, _, _, rfl, rfl, ⟨by decide, by decide, pow2n _ (by omega)⟩, .inl ⟨_, rfl, _, _, rfl, rfl, by show (0 : Int) < 2305843009213693921; decide, ?_⟩⟩
      have z0 := Int.emod_nonneg ((m + 15485863 * (c + 1)) ^ (3 : Int).toNat) (show (2305843009213693921 : Int) ≠ 0 by decide)
      have z1 := Int.emod_lt_of_pos ((m + 15485863 * (c + 1)) ^ (3 : Int).toNat) (show (0 : Int) < 2305843009213693921 by decide)
      refine ⟨_, rfl, _, rfl, b, _, 2, _, rfl, rfl, SqL.of hb1, rfl, _, _, rfl, rfl, .inl ⟨by decide, by decide⟩, _, _, rfl, rfl, _, _, rfl, rfl, ⟨by decide, by decide, pow2n _ (by omega)⟩, .inl ⟨_, rfl, _, _, rfl, rfl, by show (0 : Int) < 2305843009213693951; decide, ?_⟩⟩
      refine ⟨_, rfl, _, _, rfl, rfl, ⟨by decide, by decide⟩, .inl ⟨_, rfl, _, rfl, _, _, rfl, rfl, h0, ?_⟩⟩
      exact k _ _ (Int.emod_nonneg _ (by omega)) (Int.emod_lt_of_pos _ h0) Keep.upd ⟨d, m, c + 1, upd_same, d0, m0, m1, by omega, by omega⟩
def spBag (K : Fg) : Sp := fun vs H Q _ => ∃ (a : Addr) (ns : List Int) (i : Int), vs = [.ref a, .int i] ∧ SqL K H a (ns.map V.int) ∧ 0 ≤ i ∧ i ≤ 3 ∧
  ∀ (b : Addr) (H' : Hp), H b = none → Same H H' → BagAt H' b 0 → Q (.ref b) H'
theorem at_ints {ns : List Int} {i : Int} (h0 : 0 ≤ i) (h : i < (ns.map V.int).length) : ∃ z, atI (ns.map V.int) i = some (V.int z) := by
  obtain ⟨j, rfl⟩ := Int.eq_ofNat_of_zero_le h0
  have hj : j < ns.length := by simpa using h
  exact ⟨ns[j], atI_nat (by rw [List.getElem?_map, List.getElem?_eq_getElem hj]; rfl)⟩
theorem ok_bag {f : Addr} {fd : FuncData} (F : Fun K "_law_bag" "_law_bag" s_law_bag f fd) (T : Txt K mg) :
    FnOk P w K mg base CX0 1 f fd ["script", "at"] (spBag K) := by
  refine F.ok sc_law_bag (fun vs H Q E h => ?_) (fun cdv A outer s H vs Q E hr h => ?_)
  · obtain ⟨a, ns, i, rfl, _⟩ := h
    rfl
  · obtain ⟨a, ns, i, rfl, hS, i0, i3, k⟩ := h
    refine ⟨_, (pss_cons (ps_set (i := 2) sc_law_bag.nd rfl (Or.inl rfl) (pe_mid (pe_ifExp (pt_cmpR op_lt (pv 1) (pe_callB call_len_seq (by rfl) T.n_len (by decide +kernel) (pa_cons (pv 0) pa_nil)) (nomark _)) (pe_ix ix_list (pv 0) (pv 1) (fun _ _ => rfl)) pe_int)))
    (pss_cons (ps_set (i := 3) sc_law_bag.nd rfl (Or.inl rfl) (pe_mid (pe_ifExp (pt_cmpR op_ge (pe_callB call_abs (by rfl) T.n_abs (by decide +kernel) (pa_cons (pv 2) pa_nil)) (pe_op op_pow pe_int pe_int) (nomark _)) (pe_callB call_abs (by rfl) T.n_abs (by decide +kernel) (pa_cons (pv 2) pa_nil)) pe_int)))
    (pss_one (ps_ret (pe_lst (pa_cons (pv 3) (pa_cons (pe_op op_add (pe_op op_add (pe_op op_mod (pe_callTy call_int1 (by rfl) T.n_int (by decide +kernel) (pa_cons (pv 2) pa_nil)) pe_int) (pe_op op_mul pe_int (pv 1))) pe_int) (pa_cons pe_int pa_nil)))))))), ?_⟩
    refine ⟨fun v H1 => (∃ z : Int, v = .int z) ∧ H1 = H, ⟨_, rfl, _, rfl, a, _, rfl, .inl hS, _, _, rfl, rfl, _, rfl, ite2 (fun hd => ?_) (fun hd => ⟨⟨_, rfl⟩, rfl⟩)⟩, ?_⟩
    · obtain ⟨z, hz⟩ := at_ints i0 (of_decide_eq_true hd)
      exact ⟨_, rfl, _, rfl, a, _, _, _, rfl, rfl, hS, hz, ⟨z, rfl⟩, rfl⟩
    · rintro _ _ ⟨⟨z, rfl⟩, rfl⟩
      refine ⟨fun v H1 => (∃ y : Int, v = .int y ∧ 0 ≤ y) ∧ H1 = _, ⟨_, rfl, _, rfl, _, _, rfl, rfl, ⟨by decide, by decide, by decide⟩, _, _, rfl, rfl, _, rfl, ite2 (fun hd => ?_) (fun hd => ⟨⟨_, rfl, Int.le_refl 0⟩, rfl⟩)⟩, ?_⟩
      · refine ⟨_, rfl, _, rfl, ⟨_, rfl, ?_⟩, rfl⟩
        split <;> omega
      · rintro _ _ ⟨⟨y, rfl, y0⟩, rfl⟩
        refine ⟨_, rfl, _, rfl, .inl ⟨_, rfl, _, _, rfl, rfl, by show (0 : Int) < 2305843009213693951; decide, _, rfl, _, _, rfl, rfl, .inl ⟨by decide, by decide⟩, _, _, rfl, rfl, _, _, rfl, rfl, by show 3 ≤ sizeLine; decide, fun b nb => ?_⟩⟩
        have z0 := Int.emod_nonneg z (show (2305843009213693951 : Int) ≠ 0 by decide)
        have z1 := Int.emod_lt_of_pos z (show (0 : Int) < 2305843009213693951 by decide)
        exact k b _ nb (same_upd nb) ⟨y, _, 0, upd_same, y0, by omega, by omega, Int.le_refl 0, Int.le_refl 0⟩
def spOf : Sp := fun vs H Q _ => ∃ (b l : Addr) (n : Nat) (xs : List V), vs = [.ref b, .ref l] ∧ BagAt H b n ∧ n ≤ 900000 ∧ H l = some (.lst xs) ∧ l ≠ b ∧
  0 < xs.length ∧ xs.length ≤ 1000 ∧ ∀ (x : V) (H' : Hp), x ∈ xs → Keep b H H' → BagAt H' b (n + 1) → Q x H'
theorem small200 {z : Int} (h0 : 0 ≤ z) (h : z ≤ 1000000) : z.natAbs < 2 ^ 200 := Nat.lt_of_le_of_lt (show z.natAbs ≤ 1000000 by omega) (by decide)
theorem ok_of {f : Addr} {fd : FuncData} (F : Fun K "_law_of" "_law_of" s_law_of f fd) (T : Txt K mg)
    (O_law_take : Ok P w K mg base 1 "_law_take" ["bag", "many"] spTake) : FnOk P w K mg base CX0 2 f fd ["bag", "some"] spOf := by
  refine F.ok sc_law_of (fun vs H Q E h => ?_) (fun cdv A outer s H vs Q E hr h => ?_)
  · obtain ⟨b, l, n, xs, rfl, _⟩ := h
    rfl
  · obtain ⟨b, l, n, xs, rfl, B, hn, hl, lb, p0, p1, k⟩ := h
    refine ⟨_, (pss_one (ps_ret (pe_ix ix_list (pv 1) (pe_callO O_law_take (hr.mono (by decide)) (pa_cons (pv 0) (pa_cons (pe_callB call_len_seq (by rfl) T.n_len (by decide +kernel) (pa_cons (pv 1) pa_nil)) pa_nil))) (fun _ _ => rfl)))), ?_⟩
    refine ⟨_, rfl, _, rfl, _, rfl, l, xs, rfl, .inl (SqL.of hl), ?_⟩
    refine ⟨b, n, _, rfl, B, by omega, by omega, small200 (by omega) (by omega), fun r H' r0 r1 kp B' => ?_⟩
    obtain ⟨j, rfl⟩ := Int.eq_ofNat_of_zero_le r0
    have hj : j < xs.length := by omega
    exact ⟨l, xs, _, xs[j], rfl, rfl, SqL.of (kp _ _ lb hl), atI_nat (List.getElem?_eq_getElem hj), k _ _ (List.getElem_mem hj) kp B'⟩
/-- a drawn thing, as data -/
inductive Th (H : Hp) : V → PyData → Prop
  | int (i : Int) : Th H (.int i) (.int i)
  | str (z : Str) : Th H (.str z) (.str z)
  | non : Th H .non .none
  | bl (k : Bool) : Th H (.bl k) (.bool k)
  | lst {a : Addr} (i : Int) (h : H a = some (.lst [.int i])) : Th H (.ref a) (.list [.int i])
  | tup {a : Addr} (i : Int) (z : Str) (hz : PyData.strOk z = true) (h : H a = some (.tup [.int i, .str z])) : Th H (.ref a) (.tuple [.int i, .str z])
theorem Th.same {H H' : Hp} {x : V} {d : PyData} (t : Th H x d) (s : Same H H') : Th H' x d := by
  cases t with
  | int i => exact .int i
  | str z => exact .str z
  | non => exact .non
  | bl k => exact .bl k
  | lst i h => exact .lst i (s _ _ h)
  | tup i z hz h => exact .tup i z hz (s _ _ h)
theorem Th.keep {H H' : Hp} {x : V} {d : PyData} {b : Addr} {u v y : V} (t : Th H x d) (s : Keep b H H') (hb : H b = some (.lst [u, v, y])) : Th H' x d := by
  cases t with
  | int i => exact .int i
  | str z => exact .str z
  | non => exact .non
  | bl k => exact .bl k
  | lst i h => exact .lst i (s _ _ (ne_of h hb (by intro q; cases q)) h)
  | tup i z hz h => exact .tup i z hz (s _ _ (ne_of h hb (by intro q; cases q)) h)
theorem Th.dp {H : Hp} {x : V} {d : PyData} (t : Th H x d) : Dp K H x d := by
  cases t with
  | int i => exact .int i
  | str z => exact .str z
  | non => exact .non
  | bl k => exact .bl k
  | lst i h => exact .lst (SqL.of h) (.cons (.int i) .nil)
  | tup i z hz h => exact .tup (SqT.of h) (.cons (.int i) (.cons (.str z) .nil))
def spThing : Sp := fun vs H Q _ => ∃ (b : Addr) (n : Nat), vs = [.ref b] ∧ BagAt H b n ∧ n ≤ 800000 ∧
  ∀ (x : V) (d : PyData) (H' : Hp), Th H' x d → Keep b H H' → BagAt H' b (n + 2) → Q x H'
theorem ok_thing {f : Addr} {fd : FuncData} (F : Fun K "_law_thing" "_law_thing" s_law_thing f fd) (T : Txt K mg)
    (O_law_take : Ok P w K mg base 1 "_law_take" ["bag", "many"] spTake) (O_law_of : Ok P w K mg base 2 "_law_of" ["bag", "some"] spOf) :
    FnOk P w K mg base CX0 3 f fd ["bag"] spThing := by
  refine F.ok sc_law_thing (fun vs H Q E h => ?_) (fun cdv A outer s H vs Q E hr h => ?_)
  · obtain ⟨b, n, rfl, _⟩ := h
    rfl
  · obtain ⟨b, n, rfl, B, hn, k⟩ := h
    refine ⟨_, (pss_cons (ps_set (i := 1) sc_law_thing.nd rfl (Or.inl rfl) (pe_callO O_law_take (hr.mono (by decide)) (pa_cons (pv 0) (pa_cons (pe_op op_pow pe_int pe_int) pa_nil))))
    (pss_one (ps_ret (pe_callO O_law_of (hr.mono (by decide)) (pa_cons (pv 0) (pa_cons (pe_lst (pa_cons (pv 1) (pa_cons (pe_un un_neg (pv 1)) (pa_cons (pe_op op_add_str pe_str (pe_callTy call_str_int (by rfl) T.n_str (by decide +kernel) (pa_cons (pv 1) pa_nil))) (pa_cons pe_str (pa_cons pe_non (pa_cons pe_bl (pa_cons (pe_lst (pa_cons (pv 1) pa_nil)) (pa_cons (pe_tup (pa_cons (pv 1) (pa_cons pe_str pa_nil))) (pa_cons pe_int pa_nil)))))))))) pa_nil)))))), ?_⟩
    refine ⟨_, rfl, _, _, rfl, rfl, ⟨by decide, by decide, by decide⟩, ?_⟩
    refine ⟨b, n, _, rfl, B, by omega, by decide, by decide, fun r H1 r0 r1 k1 B1 => ?_⟩
    have hr1 : r.natAbs < 10 ^ 30 := by
      have z : r < 1000000000000000000000000000000 := r1
      show r.natAbs < 1000000000000000000000000000000
      omega
    have hlog : r.natAbs.log2 < 1920 := Nat.lt_of_lt_of_le (PySem.Flt.log2_lt_of (k := 100) (by decide) (Nat.lt_of_lt_of_le hr1 (by decide))) (by decide)
    have hlen : (Str.ofString (toString r)).length ≤ 30 := toString_length_le r0 (by decide) r1
    have hsz : (("x" : Str)).length + (Str.ofString (toString r)).length ≤ sizeLine := by
      rw [sizeLine_eq]
      have q : (("x" : Str)).length = 1 := by decide +kernel
      omega
    refine ⟨_, rfl, _, rfl, _, rfl, _, rfl, _, rfl, _, rfl, hlog, _, _, rfl, rfl, hsz, _, rfl, by show 1 ≤ sizeLine; decide, fun p np => ?_⟩
    refine ⟨_, rfl, by show 2 ≤ sizeLine; decide, fun t nt => ?_⟩
    refine ⟨by show 9 ≤ sizeLine; decide, fun l nl => ?_⟩
    have B2 := (B1.same (same_upd (o := .lst [.int r]) np)).same (same_upd (o := .tup [.int r, .str "a"]) nt)
    have nb : ∀ {a : Addr} {G : Hp}, BagAt G b (n + 1) → G a = none → a ≠ b := fun {a G} z q e => by
      obtain ⟨_, _, _, y, _⟩ := z
      rw [e, y] at q
      cases q
    refine ⟨b, l, n + 1, _, rfl, B2.same (same_upd nl), by omega, upd_same, nb B2 nl, by show 0 < 9; decide, by show 9 ≤ 1000; decide, fun x H2 hx k2 B3 => ?_⟩
    have hp2 : H2 p = some (.lst [.int r]) := k2 _ _ (nb B1 np) (same_upd nl _ _ (same_upd nt _ _ upd_same))
    have ht2 : H2 t = some (.tup [.int r, .str "a"]) := k2 _ _ (nb (B1.same (same_upd (o := .lst [.int r]) np)) nt) (same_upd nl _ _ upd_same)
    have kk : Keep b H H2 := k1.trans ((Keep.of fun a o z => same_upd nl _ _ (same_upd nt _ _ (same_upd np _ _ z))).trans k2)
    obtain ⟨d, hd⟩ : ∃ d, Th H2 x d := by
      simp only [List.mem_cons, List.not_mem_nil, or_false] at hx
      rcases hx with rfl | rfl | rfl | rfl | rfl | rfl | rfl | rfl | rfl
      · exact ⟨_, .int _⟩
      · exact ⟨_, .int _⟩
      · exact ⟨_, .str _⟩
      · exact ⟨_, .str _⟩
      · exact ⟨_, .non⟩
      · exact ⟨_, .bl _⟩
      · exact ⟨_, .lst _ hp2⟩
      · exact ⟨_, .tup _ _ (by decide +kernel) ht2⟩
      · exact ⟨_, .int _⟩
    exact k x d H2 hd kk (B3.mono (by omega))
def spLetters : Sp := fun vs H Q _ => ∃ (b : Addr) (n : Nat), vs = [.ref b] ∧ BagAt H b n ∧ n ≤ 800000 ∧
  ∀ (z : Str) (H' : Hp), z.length ≤ 8 → Keep b H H' → BagAt H' b (n + 9) → Q (.str z) H'
theorem sign_len (c : Nat) : (Str.mk #[c]).length = 1 := rfl
theorem app_len (y z : Str) : (y ++ z).length = y.length + z.length := by
  show (y.cps ++ z.cps).size = y.cps.size + z.cps.size
  exact Array.size_append
theorem ok_letters {f : Addr} {fd : FuncData} (F : Fun K "_law_letters" "_law_letters" s_law_letters f fd) (T : Txt K mg)
    (O_law_take : Ok P w K mg base 1 "_law_take" ["bag", "many"] spTake) (O_law_of : Ok P w K mg base 2 "_law_of" ["bag", "some"] spOf) :
    FnOk P w K mg base CX0 3 f fd ["bag"] spLetters := by
  refine F.ok sc_law_letters (fun vs H Q E h => ?_) (fun cdv A outer s H vs Q E hr h => ?_)
  · obtain ⟨b, n, rfl, _⟩ := h
    rfl
  · obtain ⟨b, n, rfl, B, hn, k⟩ := h
    refine ⟨_, (pss_cons (ps_set (i := 1) sc_law_letters.nd rfl (Or.inl rfl) pe_str)
    (pss_cons (ps_for PassesOwn.never rfl (pi_range1 rfl T.n_range (pa_cons (pe_op op_add pe_int (pe_callO O_law_take (hr.mono (by decide)) (pa_cons (pv 0) (pa_cons pe_int pa_nil)))) pa_nil)) (pg_name (i := 2) sc_law_letters.nd rfl (Or.inl rfl)) (pss_one (ps_set (i := 1) sc_law_letters.nd rfl (Or.inl rfl) (pe_op op_add_str (pv 1) (pe_callO O_law_of (hr.mono (by decide)) (pa_cons (pv 0) (pa_cons (pe_callTy (call_list_text rfl) (by rfl) T.n_list (by decide +kernel) (pa_cons pe_str pa_nil)) pa_nil)))))))
    (pss_one (ps_ret (pv 1))))), ?_⟩
    refine ⟨_, rfl, b, n, 8, rfl, B, by omega, by decide, by decide, fun r H1 r0 r1 k1 B1 => ⟨_, _, rfl, rfl, 1 + r, rfl, by omega, by omega, ?_⟩⟩
    refine for_range (lo := 0) (n := (1 + r).toNat) (fun i σ H' => ∃ (z : Str) (u : Option V), σ = [some (.ref b), some (.str z), u] ∧ z.length ≤ i ∧ Keep b H H' ∧ BagAt H' b (n + 1 + i))
      ⟨"", none, rfl, Nat.le_refl _, k1, B1⟩ ?_ ?_
    · rintro i σ H2 hi ⟨z, u, rfl, hz, k2, B2⟩
      have ii : i < 8 := by omega
      refine ⟨_, rfl, _, rfl, _, rfl, by decide +kernel, fun l nl => ?_⟩
      have B3 := B2.same (same_upd (o := .lst (signsV "abcdefghijklmnopqrstuvwxyz")) nl)
      have lb : l ≠ b := fun e => by
        obtain ⟨_, _, _, y, _⟩ := B2
        rw [e, y] at nl
        cases nl
      refine ⟨b, l, _, _, rfl, B3, by omega, upd_same, lb, by decide +kernel, by decide +kernel, fun x H3 hx k3 B4 => ?_⟩
      obtain ⟨c, _, rfl⟩ := List.mem_map.mp hx
      have e1 : z.length + (Str.mk #[c]).length ≤ sizeLine := by
        rw [sizeLine_eq, sign_len]
        omega
      refine ⟨_, _, rfl, rfl, e1, _, _, rfl, ?_, k2.trans ((Keep.of (same_upd nl)).trans k3), B4.mono (by omega)⟩
      rw [app_len, sign_len]
      omega
    · rintro σ H2 ⟨z, u, rfl, hz, k2, B2⟩
      exact ⟨_, rfl, k z H2 (by omega) k2 (B2.mono (by omega))⟩
end
end K90

namespace K90
open PySem PySem.Spec PyProof.Rows L2 EV
section
variable {P : Program} {w : World} {K : Fg} {mg : Str → Option Value} {base : Heap}
/-! ### own_copy -/
def Flat (x : V) : Prop := (∃ i, x = .int i) ∨ (∃ z, x = .str z) ∨ x = .non ∨ ∃ k, x = .bl k
def flatT : V → String
  | .int _ => "int"
  | .str _ => "str"
  | .bl _ => "bool"
  | _ => "NoneType"
theorem flat_ty {x : V} {H : Hp} (h : Flat x) : TyX K H x (.type (flatT x)) := by
  rcases h with ⟨i, rfl⟩ | ⟨z, rfl⟩ | rfl | ⟨k, rfl⟩
  · exact .base (.int i)
  · exact .base (.str z)
  · exact .base .non
  · exact .base (.bl k)
theorem flat_list {x : V} (h : Flat x) : PySem.W.kitOne K (.type (flatT x)) (.type "list") = some false := by
  rcases h with ⟨i, rfl⟩ | ⟨z, rfl⟩ | rfl | ⟨k, rfl⟩
  · exact kit_ty (a := "int") (by decide +kernel)
  · exact kit_ty (a := "str") (by decide +kernel)
  · exact kit_ty (a := "NoneType") (by decide +kernel)
  · exact kit_ty (a := "bool") (by decide +kernel)
theorem flat_tuple {x : V} (h : Flat x) : PySem.W.kitOne K (.type (flatT x)) (.type "tuple") = some false := by
  rcases h with ⟨i, rfl⟩ | ⟨z, rfl⟩ | rfl | ⟨k, rfl⟩
  · exact kit_ty (a := "int") (by decide +kernel)
  · exact kit_ty (a := "str") (by decide +kernel)
  · exact kit_ty (a := "NoneType") (by decide +kernel)
  · exact kit_ty (a := "bool") (by decide +kernel)
def spFlat : Sp := fun vs H Q _ => ∃ x, vs = [x] ∧ Flat x ∧ Q x H
theorem ok_copy0 {f : Addr} {fd : FuncData} (F : Fun K "own_copy" "own_copy" s_own_copy f fd) (T : Txt K mg) :
    FnOk P w K mg base CX0 1 f fd ["thing"] spFlat := by
  refine F.ok sc_own_copy (fun vs H Q E h => ?_) (fun cdv A outer s H vs Q E hr h => ?_)
  · obtain ⟨x, rfl, _⟩ := h
    rfl
  · obtain ⟨x, rfl, hx, k⟩ := h
    refine ⟨_, (pss_cons (ps_if (pt_val (pe_callB call_isi (by rfl) T.n_isinstance (by decide +kernel) (pa_cons (pv 0) (pa_cons (pe_bltn (v := .ty "list") rfl T.n_list (by decide +kernel) rfl) pa_nil)))) pss_never pss_nil)
      (pss_cons (ps_if (pt_val (pe_callB call_isi (by rfl) T.n_isinstance (by decide +kernel) (pa_cons (pv 0) (pa_cons (pe_bltn (v := .ty "tuple") rfl T.n_tuple (by decide +kernel) rfl) pa_nil)))) pss_never pss_nil)
      (pss_one (ps_ret (pv 0))))), ?_⟩
    refine ⟨_, rfl, x, .ty "list", _, _, false, rfl, .ty _, flat_ty hx, flat_list hx, _, rfl, iteF ?_⟩
    refine ⟨_, rfl, x, .ty "tuple", _, _, false, rfl, .ty _, flat_ty hx, flat_tuple hx, _, rfl, iteF ?_⟩
    exact ⟨_, rfl, k⟩
def spCopy : Sp := fun vs H Q _ => ∃ (x : V) (d : PyData), vs = [x] ∧ Th H x d ∧ ∀ (y : V) (H' : Hp), Same H H' → Th H' y d → Q y H'
theorem ok_copy {f : Addr} {fd : FuncData} (F : Fun K "own_copy" "own_copy" s_own_copy f fd) (T : Txt K mg)
    (O_own_copy : Ok P w K mg base 1 "own_copy" ["thing"] spFlat) : FnOk P w K mg base CX0 2 f fd ["thing"] spCopy := by
  refine F.ok sc_own_copy (fun vs H Q E h => ?_) (fun cdv A outer s H vs Q E hr h => ?_)
  · obtain ⟨x, d, rfl, _⟩ := h
    rfl
  · obtain ⟨x, d, rfl, hx, k⟩ := h
    have flat : Flat x → FnOk P w K mg base CX0 1 f fd ["thing"] spFlat := fun _ => ok_copy0 F T
    have hr1 := hr
    by_cases fx : Flat x
    · refine ⟨_, (pss_cons (ps_if (pt_val (pe_callB call_isi (by rfl) T.n_isinstance (by decide +kernel) (pa_cons (pv 0) (pa_cons (pe_bltn (v := .ty "list") rfl T.n_list (by decide +kernel) rfl) pa_nil)))) pss_never pss_nil)
        (pss_cons (ps_if (pt_val (pe_callB call_isi (by rfl) T.n_isinstance (by decide +kernel) (pa_cons (pv 0) (pa_cons (pe_bltn (v := .ty "tuple") rfl T.n_tuple (by decide +kernel) rfl) pa_nil)))) pss_never pss_nil)
        (pss_one (ps_ret (pv 0))))), ?_⟩
      refine ⟨_, rfl, x, .ty "list", _, _, false, rfl, .ty _, flat_ty fx, flat_list fx, _, rfl, iteF ?_⟩
      refine ⟨_, rfl, x, .ty "tuple", _, _, false, rfl, .ty _, flat_ty fx, flat_tuple fx, _, rfl, iteF ?_⟩
      exact ⟨_, rfl, k _ _ (Same.refl _) hx⟩
    · cases hx with
      | int i => exact absurd (.inl ⟨_, rfl⟩) fx
      | str z => exact absurd (.inr (.inl ⟨_, rfl⟩)) fx
      | non => exact absurd (.inr (.inr (.inl rfl))) fx
      | bl b => exact absurd (.inr (.inr (.inr ⟨_, rfl⟩))) fx
      | @lst a i ha =>
        refine ⟨_, (pss_cons (ps_if (pt_val (pe_callB call_isi (by rfl) T.n_isinstance (by decide +kernel) (pa_cons (pv 0) (pa_cons (pe_bltn (v := .ty "list") rfl T.n_list (by decide +kernel) rfl) pa_nil)))) (pss_one (ps_ret (pe_lc (own := [("part", 1)]) rfl sc_own_copy.nd (pi_list (pv 0)) (blkOk_by (own := [("part", 1)]) (N := ["thing", "part"]) (sc := defScope s_own_copy) (by decide +kernel)) (fun _ _ _ _ _ => (pg_name (i := 1) sc_own_copy.nd rfl (Or.inl rfl))) (fun _ _ _ _ _ => pts_nil) (fun _ _ _ _ _ => (pe_callO O_own_copy (hr.mono (by decide)) (pa_cons (pv 1) pa_nil)))))) pss_nil)
    (pss_cons (ps_if (pt_val (pe_callB call_isi (by rfl) T.n_isinstance (by decide +kernel) (pa_cons (pv 0) (pa_cons (pe_bltn (v := .ty "tuple") rfl T.n_tuple (by decide +kernel) rfl) pa_nil)))) (pss_one (ps_ret (pe_callTy call_tuple_of (by rfl) T.n_tuple (by decide +kernel) (pa_cons (pe_lc (own := [("part", 1)]) rfl sc_own_copy.nd (pi_list (pv 0)) (blkOk_by (own := [("part", 1)]) (N := ["thing", "part"]) (sc := defScope s_own_copy) (by decide +kernel)) (fun _ _ _ _ _ => (pg_name (i := 1) sc_own_copy.nd rfl (Or.inl rfl))) (fun _ _ _ _ _ => pts_nil) (fun _ _ _ _ _ => (pe_callO O_own_copy (hr.mono (by decide)) (pa_cons (pv 1) pa_nil)))) pa_nil)))) pss_nil)
    (pss_one (ps_ret (pv 0))))), ?_⟩
        refine ⟨_, rfl, .ref a, .ty "list", .type "list", .type "list", true, rfl, .ty _, .base (.lst ha), kit_ty (by decide +kernel), _, rfl, iteT ?_⟩
        refine ⟨_, rfl, a, rfl, ⟨_, SqL.of ha⟩, fun D nD => ?_⟩
        refine lc_list (K := K) (a := a) (xs := [.int i]) (fun j G => Same H G ∧ G D = some (.lst ([V.int i].take j))) ⟨same_upd nD, upd_same⟩ (fun j G _ q => SqL.of (q.1 _ _ ha)) ?_ ?_
        · rintro j x G hj ⟨s1, s2⟩
          obtain ⟨rfl, rfl⟩ : j = 0 ∧ x = .int i := by
            cases j with
            | zero => exact ⟨rfl, (Option.some.inj hj).symm⟩
            | succ j => simp at hj
          exact ⟨rfl, _, rfl, _, rfl, .inl ⟨_, rfl⟩, _, s2, by show 0 < sizeLine; decide, same_upd' s1 nD, upd_same⟩
        · rintro G ⟨s1, s2⟩
          exact k _ G s1 (.lst i s2)
      | @tup a i z hz ha =>
        refine ⟨_, (pss_cons (ps_if (pt_val (pe_callB call_isi (by rfl) T.n_isinstance (by decide +kernel) (pa_cons (pv 0) (pa_cons (pe_bltn (v := .ty "list") rfl T.n_list (by decide +kernel) rfl) pa_nil)))) (pss_one (ps_ret (pe_lc (own := [("part", 1)]) rfl sc_own_copy.nd (pi_tup (pv 0)) (blkOk_by (own := [("part", 1)]) (N := ["thing", "part"]) (sc := defScope s_own_copy) (by decide +kernel)) (fun _ _ _ _ _ => (pg_name (i := 1) sc_own_copy.nd rfl (Or.inl rfl))) (fun _ _ _ _ _ => pts_nil) (fun _ _ _ _ _ => (pe_callO O_own_copy (hr.mono (by decide)) (pa_cons (pv 1) pa_nil)))))) pss_nil)
    (pss_cons (ps_if (pt_val (pe_callB call_isi (by rfl) T.n_isinstance (by decide +kernel) (pa_cons (pv 0) (pa_cons (pe_bltn (v := .ty "tuple") rfl T.n_tuple (by decide +kernel) rfl) pa_nil)))) (pss_one (ps_ret (pe_callTy call_tuple_of (by rfl) T.n_tuple (by decide +kernel) (pa_cons (pe_lc (own := [("part", 1)]) rfl sc_own_copy.nd (pi_tup (pv 0)) (blkOk_by (own := [("part", 1)]) (N := ["thing", "part"]) (sc := defScope s_own_copy) (by decide +kernel)) (fun _ _ _ _ _ => (pg_name (i := 1) sc_own_copy.nd rfl (Or.inl rfl))) (fun _ _ _ _ _ => pts_nil) (fun _ _ _ _ _ => (pe_callO O_own_copy (hr.mono (by decide)) (pa_cons (pv 1) pa_nil)))) pa_nil)))) pss_nil)
    (pss_one (ps_ret (pv 0))))), ?_⟩
        refine ⟨_, rfl, .ref a, .ty "list", .type "tuple", .type "list", false, rfl, .ty _, .base (.tup ha), kit_ty (by decide +kernel), _, rfl, iteF ?_⟩
        refine ⟨_, rfl, .ref a, .ty "tuple", .type "tuple", .type "tuple", true, rfl, .ty _, .base (.tup ha), kit_ty (by decide +kernel), _, rfl, iteT ?_⟩
        refine ⟨_, rfl, a, rfl, ⟨_, SqT.of ha⟩, fun D nD => ?_⟩
        refine lc_tup (K := K) (a := a) (xs := [.int i, .str z]) (fun j G => Same H G ∧ G D = some (.lst ([V.int i, .str z].take j))) ⟨same_upd nD, upd_same⟩ (fun j G _ q => SqT.of (q.1 _ _ ha)) ?_ ?_
        · rintro j x G hj ⟨s1, s2⟩
          match j, hj with
          | 0, hj =>
            obtain rfl : x = .int i := (Option.some.inj hj).symm
            exact ⟨rfl, _, rfl, _, rfl, .inl ⟨_, rfl⟩, _, s2, by show 0 < sizeLine; decide, same_upd' s1 nD, upd_same⟩
          | 1, hj =>
            obtain rfl : x = .str z := (Option.some.inj hj).symm
            exact ⟨rfl, _, rfl, _, rfl, .inr (.inl ⟨_, rfl⟩), _, s2, by show 1 < sizeLine; decide, same_upd' s1 nD, upd_same⟩
          | j + 2, hj => simp at hj
        · rintro G ⟨s1, s2⟩
          refine ⟨D, _, rfl, .inl ⟨SqL.of s2, fun l nl => ?_⟩⟩
          exact k _ _ (fun b o q => same_upd nl _ _ (s1 b o q)) (.tup i z hz upd_same)
end
end K90

namespace K90
open PySem PySem.Spec PyProof.Rows L2 EV
def spI1 (C : Addr) (f : Str) : Sp := fun vs H Q _ => ∃ (H0 : Hp) (a : Addr) (y : V), vs = [.ref a, y] ∧ H = upd H0 a (exo a C none) ∧ H0 a = none ∧
  ∀ H', Same H0 H' → ErrAt H' a C [(f, y)] → Q .non H'
def spI1c (C : Addr) (f : Str) : Sp := fun vs H Q _ => ∃ (H0 : Hp) (a : Addr) (y : V) (d : PyData), vs = [.ref a, y] ∧ H = upd H0 a (exo a C none) ∧ H0 a = none ∧ Th H0 y d ∧
  ∀ (H' : Hp) (y' : V), Same H0 H' → ErrAt H' a C [(f, y')] → Th H' y' d → Q .non H'
def spI2 (C : Addr) (f g : Str) : Sp := fun vs H Q _ => ∃ (H0 : Hp) (a : Addr) (y z : V), vs = [.ref a, y, z] ∧ H = upd H0 a (exo a C none) ∧ H0 a = none ∧
  ∀ H', Same H0 H' → ErrAt H' a C [(g, z), (f, y)] → Q .non H'
theorem end1 {H0 H1 : Hp} {a C dx : Addr} {fs : List (Str × V)} (s : Same H0 H1) (na : H0 a = none) (nd : H1 dx = none) (ne : dx ≠ a) :
    Same H0 (upd (upd H1 dx (exd dx fs)) a (exo a C (some dx))) ∧ ErrAt (upd (upd H1 dx (exd dx fs)) a (exo a C (some dx))) a C fs := by
  refine ⟨fun b o z => ?_, dx, upd_same, by rw [upd_ne ne]; exact upd_same⟩
  rw [upd_ne (ne_of_none z na), upd_ne (ne_of_none (s _ _ z) nd)]
  exact s _ _ z
theorem same_ex {H0 : Hp} {a : Addr} {o : HO} (na : H0 a = none) : Same H0 (upd H0 a o) := same_upd na
section
variable {P : Program} {w : World} {K : Fg} {mg : Str → Option Value} {base : Heap} {f C : Addr} {fd : FuncData}
theorem ok_BadLibrary (F : Fun K "__init__" "BadLibrary.__init__" s_BadLibrary___init__ f fd) (x : XCls K C) (n : NoAttr K C "at") :
    FnOk P w K mg base CX0 1 f fd ["self", "at"] (spI1 C "at") := by
  refine F.ok sc_BadLibrary___init__ (fun vs H Q E h => ?_) (fun cdv A outer s H vs Q E hr h => ?_)
  · obtain ⟨H0, a, y, rfl, _⟩ := h
    rfl
  · obtain ⟨H0, a, y, rfl, rfl, na, k⟩ := h
    refine ⟨_, pss_one (ps_put1 (pv 0) (pv 1)), ⟨_, rfl, _, rfl, a, C, rfl, x, n, upd_same, fun dx nd ne => ?_⟩⟩
    obtain ⟨e1, e2⟩ := end1 (C := C) (fs := [("at", y)]) (same_ex (o := exo a C none) na) na nd ne
    exact k _ e1 e2
theorem ok_BadWorld (F : Fun K "__init__" "BadWorld.__init__" s_BadWorld___init__ f fd) (x : XCls K C) (n : NoAttr K C "at") :
    FnOk P w K mg base CX0 1 f fd ["self", "at"] (spI1 C "at") := by
  refine F.ok sc_BadWorld___init__ (fun vs H Q E h => ?_) (fun cdv A outer s H vs Q E hr h => ?_)
  · obtain ⟨H0, a, y, rfl, _⟩ := h
    rfl
  · obtain ⟨H0, a, y, rfl, rfl, na, k⟩ := h
    refine ⟨_, pss_one (ps_put1 (pv 0) (pv 1)), ⟨_, rfl, _, rfl, a, C, rfl, x, n, upd_same, fun dx nd ne => ?_⟩⟩
    obtain ⟨e1, e2⟩ := end1 (C := C) (fs := [("at", y)]) (same_ex (o := exo a C none) na) na nd ne
    exact k _ e1 e2
theorem ok_BadValue (F : Fun K "__init__" "BadValue.__init__" s_BadValue___init__ f fd) (x : XCls K C) (n : NoAttr K C "field") :
    FnOk P w K mg base CX0 1 f fd ["self", "field"] (spI1 C "field") := by
  refine F.ok sc_BadValue___init__ (fun vs H Q E h => ?_) (fun cdv A outer s H vs Q E hr h => ?_)
  · obtain ⟨H0, a, y, rfl, _⟩ := h
    rfl
  · obtain ⟨H0, a, y, rfl, rfl, na, k⟩ := h
    refine ⟨_, pss_one (ps_put1 (pv 0) (pv 1)), ⟨_, rfl, _, rfl, a, C, rfl, x, n, upd_same, fun dx nd ne => ?_⟩⟩
    obtain ⟨e1, e2⟩ := end1 (C := C) (fs := [("field", y)]) (same_ex (o := exo a C none) na) na nd ne
    exact k _ e1 e2
theorem ok_BadExpression (F : Fun K "__init__" "BadExpression.__init__" s_BadExpression___init__ f fd) (x : XCls K C) (n : NoAttr K C "at") :
    FnOk P w K mg base CX0 1 f fd ["self", "at"] (spI1 C "at") := by
  refine F.ok sc_BadExpression___init__ (fun vs H Q E h => ?_) (fun cdv A outer s H vs Q E hr h => ?_)
  · obtain ⟨H0, a, y, rfl, _⟩ := h
    rfl
  · obtain ⟨H0, a, y, rfl, rfl, na, k⟩ := h
    refine ⟨_, pss_one (ps_put1 (pv 0) (pv 1)), ⟨_, rfl, _, rfl, a, C, rfl, x, n, upd_same, fun dx nd ne => ?_⟩⟩
    obtain ⟨e1, e2⟩ := end1 (C := C) (fs := [("at", y)]) (same_ex (o := exo a C none) na) na nd ne
    exact k _ e1 e2
theorem ok_TooMany (F : Fun K "__init__" "TooMany.__init__" s_TooMany___init__ f fd) (x : XCls K C) (n : NoAttr K C "what") :
    FnOk P w K mg base CX0 1 f fd ["self", "what"] (spI1 C "what") := by
  refine F.ok sc_TooMany___init__ (fun vs H Q E h => ?_) (fun cdv A outer s H vs Q E hr h => ?_)
  · obtain ⟨H0, a, y, rfl, _⟩ := h
    rfl
  · obtain ⟨H0, a, y, rfl, rfl, na, k⟩ := h
    refine ⟨_, pss_one (ps_put1 (pv 0) (pv 1)), ⟨_, rfl, _, rfl, a, C, rfl, x, n, upd_same, fun dx nd ne => ?_⟩⟩
    obtain ⟨e1, e2⟩ := end1 (C := C) (fs := [("what", y)]) (same_ex (o := exo a C none) na) na nd ne
    exact k _ e1 e2
theorem ok_Unlike (F : Fun K "__init__" "Unlike.__init__" s_Unlike___init__ f fd) (x : XCls K C) (n : NoAttr K C "at") :
    FnOk P w K mg base CX0 1 f fd ["self", "at"] (spI1 C "at") := by
  refine F.ok sc_Unlike___init__ (fun vs H Q E h => ?_) (fun cdv A outer s H vs Q E hr h => ?_)
  · obtain ⟨H0, a, y, rfl, _⟩ := h
    rfl
  · obtain ⟨H0, a, y, rfl, rfl, na, k⟩ := h
    refine ⟨_, pss_one (ps_put1 (pv 0) (pv 1)), ⟨_, rfl, _, rfl, a, C, rfl, x, n, upd_same, fun dx nd ne => ?_⟩⟩
    obtain ⟨e1, e2⟩ := end1 (C := C) (fs := [("at", y)]) (same_ex (o := exo a C none) na) na nd ne
    exact k _ e1 e2
theorem ok_BadFamily (F : Fun K "__init__" "BadFamily.__init__" s_BadFamily___init__ f fd) (x : XCls K C) (n : NoAttr K C "word")
    (O_own_copy : Ok P w K mg base 2 "own_copy" ["thing"] spCopy) : FnOk P w K mg base CX0 3 f fd ["self", "word"] (spI1c C "word") := by
  refine F.ok sc_BadFamily___init__ (fun vs H Q E h => ?_) (fun cdv A outer s H vs Q E hr h => ?_)
  · obtain ⟨H0, a, y, d, rfl, _⟩ := h
    rfl
  · obtain ⟨H0, a, y, d, rfl, rfl, na, t, k⟩ := h
    refine ⟨_, pss_one (ps_put1 (pv 0) (pe_callO O_own_copy hr (pa_cons (pv 1) pa_nil))), ⟨_, rfl, y, d, rfl, t.same (same_ex na), fun y' H1 s1 t1 => ?_⟩⟩
    refine ⟨_, rfl, a, C, rfl, x, n, s1 _ _ upd_same, fun dx nd ne => ?_⟩
    obtain ⟨e1, e2⟩ := end1 (C := C) (fs := [("word", y')]) ((same_ex (o := exo a C none) na).trans s1) na nd ne
    refine k _ y' e1 e2 ?_
    cases t1 with
    | int i => exact .int i
    | str z => exact .str z
    | non => exact .non
    | bl b => exact .bl b
    | lst i h =>
      refine .lst i ?_
      rw [upd_ne (ne_of h (s1 _ _ upd_same) (by intro q; cases q)), upd_ne (ne_of_none h nd)]
      exact h
    | tup i z hz h =>
      refine .tup i z hz ?_
      rw [upd_ne (ne_of h (s1 _ _ upd_same) (by intro q; cases q)), upd_ne (ne_of_none h nd)]
      exact h
theorem ok_BadVirtue (F : Fun K "__init__" "BadVirtue.__init__" s_BadVirtue___init__ f fd) (x : XCls K C) (n : NoAttr K C "word")
    (O_own_copy : Ok P w K mg base 2 "own_copy" ["thing"] spCopy) : FnOk P w K mg base CX0 3 f fd ["self", "word"] (spI1c C "word") := by
  refine F.ok sc_BadVirtue___init__ (fun vs H Q E h => ?_) (fun cdv A outer s H vs Q E hr h => ?_)
  · obtain ⟨H0, a, y, d, rfl, _⟩ := h
    rfl
  · obtain ⟨H0, a, y, d, rfl, rfl, na, t, k⟩ := h
    refine ⟨_, pss_one (ps_put1 (pv 0) (pe_callO O_own_copy hr (pa_cons (pv 1) pa_nil))), ⟨_, rfl, y, d, rfl, t.same (same_ex na), fun y' H1 s1 t1 => ?_⟩⟩
    refine ⟨_, rfl, a, C, rfl, x, n, s1 _ _ upd_same, fun dx nd ne => ?_⟩
    obtain ⟨e1, e2⟩ := end1 (C := C) (fs := [("word", y')]) ((same_ex (o := exo a C none) na).trans s1) na nd ne
    refine k _ y' e1 e2 ?_
    cases t1 with
    | int i => exact .int i
    | str z => exact .str z
    | non => exact .non
    | bl b => exact .bl b
    | lst i h =>
      refine .lst i ?_
      rw [upd_ne (ne_of h (s1 _ _ upd_same) (by intro q; cases q)), upd_ne (ne_of_none h nd)]
      exact h
    | tup i z hz h =>
      refine .tup i z hz ?_
      rw [upd_ne (ne_of h (s1 _ _ upd_same) (by intro q; cases q)), upd_ne (ne_of_none h nd)]
      exact h
theorem ok_BadMaker (F : Fun K "__init__" "BadMaker.__init__" s_BadMaker___init__ f fd) (x : XCls K C) (n : NoAttr K C "maker")
    (O_own_copy : Ok P w K mg base 2 "own_copy" ["thing"] spCopy) : FnOk P w K mg base CX0 3 f fd ["self", "maker"] (spI1c C "maker") := by
  refine F.ok sc_BadMaker___init__ (fun vs H Q E h => ?_) (fun cdv A outer s H vs Q E hr h => ?_)
  · obtain ⟨H0, a, y, d, rfl, _⟩ := h
    rfl
  · obtain ⟨H0, a, y, d, rfl, rfl, na, t, k⟩ := h
    refine ⟨_, pss_one (ps_put1 (pv 0) (pe_callO O_own_copy hr (pa_cons (pv 1) pa_nil))), ⟨_, rfl, y, d, rfl, t.same (same_ex na), fun y' H1 s1 t1 => ?_⟩⟩
    refine ⟨_, rfl, a, C, rfl, x, n, s1 _ _ upd_same, fun dx nd ne => ?_⟩
    obtain ⟨e1, e2⟩ := end1 (C := C) (fs := [("maker", y')]) ((same_ex (o := exo a C none) na).trans s1) na nd ne
    refine k _ y' e1 e2 ?_
    cases t1 with
    | int i => exact .int i
    | str z => exact .str z
    | non => exact .non
    | bl b => exact .bl b
    | lst i h =>
      refine .lst i ?_
      rw [upd_ne (ne_of h (s1 _ _ upd_same) (by intro q; cases q)), upd_ne (ne_of_none h nd)]
      exact h
    | tup i z hz h =>
      refine .tup i z hz ?_
      rw [upd_ne (ne_of h (s1 _ _ upd_same) (by intro q; cases q)), upd_ne (ne_of_none h nd)]
      exact h
theorem ok_NoClass (F : Fun K "__init__" "NoClass.__init__" s_NoClass___init__ f fd) (x : XCls K C) (n : NoAttr K C "name")
    (O_own_copy : Ok P w K mg base 2 "own_copy" ["thing"] spCopy) : FnOk P w K mg base CX0 3 f fd ["self", "name"] (spI1c C "name") := by
  refine F.ok sc_NoClass___init__ (fun vs H Q E h => ?_) (fun cdv A outer s H vs Q E hr h => ?_)
  · obtain ⟨H0, a, y, d, rfl, _⟩ := h
    rfl
  · obtain ⟨H0, a, y, d, rfl, rfl, na, t, k⟩ := h
    refine ⟨_, pss_one (ps_put1 (pv 0) (pe_callO O_own_copy hr (pa_cons (pv 1) pa_nil))), ⟨_, rfl, y, d, rfl, t.same (same_ex na), fun y' H1 s1 t1 => ?_⟩⟩
    refine ⟨_, rfl, a, C, rfl, x, n, s1 _ _ upd_same, fun dx nd ne => ?_⟩
    obtain ⟨e1, e2⟩ := end1 (C := C) (fs := [("name", y')]) ((same_ex (o := exo a C none) na).trans s1) na nd ne
    refine k _ y' e1 e2 ?_
    cases t1 with
    | int i => exact .int i
    | str z => exact .str z
    | non => exact .non
    | bl b => exact .bl b
    | lst i h =>
      refine .lst i ?_
      rw [upd_ne (ne_of h (s1 _ _ upd_same) (by intro q; cases q)), upd_ne (ne_of_none h nd)]
      exact h
    | tup i z hz h =>
      refine .tup i z hz ?_
      rw [upd_ne (ne_of h (s1 _ _ upd_same) (by intro q; cases q)), upd_ne (ne_of_none h nd)]
      exact h
theorem ok_NoSign (F : Fun K "__init__" "NoSign.__init__" s_NoSign___init__ f fd) (x : XCls K C) (n : NoAttr K C "sign")
    (O_own_copy : Ok P w K mg base 2 "own_copy" ["thing"] spCopy) : FnOk P w K mg base CX0 3 f fd ["self", "sign"] (spI1c C "sign") := by
  refine F.ok sc_NoSign___init__ (fun vs H Q E h => ?_) (fun cdv A outer s H vs Q E hr h => ?_)
  · obtain ⟨H0, a, y, d, rfl, _⟩ := h
    rfl
  · obtain ⟨H0, a, y, d, rfl, rfl, na, t, k⟩ := h
    refine ⟨_, pss_one (ps_put1 (pv 0) (pe_callO O_own_copy hr (pa_cons (pv 1) pa_nil))), ⟨_, rfl, y, d, rfl, t.same (same_ex na), fun y' H1 s1 t1 => ?_⟩⟩
    refine ⟨_, rfl, a, C, rfl, x, n, s1 _ _ upd_same, fun dx nd ne => ?_⟩
    obtain ⟨e1, e2⟩ := end1 (C := C) (fs := [("sign", y')]) ((same_ex (o := exo a C none) na).trans s1) na nd ne
    refine k _ y' e1 e2 ?_
    cases t1 with
    | int i => exact .int i
    | str z => exact .str z
    | non => exact .non
    | bl b => exact .bl b
    | lst i h =>
      refine .lst i ?_
      rw [upd_ne (ne_of h (s1 _ _ upd_same) (by intro q; cases q)), upd_ne (ne_of_none h nd)]
      exact h
    | tup i z hz h =>
      refine .tup i z hz ?_
      rw [upd_ne (ne_of h (s1 _ _ upd_same) (by intro q; cases q)), upd_ne (ne_of_none h nd)]
      exact h
theorem ok_Surplus (F : Fun K "__init__" "Surplus.__init__" s_Surplus___init__ f fd) (x : XCls K C) (n : NoAttr K C "name") (m : NoAttr K C "many") :
    FnOk P w K mg base CX0 1 f fd ["self", "name", "many"] (spI2 C "name" "many") := by
  refine F.ok sc_Surplus___init__ (fun vs H Q E h => ?_) (fun cdv A outer s H vs Q E hr h => ?_)
  · obtain ⟨H0, a, y, z, rfl, _⟩ := h
    rfl
  · obtain ⟨H0, a, y, z, rfl, rfl, na, k⟩ := h
    refine ⟨_, pss_cons (ps_put1 (pv 0) (pv 1)) (pss_one (ps_put2 (pv 0) (pv 2))), ⟨_, rfl, _, rfl, a, C, rfl, x, n, upd_same, fun dx nd ne => ?_⟩⟩
    obtain ⟨e1, d1, e2, e3⟩ := end1 (C := C) (fs := [("name", y)]) (same_ex (o := exo a C none) na) na nd ne
    refine ⟨_, rfl, _, rfl, a, C, dx, _, rfl, x, m, upd_same, by rw [upd_ne ne]; exact upd_same, by show 1 ≤ 900; decide, ?_⟩
    refine k _ (fun b o q => ?_) ⟨dx, by rw [upd_ne ne.symm]; exact upd_same, upd_same⟩
    have nbd : b ≠ dx := ne_of_none q (by rw [upd_ne ne] at nd; exact nd)
    rw [upd_ne nbd]
    exact e1 _ _ q
theorem ok_Lacking (F : Fun K "__init__" "Lacking.__init__" s_Lacking___init__ f fd) (x : XCls K C) (n : NoAttr K C "name") (m : NoAttr K C "field") :
    FnOk P w K mg base CX0 1 f fd ["self", "name", "field"] (spI2 C "name" "field") := by
  refine F.ok sc_Lacking___init__ (fun vs H Q E h => ?_) (fun cdv A outer s H vs Q E hr h => ?_)
  · obtain ⟨H0, a, y, z, rfl, _⟩ := h
    rfl
  · obtain ⟨H0, a, y, z, rfl, rfl, na, k⟩ := h
    refine ⟨_, pss_cons (ps_put1 (pv 0) (pv 1)) (pss_one (ps_put2 (pv 0) (pv 2))), ⟨_, rfl, _, rfl, a, C, rfl, x, n, upd_same, fun dx nd ne => ?_⟩⟩
    obtain ⟨e1, d1, e2, e3⟩ := end1 (C := C) (fs := [("name", y)]) (same_ex (o := exo a C none) na) na nd ne
    refine ⟨_, rfl, _, rfl, a, C, dx, _, rfl, x, m, upd_same, by rw [upd_ne ne]; exact upd_same, by show 1 ≤ 900; decide, ?_⟩
    refine k _ (fun b o q => ?_) ⟨dx, by rw [upd_ne ne.symm]; exact upd_same, upd_same⟩
    have nbd : b ≠ dx := ne_of_none q (by rw [upd_ne ne] at nd; exact nd)
    rw [upd_ne nbd]
    exact e1 _ _ q
theorem ok_Unknown (F : Fun K "__init__" "Unknown.__init__" s_Unknown___init__ f fd) (x : XCls K C) (n : NoAttr K C "name") (m : NoAttr K C "field") :
    FnOk P w K mg base CX0 1 f fd ["self", "name", "field"] (spI2 C "name" "field") := by
  refine F.ok sc_Unknown___init__ (fun vs H Q E h => ?_) (fun cdv A outer s H vs Q E hr h => ?_)
  · obtain ⟨H0, a, y, z, rfl, _⟩ := h
    rfl
  · obtain ⟨H0, a, y, z, rfl, rfl, na, k⟩ := h
    refine ⟨_, pss_cons (ps_put1 (pv 0) (pv 1)) (pss_one (ps_put2 (pv 0) (pv 2))), ⟨_, rfl, _, rfl, a, C, rfl, x, n, upd_same, fun dx nd ne => ?_⟩⟩
    obtain ⟨e1, d1, e2, e3⟩ := end1 (C := C) (fs := [("name", y)]) (same_ex (o := exo a C none) na) na nd ne
    refine ⟨_, rfl, _, rfl, a, C, dx, _, rfl, x, m, upd_same, by rw [upd_ne ne]; exact upd_same, by show 1 ≤ 900; decide, ?_⟩
    refine k _ (fun b o q => ?_) ⟨dx, by rw [upd_ne ne.symm]; exact upd_same, upd_same⟩
    have nbd : b ≠ dx := ne_of_none q (by rw [upd_ne ne] at nd; exact nd)
    rw [upd_ne nbd]
    exact e1 _ _ q
theorem ok_Failed (F : Fun K "__init__" "Failed.__init__" s_Failed___init__ f fd) (x : XCls K C) (n : NoAttr K C "at") (m : NoAttr K C "reason") :
    FnOk P w K mg base CX0 1 f fd ["self", "at", "reason"] (spI2 C "at" "reason") := by
  refine F.ok sc_Failed___init__ (fun vs H Q E h => ?_) (fun cdv A outer s H vs Q E hr h => ?_)
  · obtain ⟨H0, a, y, z, rfl, _⟩ := h
    rfl
  · obtain ⟨H0, a, y, z, rfl, rfl, na, k⟩ := h
    refine ⟨_, pss_cons (ps_put1 (pv 0) (pv 1)) (pss_one (ps_put2 (pv 0) (pv 2))), ⟨_, rfl, _, rfl, a, C, rfl, x, n, upd_same, fun dx nd ne => ?_⟩⟩
    obtain ⟨e1, d1, e2, e3⟩ := end1 (C := C) (fs := [("at", y)]) (same_ex (o := exo a C none) na) na nd ne
    refine ⟨_, rfl, _, rfl, a, C, dx, _, rfl, x, m, upd_same, by rw [upd_ne ne]; exact upd_same, by show 1 ≤ 900; decide, ?_⟩
    refine k _ (fun b o q => ?_) ⟨dx, by rw [upd_ne ne.symm]; exact upd_same, upd_same⟩
    have nbd : b ≠ dx := ne_of_none q (by rw [upd_ne ne] at nd; exact nd)
    rw [upd_ne nbd]
    exact e1 _ _ q
end
end K90

namespace K90
open PySem PySem.Spec PyProof.Rows L2 EV
structure Names (mg : Str → Option Value) (c : Nat → Addr) (CH : Addr) : Prop where
  n_HeirsbackError : mg "HeirsbackError" = some (.ref CH)
  n_BadLibrary : mg "BadLibrary" = some (.ref (c 0))
  n_BadWorld : mg "BadWorld" = some (.ref (c 1))
  n_BadValue : mg "BadValue" = some (.ref (c 2))
  n_BadExpression : mg "BadExpression" = some (.ref (c 3))
  n_BadFamily : mg "BadFamily" = some (.ref (c 4))
  n_BadVirtue : mg "BadVirtue" = some (.ref (c 5))
  n_BadMaker : mg "BadMaker" = some (.ref (c 6))
  n_NoClass : mg "NoClass" = some (.ref (c 7))
  n_NoSign : mg "NoSign" = some (.ref (c 8))
  n_TooMany : mg "TooMany" = some (.ref (c 9))
  n_Unlike : mg "Unlike" = some (.ref (c 10))
  n_Surplus : mg "Surplus" = some (.ref (c 11))
  n_Lacking : mg "Lacking" = some (.ref (c 12))
  n_Unknown : mg "Unknown" = some (.ref (c 13))
  n_Failed : mg "Failed" = some (.ref (c 14))
section
variable {P : Program} {w : World} {K : Fg} {mg : Str → Option Value} {base : Heap}
theorem same2 {H G : Hp} {p q : Addr} {o u : HO} (s : Same H G) (m : G q = none) (n : upd G q o p = none) : Same H (upd (upd G q o) p u) := fun b v z =>
  same_upd n _ _ (same_upd m _ _ (s b v z))
/-! ### _law_is -/
def isB : PyData → Bool
  | .bool _ => true
  | _ => false
theorem Th.isb {H : Hp} {x : V} {d : PyData} (t : Th H x d) : ∃ ty : String, TyX K H x (.type ty) ∧ PySem.W.kitOne K (.type ty) (.type "bool") = some (isB d) := by
  cases t with
  | int i => exact ⟨"int", .base (.int i), show _ = some false from kit_ty (by decide +kernel)⟩
  | str z => exact ⟨"str", .base (.str z), show _ = some false from kit_ty (by decide +kernel)⟩
  | non => exact ⟨"NoneType", .base .non, show _ = some false from kit_ty (by decide +kernel)⟩
  | bl k => exact ⟨"bool", .base (.bl k), show _ = some true from kit_ty (by decide +kernel)⟩
  | lst i h => exact ⟨"list", .base (.lst h), show _ = some false from kit_ty (by decide +kernel)⟩
  | tup i z hz h => exact ⟨"tuple", .base (.tup h), show _ = some false from kit_ty (by decide +kernel)⟩
def spIs : Sp := fun vs H Q _ => ∃ (x y : V) (d : PyData), vs = [x, y] ∧ Th H x d ∧ Th H y d ∧ Q (.bl true) H
theorem ok_is {f : Addr} {fd : FuncData} (F : Fun K "_law_is" "_law_is" s_law_is f fd) (T : Txt K mg) : FnOk P w K mg base CX0 1 f fd ["kept", "given"] spIs := by
  refine F.ok sc_law_is (fun vs H Q E h => ?_) (fun cdv A outer s H vs Q E hr h => ?_)
  · obtain ⟨x, y, d, rfl, _⟩ := h
    rfl
  · obtain ⟨x, y, d, rfl, hx, hy, k⟩ := h
    obtain ⟨t1, y1, z1⟩ := hx.isb (K := K)
    obtain ⟨t2, y2, z2⟩ := hy.isb (K := K)
    have dat : SeqAt.shaped d = true → PyData.eqv d d = true → ∃ t, PSs (cxOf CX0 P w K mg base ["kept", "given"] "_law_is" (defScope s_law_is) f cdv A outer s H E).nox (defBody s_law_is) t ∧
        t { nx := fun _ H' => Q .non H', rt := Q } (L2.start ["kept", "given"] [x, y]) H := fun s1 s2 => by
      refine ⟨_, (pss_one (ps_ret (pe_and (pe_cmpR (op_eqD hr.units) (pv 0) (pv 1) (nomark _)) (pe_one (pe_cmpR op_eq (pe_callB call_isi (by rfl) T.n_isinstance (by decide +kernel) (pa_cons (pv 0) (pa_cons (pe_bltn (v := .ty "bool") rfl T.n_bool (by decide +kernel) rfl) pa_nil))) (pe_callB call_isi (by rfl) T.n_isinstance (by decide +kernel) (pa_cons (pv 1) (pa_cons (pe_bltn (v := .ty "bool") rfl T.n_bool (by decide +kernel) rfl) pa_nil))) (nomark _)))))), ?_⟩
      refine ⟨_, rfl, _, rfl, d, d, hx.dp, hy.dp, s1, s1, _, rfl, ?_⟩
      rw [s2]
      exact iteT ⟨_, rfl, x, .ty "bool", _, _, _, rfl, .ty _, y1, z1, _, rfl, y, .ty "bool", _, _, _, rfl, .ty _, y2, z2, rfl, by show Q (V.bl (decide (V.bl (isB d) = V.bl (isB d)))) H; rw [decide_eq_true rfl]; exact k⟩
    have sca : scal x y = true → x = y → ∃ t, PSs (cxOf CX0 P w K mg base ["kept", "given"] "_law_is" (defScope s_law_is) f cdv A outer s H E).nox (defBody s_law_is) t ∧
        t { nx := fun _ H' => Q .non H', rt := Q } (L2.start ["kept", "given"] [x, y]) H := fun s1 s2 => by
      refine ⟨_, (pss_one (ps_ret (pe_and (pe_cmpR op_eq (pv 0) (pv 1) (nomark _)) (pe_one (pe_cmpR op_eq (pe_callB call_isi (by rfl) T.n_isinstance (by decide +kernel) (pa_cons (pv 0) (pa_cons (pe_bltn (v := .ty "bool") rfl T.n_bool (by decide +kernel) rfl) pa_nil))) (pe_callB call_isi (by rfl) T.n_isinstance (by decide +kernel) (pa_cons (pv 1) (pa_cons (pe_bltn (v := .ty "bool") rfl T.n_bool (by decide +kernel) rfl) pa_nil))) (nomark _)))))), ?_⟩
      refine ⟨_, rfl, _, rfl, s1, _, rfl, ?_⟩
      rw [decide_eq_true s2]
      exact iteT ⟨_, rfl, x, .ty "bool", _, _, _, rfl, .ty _, y1, z1, _, rfl, y, .ty "bool", _, _, _, rfl, .ty _, y2, z2, rfl, by show Q (V.bl (decide (V.bl (isB d) = V.bl (isB d)))) H; rw [decide_eq_true rfl]; exact k⟩
    cases hx with
    | int i => cases hy; exact sca rfl rfl
    | str z => cases hy; exact sca rfl rfl
    | non => cases hy; exact sca rfl rfl
    | bl b => cases hy; exact sca rfl rfl
    | lst i h =>
      have c0 : PyData.canLay0 (.list [.int i]) = true := by simp only [PyData.canLay0, PyData.canLayAll0, Bool.and_self]
      exact dat (by unfold SeqAt.shaped; rw [c0]; rfl) (SeqAt.eqv_refl _ c0)
    | tup i z hz h =>
      have c0 : PyData.canLay0 (.tuple [.int i, .str z]) = true := by simp only [PyData.canLay0, PyData.canLayAll0, Bool.and_self, hz]
      exact dat (by unfold SeqAt.shaped; rw [c0]; rfl) (SeqAt.eqv_refl _ c0)
/-! ### _law_field -/
def fieldWords : List Str := ["at", "field", "word", "maker", "name", "sign", "what"]
def spField (K : Fg) : Sp := fun vs H Q _ => ∃ (a C : Addr) (fs : List (Str × V)) (z : Str) (v : V), vs = [.ref a, .str z] ∧ XCls K C ∧ NoAttr K C z ∧ ErrAt H a C fs ∧ z ∈ fieldWords ∧
  fs.lookup z = some v ∧ Q v H
theorem ok_field {f : Addr} {fd : FuncData} (F : Fun K "_law_field" "_law_field" s_law_field f fd) (T : Txt K mg) : FnOk P w K mg base CX0 1 f fd ["one", "word"] (spField K) := by
  refine F.ok sc_law_field (fun vs H Q E h => ?_) (fun cdv A outer s H vs Q E hr h => ?_)
  · obtain ⟨a, C, fs, z, v, rfl, _⟩ := h
    rfl
  · obtain ⟨a, C, fs, z, v, rfl, x, n, e, hz, l, k⟩ := h
    refine ⟨_, (pss_cons (ps_if (pt_cmpR op_eq (pv 1) pe_str (nomark _)) (pss_one (ps_ret (pe_get (pv 0)))) pss_nil)
    (pss_cons (ps_if (pt_cmpR op_eq (pv 1) pe_str (nomark _)) (pss_one (ps_ret (pe_get (pv 0)))) pss_nil)
    (pss_cons (ps_if (pt_cmpR op_eq (pv 1) pe_str (nomark _)) (pss_one (ps_ret (pe_get (pv 0)))) pss_nil)
    (pss_cons (ps_if (pt_cmpR op_eq (pv 1) pe_str (nomark _)) (pss_one (ps_ret (pe_get (pv 0)))) pss_nil)
    (pss_cons (ps_if (pt_cmpR op_eq (pv 1) pe_str (nomark _)) (pss_one (ps_ret (pe_get (pv 0)))) pss_nil)
    (pss_one (ps_ret (pe_ifExp (pt_cmpR op_eq (pv 1) pe_str (nomark _)) (pe_get (pv 0)) (pe_get (pv 0)))))))))), ?_⟩
    unfold fieldWords at hz
    simp only [List.mem_cons, List.not_mem_nil, or_false] at hz
    have no : ∀ {y : Str} {A B : Prop}, z ≠ y → B → (if decide (V.str z = V.str y) = true then A else B) := fun {y A B} q b => by
      rw [if_neg (by simpa using q)]
      exact b
    have yes : ∀ {y : Str} {A B : Prop}, z = y → A → (if decide (V.str z = V.str y) = true then A else B) := fun {y A B} q b => by
      rw [if_pos (by simpa using q)]
      exact b
    rcases hz with h | h | h | h | h | h | h
    · exact ⟨_, rfl, rfl, _, rfl, yes h ⟨_, rfl, a, C, fs, v, rfl, x, h ▸ n, e, h ▸ l, k⟩⟩
    · refine ⟨_, rfl, rfl, _, rfl, no (by rw [h]; decide +kernel) ?_⟩
      exact ⟨_, rfl, rfl, _, rfl, yes h ⟨_, rfl, a, C, fs, v, rfl, x, h ▸ n, e, h ▸ l, k⟩⟩
    · refine ⟨_, rfl, rfl, _, rfl, no (by rw [h]; decide +kernel) ?_⟩
      refine ⟨_, rfl, rfl, _, rfl, no (by rw [h]; decide +kernel) ?_⟩
      exact ⟨_, rfl, rfl, _, rfl, yes h ⟨_, rfl, a, C, fs, v, rfl, x, h ▸ n, e, h ▸ l, k⟩⟩
    · refine ⟨_, rfl, rfl, _, rfl, no (by rw [h]; decide +kernel) ?_⟩
      refine ⟨_, rfl, rfl, _, rfl, no (by rw [h]; decide +kernel) ?_⟩
      refine ⟨_, rfl, rfl, _, rfl, no (by rw [h]; decide +kernel) ?_⟩
      exact ⟨_, rfl, rfl, _, rfl, yes h ⟨_, rfl, a, C, fs, v, rfl, x, h ▸ n, e, h ▸ l, k⟩⟩
    · refine ⟨_, rfl, rfl, _, rfl, no (by rw [h]; decide +kernel) ?_⟩
      refine ⟨_, rfl, rfl, _, rfl, no (by rw [h]; decide +kernel) ?_⟩
      refine ⟨_, rfl, rfl, _, rfl, no (by rw [h]; decide +kernel) ?_⟩
      refine ⟨_, rfl, rfl, _, rfl, no (by rw [h]; decide +kernel) ?_⟩
      exact ⟨_, rfl, rfl, _, rfl, yes h ⟨_, rfl, a, C, fs, v, rfl, x, h ▸ n, e, h ▸ l, k⟩⟩
    · refine ⟨_, rfl, rfl, _, rfl, no (by rw [h]; decide +kernel) ?_⟩
      refine ⟨_, rfl, rfl, _, rfl, no (by rw [h]; decide +kernel) ?_⟩
      refine ⟨_, rfl, rfl, _, rfl, no (by rw [h]; decide +kernel) ?_⟩
      refine ⟨_, rfl, rfl, _, rfl, no (by rw [h]; decide +kernel) ?_⟩
      refine ⟨_, rfl, rfl, _, rfl, no (by rw [h]; decide +kernel) ?_⟩
      exact ⟨_, rfl, rfl, _, rfl, yes h ⟨_, rfl, a, C, fs, v, rfl, x, h ▸ n, e, h ▸ l, k⟩⟩
    · refine ⟨_, rfl, rfl, _, rfl, no (by rw [h]; decide +kernel) ?_⟩
      refine ⟨_, rfl, rfl, _, rfl, no (by rw [h]; decide +kernel) ?_⟩
      refine ⟨_, rfl, rfl, _, rfl, no (by rw [h]; decide +kernel) ?_⟩
      refine ⟨_, rfl, rfl, _, rfl, no (by rw [h]; decide +kernel) ?_⟩
      refine ⟨_, rfl, rfl, _, rfl, no (by rw [h]; decide +kernel) ?_⟩
      refine ⟨_, rfl, rfl, _, rfl, no (by rw [h]; decide +kernel) ?_⟩
      exact ⟨_, rfl, a, C, fs, v, rfl, x, h ▸ n, e, h ▸ l, k⟩
/-! ### _law_under -/
def spUnder (K : Fg) (CH : Addr) : Sp := fun vs H Q _ => ∃ (a C : Addr) (fs : List (Str × V)) (b1 b2 b3 : Bool), vs = [.ref a] ∧ XCls K C ∧ ErrAt H a C fs ∧
  PySem.W.kitOne K (.ref C) (.ref CH) = some b1 ∧ PySem.W.kitOne K (.ref C) (.type "ValueError") = some b2 ∧ PySem.W.kitOne K (.ref C) (.type "LookupError") = some b3 ∧
  PySem.W.kitOne K (.ref C) (.type "KeyError") = some false ∧ PySem.W.kitOne K (.ref C) (.type "IndexError") = some false ∧
  ∀ (p : Addr) (H' : Hp), Same H H' → H' p = some (.lst [.bl b1, .bl b2, .bl b3, .bl false]) → Q (.ref p) H'
theorem ok_under {f : Addr} {fd : FuncData} {c : Nat → Addr} {CH : Addr} (F : Fun K "_law_under" "_law_under" s_law_under f fd) (T : Txt K mg) (N : Names mg c CH) :
    FnOk P w K mg base CX0 1 f fd ["one"] (spUnder K CH) := by
  refine F.ok sc_law_under (fun vs H Q E h => ?_) (fun cdv A outer s H vs Q E hr h => ?_)
  · obtain ⟨a, C, fs, b1, b2, b3, rfl, _⟩ := h
    rfl
  · obtain ⟨a, C, fs, b1, b2, b3, rfl, x, e, k1, k2, k3, k4, k5, k⟩ := h
    refine ⟨_, (pss_cons (ps_set (i := 1) sc_law_under.nd rfl (Or.inl rfl) (pe_lst (pa_cons (pe_callB call_isX (by rfl) T.n_isinstance (by decide +kernel) (pa_cons (pv 0) (pa_cons (pe_glob (v := .ref _) rfl N.n_HeirsbackError rfl) pa_nil))) (pa_cons (pe_callB call_isX (by rfl) T.n_isinstance (by decide +kernel) (pa_cons (pv 0) (pa_cons (pe_bltn (v := .ty "ValueError") rfl T.n_ValueError (by decide +kernel) rfl) pa_nil))) (pa_cons (pe_callB call_isX (by rfl) T.n_isinstance (by decide +kernel) (pa_cons (pv 0) (pa_cons (pe_bltn (v := .ty "LookupError") rfl T.n_LookupError (by decide +kernel) rfl) pa_nil))) pa_nil)))))
    (pss_one (ps_ret (pe_op op_cat (pv 1) (pe_lst (pa_cons (pe_or (pe_callB call_isX (by rfl) T.n_isinstance (by decide +kernel) (pa_cons (pv 0) (pa_cons (pe_bltn (v := .ty "KeyError") rfl T.n_KeyError (by decide +kernel) rfl) pa_nil))) (pe_one (pe_callB call_isX (by rfl) T.n_isinstance (by decide +kernel) (pa_cons (pv 0) (pa_cons (pe_bltn (v := .ty "IndexError") rfl T.n_IndexError (by decide +kernel) rfl) pa_nil))))) pa_nil)))))), ?_⟩
    refine ⟨_, rfl, a, C, _, _, b1, fs, rfl, .own _, e, x, k1, _, rfl, a, C, _, _, b2, fs, rfl, .ty _, e, x, k2, _, rfl, a, C, _, _, b3, fs, rfl, .ty _, e, x, k3, by show 3 ≤ sizeLine; decide, fun p np => ?_⟩
    have e1 : ErrAt (upd H p (.lst [.bl b1, .bl b2, .bl b3])) a C fs := e.same (same_upd np)
    refine ⟨_, rfl, _, rfl, a, C, _, _, false, fs, rfl, .ty _, e1, x, k4, _, rfl, iteF ⟨_, rfl, a, C, _, _, false, fs, rfl, .ty _, e1, x, k5, by show 1 ≤ sizeLine; decide, fun q nq => ?_⟩⟩
    refine ⟨p, q, _, _, rfl, rfl, same_upd nq _ _ upd_same, upd_same, by show 3 + 1 ≤ sizeLine; decide, fun r nr => ?_⟩
    exact k r _ (fun b o z => same_upd nr _ _ (same_upd nq _ _ (same_upd np _ _ z))) upd_same
/-! ### _law_kinds -/
def kindsL (j : Nat) : List V := (List.range 15).map fun i => V.bl (decide (j = i))
def spKinds (K : Fg) (c : Nat → Addr) : Sp := fun vs H Q _ => ∃ (a C : Addr) (fs : List (Str × V)) (j : Nat), vs = [.ref a] ∧ XCls K C ∧ ErrAt H a C fs ∧
  (∀ i, i < 15 → PySem.W.kitOne K (.ref C) (.ref (c i)) = some (decide (j = i))) ∧ ∀ (p : Addr) (H' : Hp), Same H H' → H' p = some (.lst (kindsL j)) → Q (.ref p) H'
theorem ok_kinds {f : Addr} {fd : FuncData} {c : Nat → Addr} {CH : Addr} (F : Fun K "_law_kinds" "_law_kinds" s_law_kinds f fd) (T : Txt K mg) (N : Names mg c CH) :
    FnOk P w K mg base CX0 1 f fd ["one"] (spKinds K c) := by
  refine F.ok sc_law_kinds (fun vs H Q E h => ?_) (fun cdv A outer s H vs Q E hr h => ?_)
  · obtain ⟨a, C, fs, j, rfl, _⟩ := h
    rfl
  · obtain ⟨a, C, fs, j, rfl, x, e, hk, k⟩ := h
    refine ⟨_, (pss_cons (ps_set (i := 1) sc_law_kinds.nd rfl (Or.inl rfl) (pe_lst (pa_cons (pe_callB call_isX (by rfl) T.n_isinstance (by decide +kernel) (pa_cons (pv 0) (pa_cons (pe_glob (v := .ref _) rfl N.n_BadLibrary rfl) pa_nil))) (pa_cons (pe_callB call_isX (by rfl) T.n_isinstance (by decide +kernel) (pa_cons (pv 0) (pa_cons (pe_glob (v := .ref _) rfl N.n_BadWorld rfl) pa_nil))) (pa_cons (pe_callB call_isX (by rfl) T.n_isinstance (by decide +kernel) (pa_cons (pv 0) (pa_cons (pe_glob (v := .ref _) rfl N.n_BadValue rfl) pa_nil))) pa_nil)))))
    (pss_cons (ps_set (i := 1) sc_law_kinds.nd rfl (Or.inl rfl) (pe_op op_cat (pv 1) (pe_lst (pa_cons (pe_callB call_isX (by rfl) T.n_isinstance (by decide +kernel) (pa_cons (pv 0) (pa_cons (pe_glob (v := .ref _) rfl N.n_BadExpression rfl) pa_nil))) (pa_cons (pe_callB call_isX (by rfl) T.n_isinstance (by decide +kernel) (pa_cons (pv 0) (pa_cons (pe_glob (v := .ref _) rfl N.n_BadFamily rfl) pa_nil))) (pa_cons (pe_callB call_isX (by rfl) T.n_isinstance (by decide +kernel) (pa_cons (pv 0) (pa_cons (pe_glob (v := .ref _) rfl N.n_BadVirtue rfl) pa_nil))) pa_nil))))))
    (pss_cons (ps_set (i := 1) sc_law_kinds.nd rfl (Or.inl rfl) (pe_op op_cat (pv 1) (pe_lst (pa_cons (pe_callB call_isX (by rfl) T.n_isinstance (by decide +kernel) (pa_cons (pv 0) (pa_cons (pe_glob (v := .ref _) rfl N.n_BadMaker rfl) pa_nil))) (pa_cons (pe_callB call_isX (by rfl) T.n_isinstance (by decide +kernel) (pa_cons (pv 0) (pa_cons (pe_glob (v := .ref _) rfl N.n_NoClass rfl) pa_nil))) (pa_cons (pe_callB call_isX (by rfl) T.n_isinstance (by decide +kernel) (pa_cons (pv 0) (pa_cons (pe_glob (v := .ref _) rfl N.n_NoSign rfl) pa_nil))) pa_nil))))))
    (pss_cons (ps_set (i := 1) sc_law_kinds.nd rfl (Or.inl rfl) (pe_op op_cat (pv 1) (pe_lst (pa_cons (pe_callB call_isX (by rfl) T.n_isinstance (by decide +kernel) (pa_cons (pv 0) (pa_cons (pe_glob (v := .ref _) rfl N.n_TooMany rfl) pa_nil))) (pa_cons (pe_callB call_isX (by rfl) T.n_isinstance (by decide +kernel) (pa_cons (pv 0) (pa_cons (pe_glob (v := .ref _) rfl N.n_Unlike rfl) pa_nil))) (pa_cons (pe_callB call_isX (by rfl) T.n_isinstance (by decide +kernel) (pa_cons (pv 0) (pa_cons (pe_glob (v := .ref _) rfl N.n_Surplus rfl) pa_nil))) pa_nil))))))
    (pss_one (ps_ret (pe_op op_cat (pv 1) (pe_lst (pa_cons (pe_callB call_isX (by rfl) T.n_isinstance (by decide +kernel) (pa_cons (pv 0) (pa_cons (pe_glob (v := .ref _) rfl N.n_Lacking rfl) pa_nil))) (pa_cons (pe_callB call_isX (by rfl) T.n_isinstance (by decide +kernel) (pa_cons (pv 0) (pa_cons (pe_glob (v := .ref _) rfl N.n_Unknown rfl) pa_nil))) (pa_cons (pe_callB call_isX (by rfl) T.n_isinstance (by decide +kernel) (pa_cons (pv 0) (pa_cons (pe_glob (v := .ref _) rfl N.n_Failed rfl) pa_nil))) pa_nil))))))))))), ?_⟩
    refine ⟨_, rfl, a, C, _, _, _, fs, rfl, .own _, e, x, hk 0 (by decide), _, rfl, a, C, _, _, _, fs, rfl, .own _, e, x, hk 1 (by decide), _, rfl, a, C, _, _, _, fs, rfl, .own _, e, x, hk 2 (by decide), by show 3 ≤ sizeLine; decide, fun p0 n0 => ?_⟩
    refine ⟨_, rfl, _, rfl, a, C, _, _, _, fs, rfl, .own _, (e.same (same_upd n0)), x, hk 3 (by decide), _, rfl, a, C, _, _, _, fs, rfl, .own _, (e.same (same_upd n0)), x, hk 4 (by decide), _, rfl, a, C, _, _, _, fs, rfl, .own _, (e.same (same_upd n0)), x, hk 5 (by decide), by show 3 ≤ sizeLine; decide, fun q1 m1 => ?_⟩
    refine ⟨p0, q1, _, _, rfl, rfl, same_upd m1 _ _ upd_same, upd_same, by show 3 + 3 ≤ sizeLine; decide, fun p1 n1 => ?_⟩
    refine ⟨_, rfl, _, rfl, a, C, _, _, _, fs, rfl, .own _, (e.same (same2 (same_upd n0) m1 n1)), x, hk 6 (by decide), _, rfl, a, C, _, _, _, fs, rfl, .own _, (e.same (same2 (same_upd n0) m1 n1)), x, hk 7 (by decide), _, rfl, a, C, _, _, _, fs, rfl, .own _, (e.same (same2 (same_upd n0) m1 n1)), x, hk 8 (by decide), by show 3 ≤ sizeLine; decide, fun q2 m2 => ?_⟩
    refine ⟨p1, q2, _, _, rfl, rfl, same_upd m2 _ _ upd_same, upd_same, by show 6 + 3 ≤ sizeLine; decide, fun p2 n2 => ?_⟩
    refine ⟨_, rfl, _, rfl, a, C, _, _, _, fs, rfl, .own _, (e.same (same2 (same2 (same_upd n0) m1 n1) m2 n2)), x, hk 9 (by decide), _, rfl, a, C, _, _, _, fs, rfl, .own _, (e.same (same2 (same2 (same_upd n0) m1 n1) m2 n2)), x, hk 10 (by decide), _, rfl, a, C, _, _, _, fs, rfl, .own _, (e.same (same2 (same2 (same_upd n0) m1 n1) m2 n2)), x, hk 11 (by decide), by show 3 ≤ sizeLine; decide, fun q3 m3 => ?_⟩
    refine ⟨p2, q3, _, _, rfl, rfl, same_upd m3 _ _ upd_same, upd_same, by show 9 + 3 ≤ sizeLine; decide, fun p3 n3 => ?_⟩
    refine ⟨_, rfl, _, rfl, a, C, _, _, _, fs, rfl, .own _, (e.same (same2 (same2 (same2 (same_upd n0) m1 n1) m2 n2) m3 n3)), x, hk 12 (by decide), _, rfl, a, C, _, _, _, fs, rfl, .own _, (e.same (same2 (same2 (same2 (same_upd n0) m1 n1) m2 n2) m3 n3)), x, hk 13 (by decide), _, rfl, a, C, _, _, _, fs, rfl, .own _, (e.same (same2 (same2 (same2 (same_upd n0) m1 n1) m2 n2) m3 n3)), x, hk 14 (by decide), by show 3 ≤ sizeLine; decide, fun q4 m4 => ?_⟩
    refine ⟨p3, q4, _, _, rfl, rfl, same_upd m4 _ _ upd_same, upd_same, by show 12 + 3 ≤ sizeLine; decide, fun p4 n4 => ?_⟩
    exact k p4 _ (same2 (same2 (same2 (same2 (same_upd n0) m1 n1) m2 n2) m3 n3) m4 n4) upd_same
end
end K90

namespace K90
open PySem PySem.Spec PyProof.Rows L2 EV
/-- no class says anything of its instances' fields -/
structure Attrs (K : Fg) (c : Nat → Addr) : Prop where
  a0 : NoAttr K (c 0) "at"
  a1 : NoAttr K (c 1) "at"
  a2 : NoAttr K (c 2) "field"
  a3 : NoAttr K (c 3) "at"
  a4 : NoAttr K (c 4) "word"
  a5 : NoAttr K (c 5) "word"
  a6 : NoAttr K (c 6) "maker"
  a7 : NoAttr K (c 7) "name"
  a8 : NoAttr K (c 8) "sign"
  a9 : NoAttr K (c 9) "what"
  a10 : NoAttr K (c 10) "at"
  a11 : NoAttr K (c 11) "name"
  b11 : NoAttr K (c 11) "many"
  a12 : NoAttr K (c 12) "name"
  b12 : NoAttr K (c 12) "field"
  a13 : NoAttr K (c 13) "name"
  b13 : NoAttr K (c 13) "field"
  a14 : NoAttr K (c 14) "at"
  b14 : NoAttr K (c 14) "reason"
/-- a row of the first eleven: (the error, its field's name, what was given) -/
def RowAt (K : Fg) (c : Nat → Addr) (H : Hp) (i : Nat) (v : V) : Prop := ∃ (r e : Addr) (z : Str) (y y' : V) (d : PyData), v = .ref r ∧ H r = some (.tup [.ref e, .str z, y]) ∧
  ErrAt H e (c i) [(z, y')] ∧ Th H y' d ∧ Th H y d ∧ z ∈ fieldWords ∧ NoAttr K (c i) z
theorem RowAt.same {K : Fg} {c : Nat → Addr} {H H' : Hp} {i : Nat} {v : V} (h : RowAt K c H i v) (s : Same H H') : RowAt K c H' i v := by
  obtain ⟨r, e, z, y, y', d, h1, h2, h3, h4, h5, h6⟩ := h
  exact ⟨r, e, z, y, y', d, h1, s _ _ h2, h3.same s, h4.same s, h5.same s, h6⟩
def rest0 (n : Int) : Int := if n > 0 then n else 0
def LastAt (c : Nat → Addr) (H : Hp) (n : Int) (one two : Str) (e0 e1 e2 e3 : Addr) : Prop :=
  ErrAt H e0 (c 11) [("many", .int (rest0 n)), ("name", .str (("A" : Str) ++ one))] ∧ ErrAt H e1 (c 12) [("field", .str two), ("name", .str (("A" : Str) ++ one))] ∧
  ErrAt H e2 (c 13) [("field", .str two), ("name", .str (("A" : Str) ++ one))] ∧ ErrAt H e3 (c 14) [("reason", .str two), ("at", .int (rest0 n))]
theorem LastAt.same {c : Nat → Addr} {H H' : Hp} {n : Int} {one two : Str} {e0 e1 e2 e3 : Addr} (h : LastAt c H n one two e0 e1 e2 e3) (s : Same H H') : LastAt c H' n one two e0 e1 e2 e3 :=
  ⟨h.1.same s, h.2.1.same s, h.2.2.1.same s, h.2.2.2.same s⟩
def spErrors (K : Fg) (c : Nat → Addr) : Sp := fun vs H Q _ => ∃ (x : V) (d : PyData) (n : Int) (one two : Str), vs = [x, .int n, .str one, .str two] ∧ Th H x d ∧ one.length ≤ 100 ∧
  ∀ (H' : Hp) (t l1 l2 : Addr) (rows : List V) (e0 e1 e2 e3 : Addr), Same H H' → H' t = some (.tup [.ref l1, .ref l2]) → H' l1 = some (.lst rows) → rows.length = 11 →
    (∀ (i : Nat) (v : V), rows[i]? = some v → RowAt K c H' i v) → H' l2 = some (.lst [.ref e0, .ref e1, .ref e2, .ref e3]) → LastAt c H' n one two e0 e1 e2 e3 → Q (.ref t) H'
section
variable {P : Program} {w : World} {K : Fg} {mg : Str → Option Value} {base : Heap} {c : Nat → Addr}
theorem gen_same {G C : Hp} {t : Addr} {o : HO} (h : upd G t o = C) (n : G t = none) : Same G C ∧ C t = some o := by
  subst h
  exact ⟨same_upd n, upd_same⟩
theorem ok_errors {f : Addr} {fd : FuncData} (F : Fun K "_law_errors" "_law_errors" s_law_errors f fd) (T : Txt K mg) (A : Attrs K c)
    (O_BadLibrary : OkC P w K mg base 1 "BadLibrary" (c 0) ["self", "at"] (spI1 (c 0) "at"))
    (O_BadWorld : OkC P w K mg base 1 "BadWorld" (c 1) ["self", "at"] (spI1 (c 1) "at"))
    (O_BadValue : OkC P w K mg base 1 "BadValue" (c 2) ["self", "field"] (spI1 (c 2) "field"))
    (O_BadExpression : OkC P w K mg base 1 "BadExpression" (c 3) ["self", "at"] (spI1 (c 3) "at"))
    (O_BadFamily : OkC P w K mg base 3 "BadFamily" (c 4) ["self", "word"] (spI1c (c 4) "word"))
    (O_BadVirtue : OkC P w K mg base 3 "BadVirtue" (c 5) ["self", "word"] (spI1c (c 5) "word"))
    (O_BadMaker : OkC P w K mg base 3 "BadMaker" (c 6) ["self", "maker"] (spI1c (c 6) "maker"))
    (O_NoClass : OkC P w K mg base 3 "NoClass" (c 7) ["self", "name"] (spI1c (c 7) "name"))
    (O_NoSign : OkC P w K mg base 3 "NoSign" (c 8) ["self", "sign"] (spI1c (c 8) "sign"))
    (O_TooMany : OkC P w K mg base 1 "TooMany" (c 9) ["self", "what"] (spI1 (c 9) "what"))
    (O_Unlike : OkC P w K mg base 1 "Unlike" (c 10) ["self", "at"] (spI1 (c 10) "at"))
    (O_Surplus : OkC P w K mg base 1 "Surplus" (c 11) ["self", "name", "many"] (spI2 (c 11) "name" "many"))
    (O_Lacking : OkC P w K mg base 1 "Lacking" (c 12) ["self", "name", "field"] (spI2 (c 12) "name" "field"))
    (O_Unknown : OkC P w K mg base 1 "Unknown" (c 13) ["self", "name", "field"] (spI2 (c 13) "name" "field"))
    (O_Failed : OkC P w K mg base 1 "Failed" (c 14) ["self", "at", "reason"] (spI2 (c 14) "at" "reason"))
    : FnOk P w K mg base CX0 5 f fd ["thing", "number", "one", "two"] (spErrors K c) := by
  refine F.ok sc_law_errors (fun vs H Q E h => ?_) (fun cdv A' outer s H vs Q E hr h => ?_)
  · obtain ⟨x, d, n, one, two, rfl, _⟩ := h
    rfl
  · obtain ⟨x, d, n, one, two, rfl, hx, hone, k⟩ := h
    refine ⟨_, (pss_cons (ps_set (i := 4) sc_law_errors.nd rfl (Or.inl rfl) (pe_lst (pa_cons (pe_tup (pa_cons (pe_newO O_BadLibrary (hr.mono (by decide)) (pa_cons (pv 1) pa_nil)) (pa_cons pe_str (pa_cons (pv 1) pa_nil)))) (pa_cons (pe_tup (pa_cons (pe_newO O_BadWorld (hr.mono (by decide)) (pa_cons (pv 1) pa_nil)) (pa_cons pe_str (pa_cons (pv 1) pa_nil)))) (pa_cons (pe_tup (pa_cons (pe_newO O_BadValue (hr.mono (by decide)) (pa_cons (pv 2) pa_nil)) (pa_cons pe_str (pa_cons (pv 2) pa_nil)))) pa_nil)))))
    (pss_cons (ps_set (i := 4) sc_law_errors.nd rfl (Or.inl rfl) (pe_op op_cat (pv 4) (pe_lst (pa_cons (pe_tup (pa_cons (pe_newO O_BadExpression (hr.mono (by decide)) (pa_cons (pv 1) pa_nil)) (pa_cons pe_str (pa_cons (pv 1) pa_nil)))) (pa_cons (pe_tup (pa_cons (pe_newO O_BadFamily (hr.mono (by decide)) (pa_cons (pv 0) pa_nil)) (pa_cons pe_str (pa_cons (pv 0) pa_nil)))) pa_nil)))))
    (pss_cons (ps_set (i := 4) sc_law_errors.nd rfl (Or.inl rfl) (pe_op op_cat (pv 4) (pe_lst (pa_cons (pe_tup (pa_cons (pe_newO O_BadVirtue (hr.mono (by decide)) (pa_cons (pv 0) pa_nil)) (pa_cons pe_str (pa_cons (pv 0) pa_nil)))) (pa_cons (pe_tup (pa_cons (pe_newO O_BadMaker (hr.mono (by decide)) (pa_cons (pv 0) pa_nil)) (pa_cons pe_str (pa_cons (pv 0) pa_nil)))) pa_nil)))))
    (pss_cons (ps_set (i := 4) sc_law_errors.nd rfl (Or.inl rfl) (pe_op op_cat (pv 4) (pe_lst (pa_cons (pe_tup (pa_cons (pe_newO O_NoClass (hr.mono (by decide)) (pa_cons (pv 0) pa_nil)) (pa_cons pe_str (pa_cons (pv 0) pa_nil)))) (pa_cons (pe_tup (pa_cons (pe_newO O_NoSign (hr.mono (by decide)) (pa_cons (pv 0) pa_nil)) (pa_cons pe_str (pa_cons (pv 0) pa_nil)))) (pa_cons (pe_tup (pa_cons (pe_newO O_TooMany (hr.mono (by decide)) (pa_cons (pv 3) pa_nil)) (pa_cons pe_str (pa_cons (pv 3) pa_nil)))) pa_nil))))))
    (pss_cons (ps_set (i := 5) sc_law_errors.nd rfl (Or.inl rfl) (pe_lst (pa_cons (pe_newO O_Surplus (hr.mono (by decide)) (pa_cons (pe_op op_add_str pe_str (pv 2)) (pa_cons (pe_callB (call_max2 rfl) (by rfl) T.n_max (by decide +kernel) (pa_cons pe_int (pa_cons (pv 1) pa_nil))) pa_nil))) (pa_cons (pe_newO O_Lacking (hr.mono (by decide)) (pa_cons (pe_op op_add_str pe_str (pv 2)) (pa_cons (pv 3) pa_nil))) (pa_cons (pe_newO O_Unknown (hr.mono (by decide)) (pa_cons (pe_op op_add_str pe_str (pv 2)) (pa_cons (pv 3) pa_nil))) pa_nil)))))
    (pss_one (ps_ret (pe_tup (pa_cons (pe_op op_cat (pv 4) (pe_lst (pa_cons (pe_tup (pa_cons (pe_newO O_Unlike (hr.mono (by decide)) (pa_cons (pv 1) pa_nil)) (pa_cons pe_str (pa_cons (pv 1) pa_nil)))) pa_nil))) (pa_cons (pe_op op_cat (pv 5) (pe_lst (pa_cons (pe_newO O_Failed (hr.mono (by decide)) (pa_cons (pe_callB (call_max2 rfl) (by rfl) T.n_max (by decide +kernel) (pa_cons pe_int (pa_cons (pv 1) pa_nil))) (pa_cons (pv 3) pa_nil))) pa_nil))) pa_nil)))))))))), ?_⟩
    have hA : (("A" : Str)).length + one.length ≤ sizeLine := by
      rw [sizeLine_eq]
      have q : (("A" : Str)).length = 1 := by decide +kernel
      omega
    refine ⟨_, rfl, by show 1 ≤ 1000; decide, fun a0 na0 => ⟨_, a0, _, rfl, rfl, na0, fun G0 s0 e0 => ⟨rfl, _, rfl, by show 3 ≤ sizeLine; decide, fun t0 nt0 => ?_⟩⟩⟩
    generalize gC0 : upd G0 t0 (.tup [.ref a0, .str "at", .int n]) = C0
    obtain ⟨sC0, cC0⟩ := gen_same gC0 nt0
    have r0 : RowAt K c C0 0 (.ref t0) := ⟨t0, a0, "at", .int n, .int n, _, rfl, cC0, e0.same sC0, .int n, .int n, by decide +kernel, A.a0⟩
    refine ⟨_, rfl, by show 1 ≤ 1000; decide, fun a1 na1 => ⟨_, a1, _, rfl, rfl, na1, fun G1 s1 e1 => ⟨rfl, _, rfl, by show 3 ≤ sizeLine; decide, fun t1 nt1 => ?_⟩⟩⟩
    generalize gC1 : upd G1 t1 (.tup [.ref a1, .str "at", .int n]) = C1
    obtain ⟨sC1, cC1⟩ := gen_same gC1 nt1
    have r1 : RowAt K c C1 1 (.ref t1) := ⟨t1, a1, "at", .int n, .int n, _, rfl, cC1, e1.same sC1, .int n, .int n, by decide +kernel, A.a1⟩
    refine ⟨_, rfl, by show 1 ≤ 1000; decide, fun a2 na2 => ⟨_, a2, _, rfl, rfl, na2, fun G2 s2 e2 => ⟨rfl, _, rfl, by show 3 ≤ sizeLine; decide, fun t2 nt2 => ?_⟩⟩⟩
    generalize gC2 : upd G2 t2 (.tup [.ref a2, .str "field", .str one]) = C2
    obtain ⟨sC2, cC2⟩ := gen_same gC2 nt2
    have r2 : RowAt K c C2 2 (.ref t2) := ⟨t2, a2, "field", .str one, .str one, _, rfl, cC2, e2.same sC2, .str _, .str _, by decide +kernel, A.a2⟩
    refine ⟨by show 3 ≤ sizeLine; decide, fun p0 np0 => ?_⟩
    generalize gLp0 : upd C2 p0 (.lst [.ref t0, .ref t1, .ref t2]) = Lp0
    obtain ⟨sLp0, cLp0⟩ := gen_same gLp0 np0
    refine ⟨_, rfl, ?_⟩
    refine ⟨_, rfl, by show 1 ≤ 1000; decide, fun a3 na3 => ⟨_, a3, _, rfl, rfl, na3, fun G3 s3 e3 => ⟨rfl, _, rfl, by show 3 ≤ sizeLine; decide, fun t3 nt3 => ?_⟩⟩⟩
    generalize gC3 : upd G3 t3 (.tup [.ref a3, .str "at", .int n]) = C3
    obtain ⟨sC3, cC3⟩ := gen_same gC3 nt3
    have r3 : RowAt K c C3 3 (.ref t3) := ⟨t3, a3, "at", .int n, .int n, _, rfl, cC3, e3.same sC3, .int n, .int n, by decide +kernel, A.a3⟩
    refine ⟨_, rfl, by show 1 ≤ 1000; decide, fun a4 na4 => ⟨_, a4, _, d, rfl, rfl, na4, hx.same ((((((((s0.trans sC0).trans s1).trans sC1).trans s2).trans sC2).trans sLp0).trans s3).trans sC3), fun G4 y4 s4 e4 th4 => ⟨rfl, _, rfl, by show 3 ≤ sizeLine; decide, fun t4 nt4 => ?_⟩⟩⟩
    generalize gC4 : upd G4 t4 (.tup [.ref a4, .str "word", x]) = C4
    obtain ⟨sC4, cC4⟩ := gen_same gC4 nt4
    have r4 : RowAt K c C4 4 (.ref t4) := ⟨t4, a4, "word", x, y4, d, rfl, cC4, e4.same sC4, th4.same sC4, hx.same ((((((((((s0.trans sC0).trans s1).trans sC1).trans s2).trans sC2).trans sLp0).trans s3).trans sC3).trans s4).trans sC4), by decide +kernel, A.a4⟩
    refine ⟨by show 2 ≤ sizeLine; decide, fun q1 nq1 => ?_⟩
    generalize gLq1 : upd C4 q1 (.lst [.ref t3, .ref t4]) = Lq1
    obtain ⟨sLq1, cLq1⟩ := gen_same gLq1 nq1
    refine ⟨p0, q1, _, _, rfl, rfl, ((((s3.trans sC3).trans s4).trans sC4).trans sLq1) _ _ cLp0, (Same.refl _) _ _ cLq1, by show 3 + 2 ≤ sizeLine; decide, fun p1 np1 => ?_⟩
    generalize gLp1 : upd Lq1 p1 (.lst ([.ref t0, .ref t1, .ref t2] ++ [.ref t3, .ref t4])) = Lp1
    obtain ⟨sLp1, cLp1⟩ := gen_same gLp1 np1
    have cLp1 : Lp1 p1 = some (.lst [.ref t0, .ref t1, .ref t2, .ref t3, .ref t4]) := cLp1
    refine ⟨_, rfl, ?_⟩
    refine ⟨_, rfl, by show 1 ≤ 1000; decide, fun a5 na5 => ⟨_, a5, _, d, rfl, rfl, na5, hx.same ((((((((((((s0.trans sC0).trans s1).trans sC1).trans s2).trans sC2).trans sLp0).trans s3).trans sC3).trans s4).trans sC4).trans sLq1).trans sLp1), fun G5 y5 s5 e5 th5 => ⟨rfl, _, rfl, by show 3 ≤ sizeLine; decide, fun t5 nt5 => ?_⟩⟩⟩
    generalize gC5 : upd G5 t5 (.tup [.ref a5, .str "word", x]) = C5
    obtain ⟨sC5, cC5⟩ := gen_same gC5 nt5
    have r5 : RowAt K c C5 5 (.ref t5) := ⟨t5, a5, "word", x, y5, d, rfl, cC5, e5.same sC5, th5.same sC5, hx.same ((((((((((((((s0.trans sC0).trans s1).trans sC1).trans s2).trans sC2).trans sLp0).trans s3).trans sC3).trans s4).trans sC4).trans sLq1).trans sLp1).trans s5).trans sC5), by decide +kernel, A.a5⟩
    refine ⟨_, rfl, by show 1 ≤ 1000; decide, fun a6 na6 => ⟨_, a6, _, d, rfl, rfl, na6, hx.same ((((((((((((((s0.trans sC0).trans s1).trans sC1).trans s2).trans sC2).trans sLp0).trans s3).trans sC3).trans s4).trans sC4).trans sLq1).trans sLp1).trans s5).trans sC5), fun G6 y6 s6 e6 th6 => ⟨rfl, _, rfl, by show 3 ≤ sizeLine; decide, fun t6 nt6 => ?_⟩⟩⟩
    generalize gC6 : upd G6 t6 (.tup [.ref a6, .str "maker", x]) = C6
    obtain ⟨sC6, cC6⟩ := gen_same gC6 nt6
    have r6 : RowAt K c C6 6 (.ref t6) := ⟨t6, a6, "maker", x, y6, d, rfl, cC6, e6.same sC6, th6.same sC6, hx.same ((((((((((((((((s0.trans sC0).trans s1).trans sC1).trans s2).trans sC2).trans sLp0).trans s3).trans sC3).trans s4).trans sC4).trans sLq1).trans sLp1).trans s5).trans sC5).trans s6).trans sC6), by decide +kernel, A.a6⟩
    refine ⟨by show 2 ≤ sizeLine; decide, fun q2 nq2 => ?_⟩
    generalize gLq2 : upd C6 q2 (.lst [.ref t5, .ref t6]) = Lq2
    obtain ⟨sLq2, cLq2⟩ := gen_same gLq2 nq2
    refine ⟨p1, q2, _, _, rfl, rfl, ((((s5.trans sC5).trans s6).trans sC6).trans sLq2) _ _ cLp1, (Same.refl _) _ _ cLq2, by show 5 + 2 ≤ sizeLine; decide, fun p2 np2 => ?_⟩
    generalize gLp2 : upd Lq2 p2 (.lst ([.ref t0, .ref t1, .ref t2, .ref t3, .ref t4] ++ [.ref t5, .ref t6])) = Lp2
    obtain ⟨sLp2, cLp2⟩ := gen_same gLp2 np2
    have cLp2 : Lp2 p2 = some (.lst [.ref t0, .ref t1, .ref t2, .ref t3, .ref t4, .ref t5, .ref t6]) := cLp2
    refine ⟨_, rfl, ?_⟩
    refine ⟨_, rfl, by show 1 ≤ 1000; decide, fun a7 na7 => ⟨_, a7, _, d, rfl, rfl, na7, hx.same ((((((((((((((((((s0.trans sC0).trans s1).trans sC1).trans s2).trans sC2).trans sLp0).trans s3).trans sC3).trans s4).trans sC4).trans sLq1).trans sLp1).trans s5).trans sC5).trans s6).trans sC6).trans sLq2).trans sLp2), fun G7 y7 s7 e7 th7 => ⟨rfl, _, rfl, by show 3 ≤ sizeLine; decide, fun t7 nt7 => ?_⟩⟩⟩
    generalize gC7 : upd G7 t7 (.tup [.ref a7, .str "name", x]) = C7
    obtain ⟨sC7, cC7⟩ := gen_same gC7 nt7
    have r7 : RowAt K c C7 7 (.ref t7) := ⟨t7, a7, "name", x, y7, d, rfl, cC7, e7.same sC7, th7.same sC7, hx.same ((((((((((((((((((((s0.trans sC0).trans s1).trans sC1).trans s2).trans sC2).trans sLp0).trans s3).trans sC3).trans s4).trans sC4).trans sLq1).trans sLp1).trans s5).trans sC5).trans s6).trans sC6).trans sLq2).trans sLp2).trans s7).trans sC7), by decide +kernel, A.a7⟩
    refine ⟨_, rfl, by show 1 ≤ 1000; decide, fun a8 na8 => ⟨_, a8, _, d, rfl, rfl, na8, hx.same ((((((((((((((((((((s0.trans sC0).trans s1).trans sC1).trans s2).trans sC2).trans sLp0).trans s3).trans sC3).trans s4).trans sC4).trans sLq1).trans sLp1).trans s5).trans sC5).trans s6).trans sC6).trans sLq2).trans sLp2).trans s7).trans sC7), fun G8 y8 s8 e8 th8 => ⟨rfl, _, rfl, by show 3 ≤ sizeLine; decide, fun t8 nt8 => ?_⟩⟩⟩
    generalize gC8 : upd G8 t8 (.tup [.ref a8, .str "sign", x]) = C8
    obtain ⟨sC8, cC8⟩ := gen_same gC8 nt8
    have r8 : RowAt K c C8 8 (.ref t8) := ⟨t8, a8, "sign", x, y8, d, rfl, cC8, e8.same sC8, th8.same sC8, hx.same ((((((((((((((((((((((s0.trans sC0).trans s1).trans sC1).trans s2).trans sC2).trans sLp0).trans s3).trans sC3).trans s4).trans sC4).trans sLq1).trans sLp1).trans s5).trans sC5).trans s6).trans sC6).trans sLq2).trans sLp2).trans s7).trans sC7).trans s8).trans sC8), by decide +kernel, A.a8⟩
    refine ⟨_, rfl, by show 1 ≤ 1000; decide, fun a9 na9 => ⟨_, a9, _, rfl, rfl, na9, fun G9 s9 e9 => ⟨rfl, _, rfl, by show 3 ≤ sizeLine; decide, fun t9 nt9 => ?_⟩⟩⟩
    generalize gC9 : upd G9 t9 (.tup [.ref a9, .str "what", .str two]) = C9
    obtain ⟨sC9, cC9⟩ := gen_same gC9 nt9
    have r9 : RowAt K c C9 9 (.ref t9) := ⟨t9, a9, "what", .str two, .str two, _, rfl, cC9, e9.same sC9, .str _, .str _, by decide +kernel, A.a9⟩
    refine ⟨by show 3 ≤ sizeLine; decide, fun q3 nq3 => ?_⟩
    generalize gLq3 : upd C9 q3 (.lst [.ref t7, .ref t8, .ref t9]) = Lq3
    obtain ⟨sLq3, cLq3⟩ := gen_same gLq3 nq3
    refine ⟨p2, q3, _, _, rfl, rfl, ((((((s7.trans sC7).trans s8).trans sC8).trans s9).trans sC9).trans sLq3) _ _ cLp2, (Same.refl _) _ _ cLq3, by show 7 + 3 ≤ sizeLine; decide, fun p3 np3 => ?_⟩
    generalize gLp3 : upd Lq3 p3 (.lst ([.ref t0, .ref t1, .ref t2, .ref t3, .ref t4, .ref t5, .ref t6] ++ [.ref t7, .ref t8, .ref t9])) = Lp3
    obtain ⟨sLp3, cLp3⟩ := gen_same gLp3 np3
    have cLp3 : Lp3 p3 = some (.lst [.ref t0, .ref t1, .ref t2, .ref t3, .ref t4, .ref t5, .ref t6, .ref t7, .ref t8, .ref t9]) := cLp3
    refine ⟨_, rfl, _, _, rfl, rfl, hA, _, rfl, _, _, rfl, by show 2 ≤ 1000; decide, fun a11 na11 => ⟨_, a11, _, _, rfl, rfl, na11, fun G11 s11 e11 => ⟨rfl, ?_⟩⟩⟩
    refine ⟨_, rfl, _, _, rfl, rfl, hA, _, rfl, by show 2 ≤ 1000; decide, fun a12 na12 => ⟨_, a12, _, _, rfl, rfl, na12, fun G12 s12 e12 => ⟨rfl, ?_⟩⟩⟩
    refine ⟨_, rfl, _, _, rfl, rfl, hA, _, rfl, by show 2 ≤ 1000; decide, fun a13 na13 => ⟨_, a13, _, _, rfl, rfl, na13, fun G13 s13 e13 => ⟨rfl, ?_⟩⟩⟩
    refine ⟨by show 3 ≤ sizeLine; decide, fun l0 nl0 => ?_⟩
    generalize gLl0 : upd G13 l0 (.lst [.ref a11, .ref a12, .ref a13]) = Ll0
    obtain ⟨sLl0, cLl0⟩ := gen_same gLl0 nl0
    refine ⟨_, rfl, ?_⟩
    refine ⟨_, rfl, by show 1 ≤ 1000; decide, fun a10 na10 => ⟨_, a10, _, rfl, rfl, na10, fun G10 s10 e10 => ⟨rfl, _, rfl, by show 3 ≤ sizeLine; decide, fun t10 nt10 => ?_⟩⟩⟩
    generalize gC10 : upd G10 t10 (.tup [.ref a10, .str "at", .int n]) = C10
    obtain ⟨sC10, cC10⟩ := gen_same gC10 nt10
    have r10 : RowAt K c C10 10 (.ref t10) := ⟨t10, a10, "at", .int n, .int n, _, rfl, cC10, e10.same sC10, .int n, .int n, by decide +kernel, A.a10⟩
    refine ⟨by show 1 ≤ sizeLine; decide, fun q4 nq4 => ?_⟩
    generalize gLq4 : upd C10 q4 (.lst [.ref t10]) = Lq4
    obtain ⟨sLq4, cLq4⟩ := gen_same gLq4 nq4
    refine ⟨p3, q4, _, _, rfl, rfl, ((((((s11.trans s12).trans s13).trans sLl0).trans s10).trans sC10).trans sLq4) _ _ cLp3, (Same.refl _) _ _ cLq4, by show 10 + 1 ≤ sizeLine; decide, fun p4 np4 => ?_⟩
    generalize gLp4 : upd Lq4 p4 (.lst ([.ref t0, .ref t1, .ref t2, .ref t3, .ref t4, .ref t5, .ref t6, .ref t7, .ref t8, .ref t9] ++ [.ref t10])) = Lp4
    obtain ⟨sLp4, cLp4⟩ := gen_same gLp4 np4
    have cLp4 : Lp4 p4 = some (.lst [.ref t0, .ref t1, .ref t2, .ref t3, .ref t4, .ref t5, .ref t6, .ref t7, .ref t8, .ref t9, .ref t10]) := cLp4
    refine ⟨_, rfl, ?_⟩
    refine ⟨_, rfl, _, _, rfl, _, rfl, by show 2 ≤ 1000; decide, fun a14 na14 => ⟨_, a14, _, _, rfl, rfl, na14, fun G14 s14 e14 => ⟨rfl, ?_⟩⟩⟩
    refine ⟨by show 1 ≤ sizeLine; decide, fun q5 nq5 => ?_⟩
    generalize gLq5 : upd G14 q5 (.lst [.ref a14]) = Lq5
    obtain ⟨sLq5, cLq5⟩ := gen_same gLq5 nq5
    refine ⟨l0, q5, _, _, rfl, rfl, (((((s10.trans sC10).trans sLq4).trans sLp4).trans s14).trans sLq5) _ _ cLl0, (Same.refl _) _ _ cLq5, by show 3 + 1 ≤ sizeLine; decide, fun p5 np5 => ?_⟩
    generalize gLp5 : upd Lq5 p5 (.lst ([.ref a11, .ref a12, .ref a13] ++ [.ref a14])) = Lp5
    obtain ⟨sLp5, cLp5⟩ := gen_same gLp5 np5
    have cLp5 : Lp5 p5 = some (.lst [.ref a11, .ref a12, .ref a13, .ref a14]) := cLp5
    refine ⟨by show 2 ≤ sizeLine; decide, fun tt ntt => ?_⟩
    generalize gZ : upd Lp5 tt (.tup [.ref p4, .ref p5]) = Z
    obtain ⟨sZ, cZ⟩ := gen_same gZ ntt
    refine k Z tt p4 p5 _ a11 a12 a13 a14 ((((((((((((((((((((((((((((((((((((((s0.trans sC0).trans s1).trans sC1).trans s2).trans sC2).trans sLp0).trans s3).trans sC3).trans s4).trans sC4).trans sLq1).trans sLp1).trans s5).trans sC5).trans s6).trans sC6).trans sLq2).trans sLp2).trans s7).trans sC7).trans s8).trans sC8).trans s9).trans sC9).trans sLq3).trans sLp3).trans s11).trans s12).trans s13).trans sLl0).trans s10).trans sC10).trans sLq4).trans sLp4).trans s14).trans sLq5).trans sLp5).trans sZ) cZ ((((s14.trans sLq5).trans sLp5).trans sZ) _ _ cLp4) rfl ?_ (sZ _ _ cLp5) ⟨e11.same ((((((((((s12.trans s13).trans sLl0).trans s10).trans sC10).trans sLq4).trans sLp4).trans s14).trans sLq5).trans sLp5).trans sZ), e12.same (((((((((s13.trans sLl0).trans s10).trans sC10).trans sLq4).trans sLp4).trans s14).trans sLq5).trans sLp5).trans sZ), e13.same ((((((((sLl0.trans s10).trans sC10).trans sLq4).trans sLp4).trans s14).trans sLq5).trans sLp5).trans sZ), e14.same ((sLq5.trans sLp5).trans sZ)⟩
    intro i v hi
    match i, hi with
    | 0, hi => exact (Option.some.inj hi) ▸ r0.same ((((((((((((((((((((((((((((((((((((s1.trans sC1).trans s2).trans sC2).trans sLp0).trans s3).trans sC3).trans s4).trans sC4).trans sLq1).trans sLp1).trans s5).trans sC5).trans s6).trans sC6).trans sLq2).trans sLp2).trans s7).trans sC7).trans s8).trans sC8).trans s9).trans sC9).trans sLq3).trans sLp3).trans s11).trans s12).trans s13).trans sLl0).trans s10).trans sC10).trans sLq4).trans sLp4).trans s14).trans sLq5).trans sLp5).trans sZ)
    | 1, hi => exact (Option.some.inj hi) ▸ r1.same ((((((((((((((((((((((((((((((((((s2.trans sC2).trans sLp0).trans s3).trans sC3).trans s4).trans sC4).trans sLq1).trans sLp1).trans s5).trans sC5).trans s6).trans sC6).trans sLq2).trans sLp2).trans s7).trans sC7).trans s8).trans sC8).trans s9).trans sC9).trans sLq3).trans sLp3).trans s11).trans s12).trans s13).trans sLl0).trans s10).trans sC10).trans sLq4).trans sLp4).trans s14).trans sLq5).trans sLp5).trans sZ)
    | 2, hi => exact (Option.some.inj hi) ▸ r2.same ((((((((((((((((((((((((((((((((sLp0.trans s3).trans sC3).trans s4).trans sC4).trans sLq1).trans sLp1).trans s5).trans sC5).trans s6).trans sC6).trans sLq2).trans sLp2).trans s7).trans sC7).trans s8).trans sC8).trans s9).trans sC9).trans sLq3).trans sLp3).trans s11).trans s12).trans s13).trans sLl0).trans s10).trans sC10).trans sLq4).trans sLp4).trans s14).trans sLq5).trans sLp5).trans sZ)
    | 3, hi => exact (Option.some.inj hi) ▸ r3.same (((((((((((((((((((((((((((((s4.trans sC4).trans sLq1).trans sLp1).trans s5).trans sC5).trans s6).trans sC6).trans sLq2).trans sLp2).trans s7).trans sC7).trans s8).trans sC8).trans s9).trans sC9).trans sLq3).trans sLp3).trans s11).trans s12).trans s13).trans sLl0).trans s10).trans sC10).trans sLq4).trans sLp4).trans s14).trans sLq5).trans sLp5).trans sZ)
    | 4, hi => exact (Option.some.inj hi) ▸ r4.same (((((((((((((((((((((((((((sLq1.trans sLp1).trans s5).trans sC5).trans s6).trans sC6).trans sLq2).trans sLp2).trans s7).trans sC7).trans s8).trans sC8).trans s9).trans sC9).trans sLq3).trans sLp3).trans s11).trans s12).trans s13).trans sLl0).trans s10).trans sC10).trans sLq4).trans sLp4).trans s14).trans sLq5).trans sLp5).trans sZ)
    | 5, hi => exact (Option.some.inj hi) ▸ r5.same (((((((((((((((((((((((s6.trans sC6).trans sLq2).trans sLp2).trans s7).trans sC7).trans s8).trans sC8).trans s9).trans sC9).trans sLq3).trans sLp3).trans s11).trans s12).trans s13).trans sLl0).trans s10).trans sC10).trans sLq4).trans sLp4).trans s14).trans sLq5).trans sLp5).trans sZ)
    | 6, hi => exact (Option.some.inj hi) ▸ r6.same (((((((((((((((((((((sLq2.trans sLp2).trans s7).trans sC7).trans s8).trans sC8).trans s9).trans sC9).trans sLq3).trans sLp3).trans s11).trans s12).trans s13).trans sLl0).trans s10).trans sC10).trans sLq4).trans sLp4).trans s14).trans sLq5).trans sLp5).trans sZ)
    | 7, hi => exact (Option.some.inj hi) ▸ r7.same (((((((((((((((((s8.trans sC8).trans s9).trans sC9).trans sLq3).trans sLp3).trans s11).trans s12).trans s13).trans sLl0).trans s10).trans sC10).trans sLq4).trans sLp4).trans s14).trans sLq5).trans sLp5).trans sZ)
    | 8, hi => exact (Option.some.inj hi) ▸ r8.same (((((((((((((((s9.trans sC9).trans sLq3).trans sLp3).trans s11).trans s12).trans s13).trans sLl0).trans s10).trans sC10).trans sLq4).trans sLp4).trans s14).trans sLq5).trans sLp5).trans sZ)
    | 9, hi => exact (Option.some.inj hi) ▸ r9.same (((((((((((((sLq3.trans sLp3).trans s11).trans s12).trans s13).trans sLl0).trans s10).trans sC10).trans sLq4).trans sLp4).trans s14).trans sLq5).trans sLp5).trans sZ)
    | 10, hi => exact (Option.some.inj hi) ▸ r10.same (((((sLq4.trans sLp4).trans s14).trans sLq5).trans sLp5).trans sZ)
    | i + 11, hi => simp at hi
/-! ### _law_last_right -/
def spLast (c : Nat → Addr) : Sp := fun vs H Q _ => ∃ (l e0 e1 e2 e3 : Addr) (n : Int) (one two : Str), vs = [.ref l, .int n, .str one, .str two] ∧ one.length ≤ 100 ∧
  H l = some (.lst [.ref e0, .ref e1, .ref e2, .ref e3]) ∧ LastAt c H n one two e0 e1 e2 e3 ∧ Q (.bl true) H
theorem ok_last {f : Addr} {fd : FuncData} (F : Fun K "_law_last_right" "_law_last_right" s_law_last_right f fd) (T : Txt K mg) (A : Attrs K c)
    (x11 : XCls K (c 11)) (x12 : XCls K (c 12)) (x13 : XCls K (c 13)) (x14 : XCls K (c 14)) :
    FnOk P w K mg base CX0 1 f fd ["last", "number", "one", "two"] (spLast c) := by
  refine F.ok sc_law_last_right (fun vs H Q E h => ?_) (fun cdv A' outer s H vs Q E hr h => ?_)
  · obtain ⟨l, e0, e1, e2, e3, n, one, two, rfl, _⟩ := h
    rfl
  · obtain ⟨l, e0, e1, e2, e3, n, one, two, rfl, hone, hl, ⟨h0, h1, h2, h3⟩, k⟩ := h
    refine ⟨_, (pss_cons (ps_if (PW.pt (pw_or (pt_cmpR op_ne (pe_get (pe_ix ix_list (pv 0) pe_int (fun _ _ => rfl))) (pe_op op_add_str pe_str (pv 2)) (nomark _)) (pw_or (pt_cmpR op_ne (pe_get (pe_ix ix_list (pv 0) pe_int (fun _ _ => rfl))) (pe_callB (call_max2 rfl) (by rfl) T.n_max (by decide +kernel) (pa_cons pe_int (pa_cons (pv 1) pa_nil))) (nomark _)) (pw_or1 (pt_cmpR op_ne (pe_get (pe_ix ix_list (pv 0) pe_int (fun _ _ => rfl))) (pe_op op_add_str pe_str (pv 2)) (nomark _)))))) (pss_one (ps_ret pe_bl)) pss_nil)
    (pss_cons (ps_if (PW.pt (pw_or (pt_cmpR op_ne (pe_get (pe_ix ix_list (pv 0) pe_int (fun _ _ => rfl))) (pv 3) (nomark _)) (pw_or (pt_cmpR op_ne (pe_get (pe_ix ix_list (pv 0) pe_int (fun _ _ => rfl))) (pe_op op_add_str pe_str (pv 2)) (nomark _)) (pw_or1 (pt_cmpR op_ne (pe_get (pe_ix ix_list (pv 0) pe_int (fun _ _ => rfl))) (pv 3) (nomark _)))))) (pss_one (ps_ret pe_bl)) pss_nil)
    (pss_one (ps_ret (pe_and (pe_cmpR op_eq (pe_get (pe_ix ix_list (pv 0) pe_int (fun _ _ => rfl))) (pe_callB (call_max2 rfl) (by rfl) T.n_max (by decide +kernel) (pa_cons pe_int (pa_cons (pv 1) pa_nil))) (nomark _)) (pe_one (pe_cmpR op_eq (pe_get (pe_ix ix_list (pv 0) pe_int (fun _ _ => rfl))) (pv 3) (nomark _)))))))), ?_⟩
    have hA : (("A" : Str)).length + one.length ≤ sizeLine := by
      rw [sizeLine_eq]
      have q : (("A" : Str)).length = 1 := by decide +kernel
      omega
    have L := SqL.of (K := K) hl
    have yes : ∀ {x y : V} {U W : Prop}, x = y → W → (if (!decide (x = y)) = true then U else W) := fun {x y U W} q b => by
      rw [decide_eq_true q]
      exact iteF b
    refine ⟨_, rfl, l, _, 0, _, rfl, rfl, L, rfl, e0, c 11, _, _, rfl, x11, A.a11, h0, rfl, _, rfl, _, _, rfl, rfl, hA, rfl, _, rfl, yes rfl ?_⟩
    refine ⟨_, rfl, l, _, 0, _, rfl, rfl, L, rfl, e0, c 11, _, _, rfl, x11, A.b11, h0, rfl, _, rfl, _, _, rfl, rfl, _, rfl, yes rfl ?_⟩
    refine ⟨_, rfl, l, _, 1, _, rfl, rfl, L, rfl, e1, c 12, _, _, rfl, x12, A.a12, h1, rfl, _, rfl, _, _, rfl, rfl, hA, rfl, _, rfl, yes rfl ?_⟩
    refine ⟨_, rfl, l, _, 1, _, rfl, rfl, L, rfl, e1, c 12, _, _, rfl, x12, A.b12, h1, rfl, _, rfl, rfl, _, rfl, yes rfl ?_⟩
    refine ⟨_, rfl, l, _, 2, _, rfl, rfl, L, rfl, e2, c 13, _, _, rfl, x13, A.a13, h2, rfl, _, rfl, _, _, rfl, rfl, hA, rfl, _, rfl, yes rfl ?_⟩
    refine ⟨_, rfl, l, _, 2, _, rfl, rfl, L, rfl, e2, c 13, _, _, rfl, x13, A.b13, h2, rfl, _, rfl, rfl, _, rfl, yes rfl ?_⟩
    refine ⟨_, rfl, l, _, 3, _, rfl, rfl, L, rfl, e3, c 14, _, _, rfl, x14, A.a14, h3, rfl, _, rfl, _, _, rfl, rfl, _, rfl, ?_⟩
    rw [decide_eq_true (show V.int (rest0 n) = V.int (if n > 0 then n else 0) from rfl)]
    refine iteT ⟨_, rfl, l, _, 3, _, rfl, rfl, L, rfl, e3, c 14, _, _, rfl, x14, A.b14, h3, rfl, _, rfl, rfl, ?_⟩
    rw [decide_eq_true rfl]
    exact k
end
end K90

namespace K90
open PySem PySem.Spec PyProof.Rows L2 EV
structure Kits (K : Fg) (c : Nat → Addr) (CH : Addr) : Prop where
  x : ∀ i, i < 15 → XCls K (c i)
  kk : ∀ j i, j < 15 → i < 15 → PySem.W.kitOne K (.ref (c j)) (.ref (c i)) = some (decide (j = i))
  h : ∀ j, j < 15 → PySem.W.kitOne K (.ref (c j)) (.ref CH) = some (decide (j < 11))
  v : ∀ j, j < 15 → PySem.W.kitOne K (.ref (c j)) (.type "ValueError") = some (decide (j < 11))
  l : ∀ j, j < 15 → PySem.W.kitOne K (.ref (c j)) (.type "LookupError") = some (!decide (j < 11))
  ke : ∀ j, j < 15 → PySem.W.kitOne K (.ref (c j)) (.type "KeyError") = some false
  ie : ∀ j, j < 15 → PySem.W.kitOne K (.ref (c j)) (.type "IndexError") = some false
def spLaw (K : Fg) : Sp := fun vs H Q _ => ∃ (a : Addr) (ns : List Int), vs = [.ref a] ∧ SqL K H a (ns.map V.int) ∧ ns.length ≤ 63 ∧ ∀ H', Q (.bl true) H'
theorem same_in {j i : Nat} : decide (V.int (j : Int) = V.int (0 + (i : Int))) = decide (j = i) := by
  rw [Bool.eq_iff_iff, decide_eq_true_iff, decide_eq_true_iff, V.int.injEq]
  omega
theorem same_in11 {j i : Nat} : decide (V.int ((j : Int) + 11) = V.int (0 + (i : Int))) = decide (11 + j = i) := by
  rw [Bool.eq_iff_iff, decide_eq_true_iff, decide_eq_true_iff, V.int.injEq]
  omega
theorem upto (j m : Nat) : ((List.range m).map fun i => decide (j = i)).map V.bl ++ [V.bl (decide (j = m))] = ((List.range (m + 1)).map fun i => decide (j = i)).map V.bl := by
  rw [List.range_succ, List.map_append, List.map_append]
  rfl
theorem kinds_eq (j : Nat) : kindsL j = ((List.range 15).map fun i => decide (j = i)).map V.bl := by
  unfold kindsL
  rw [List.map_map]
  rfl
section
variable {P : Program} {w : World} {K : Fg} {mg : Str → Option Value} {base : Heap} {c : Nat → Addr} {CH : Addr}
theorem ok_law {f : Addr} {fd : FuncData} (F : Fun K "law" "law" s_law f fd) (T : Txt K mg) (X : Kits K c CH) (A : Attrs K c)
    (O_law_take : Ok P w K mg base 1 "_law_take" ["bag", "many"] spTake) (O_law_bag : Ok P w K mg base 1 "_law_bag" ["script", "at"] (spBag K))
    (O_law_thing : Ok P w K mg base 3 "_law_thing" ["bag"] spThing) (O_law_letters : Ok P w K mg base 3 "_law_letters" ["bag"] spLetters)
    (O_law_errors : Ok P w K mg base 5 "_law_errors" ["thing", "number", "one", "two"] (spErrors K c))
    (O_law_is : Ok P w K mg base 1 "_law_is" ["kept", "given"] spIs) (O_law_field : Ok P w K mg base 1 "_law_field" ["one", "word"] (spField K))
    (O_law_under : Ok P w K mg base 1 "_law_under" ["one"] (spUnder K CH)) (O_law_kinds : Ok P w K mg base 1 "_law_kinds" ["one"] (spKinds K c))
    (O_law_last_right : Ok P w K mg base 1 "_law_last_right" ["last", "number", "one", "two"] (spLast c)) :
    FnOk P w K mg base CX0 6 f fd ["script"] (spLaw K) := by
  refine F.ok sc_law (fun vs H Q E h => ?_) (fun cdv A' outer s H vs Q E hr h => ?_)
  · obtain ⟨a, ns, rfl, _⟩ := h
    rfl
  · obtain ⟨a, ns, rfl, hS, hlen, k⟩ := h
    refine ⟨_, (pss_cons (ps_for PassesOwn.never rfl (pi_range1 rfl T.n_range (pa_cons (pe_callB (call_max2 rfl) (by rfl) T.n_max (by decide +kernel) (pa_cons pe_int (pa_cons (pe_callB (call_min2 rfl) (by rfl) T.n_min (by decide +kernel) (pa_cons pe_int (pa_cons (pe_callB call_len_seq (by rfl) T.n_len (by decide +kernel) (pa_cons (pv 0) pa_nil)) pa_nil))) pa_nil))) pa_nil)) (pg_name (i := 1) sc_law.nd rfl (Or.inl rfl)) (pss_cons (ps_set (i := 2) sc_law.nd rfl (Or.inl rfl) (pe_callO O_law_bag (hr.mono (by decide)) (pa_cons (pv 0) (pa_cons (pv 1) pa_nil))))
    (pss_one (ps_for PassesOwn.never rfl (pi_range1 rfl T.n_range (pa_cons pe_int pa_nil)) (pg_name (i := 3) sc_law.nd rfl (Or.inl rfl)) (pss_cons (ps_par (i := 4) (j := 5) (by rfl) sc_law.nd rfl rfl (by decide) rfl rfl (pa_cons (pe_callO O_law_thing (hr.mono (by decide)) (pa_cons (pv 2) pa_nil)) (pa_cons (pe_op op_sub (pe_callO O_law_take (hr.mono (by decide)) (pa_cons (pv 2) (pa_cons pe_int pa_nil))) pe_int) pa_nil)) (by rfl))
    (pss_cons (ps_par (i := 6) (j := 7) (by rfl) sc_law.nd rfl rfl (by decide) rfl rfl (pa_cons (pe_callO O_law_letters (hr.mono (by decide)) (pa_cons (pv 2) pa_nil)) (pa_cons (pe_callO O_law_letters (hr.mono (by decide)) (pa_cons (pv 2) pa_nil)) pa_nil)) (by rfl))
    (pss_cons (ps_asg (pe_callO O_law_errors (hr.mono (by decide)) (pa_cons (pv 4) (pa_cons (pv 5) (pa_cons (pe_slice sl_str (pv 6) po_none (po_some pe_int)) (pa_cons (pv 7) pa_nil))))) (pg_tup rfl (pgs_cons (pg_name (i := 8) sc_law.nd rfl (Or.inl rfl)) (pgs_cons (pg_name (i := 9) sc_law.nd rfl (Or.inl rfl)) pgs_nil))))
    (pss_cons (ps_for PassesOwn.never rfl (pi_enum (by rfl) T.n_enumerate (pa_cons (pv 8) pa_nil)) (pg_tup rfl (pgs_cons (pg_name (i := 10) sc_law.nd rfl (Or.inr rfl)) (pgs_cons (pg_name (i := 11) sc_law.nd rfl (Or.inl rfl)) pgs_nil))) (pss_cons (ps_if (PW.pt (pw_or (pt_not (pt_val (pe_callO O_law_is (hr.mono (by decide)) (pa_cons (pe_callO O_law_field (hr.mono (by decide)) (pa_cons (pe_ix ix_tup (pv 11) pe_int (fun _ _ => rfl)) (pa_cons (pe_ix ix_tup (pv 11) pe_int (fun _ _ => rfl)) pa_nil))) (pa_cons (pe_ix ix_tup (pv 11) pe_int (fun _ _ => rfl)) pa_nil))))) (pw_or1 (pt_cmpR (op_neD hr.units) (pe_callO O_law_under (hr.mono (by decide)) (pa_cons (pe_ix ix_tup (pv 11) pe_int (fun _ _ => rfl)) pa_nil)) (pe_lst (pa_cons pe_bl (pa_cons pe_bl (pa_cons pe_bl (pa_cons pe_bl pa_nil))))) (nomark _))))) (pss_one (ps_ret pe_bl)) pss_nil)
    (pss_one (ps_if (pt_cmpR (op_neD hr.units) (pe_callO O_law_kinds (hr.mono (by decide)) (pa_cons (pe_ix ix_tup (pv 11) pe_int (fun _ _ => rfl)) pa_nil)) (pe_lc (own := [("place", 13)]) rfl sc_law.nd (pi_range1 rfl T.n_range (pa_cons pe_int pa_nil)) (blkOk_by (own := [("place", 13)]) (N := ["script", "at", "bag", "turn", "thing", "number", "one", "two", "first", "last", "k", "row", "each", "place"]) (sc := defScope s_law) (by decide +kernel)) (fun _ _ _ _ _ => (pg_name (i := 13) sc_law.nd rfl (Or.inl rfl))) (fun _ _ _ _ _ => pts_nil) (fun _ _ _ _ _ => (pe_cmpR op_eq (pv 10) (pv 13) (nomark _)))) (nomark _)) (pss_one (ps_ret pe_bl)) pss_nil))))
    (pss_cons (ps_for PassesOwn.never rfl (pi_enum (by rfl) T.n_enumerate (pa_cons (pv 9) pa_nil)) (pg_tup rfl (pgs_cons (pg_name (i := 10) sc_law.nd rfl (Or.inr rfl)) (pgs_cons (pg_name (i := 12) sc_law.nd rfl (Or.inl rfl)) pgs_nil))) (pss_cons (ps_if (pt_cmpR (op_neD hr.units) (pe_callO O_law_under (hr.mono (by decide)) (pa_cons (pv 12) pa_nil)) (pe_lst (pa_cons pe_bl (pa_cons pe_bl (pa_cons pe_bl (pa_cons pe_bl pa_nil))))) (nomark _)) (pss_one (ps_ret pe_bl)) pss_nil)
    (pss_one (ps_if (pt_cmpR (op_neD hr.units) (pe_callO O_law_kinds (hr.mono (by decide)) (pa_cons (pv 12) pa_nil)) (pe_lc (own := [("place", 13)]) rfl sc_law.nd (pi_range1 rfl T.n_range (pa_cons pe_int pa_nil)) (blkOk_by (own := [("place", 13)]) (N := ["script", "at", "bag", "turn", "thing", "number", "one", "two", "first", "last", "k", "row", "each", "place"]) (sc := defScope s_law) (by decide +kernel)) (fun _ _ _ _ _ => (pg_name (i := 13) sc_law.nd rfl (Or.inl rfl))) (fun _ _ _ _ _ => pts_nil) (fun _ _ _ _ _ => (pe_cmpR op_eq (pe_op op_add (pv 10) pe_int) (pv 13) (nomark _)))) (nomark _)) (pss_one (ps_ret pe_bl)) pss_nil))))
    (pss_one (ps_if (pt_not (pt_val (pe_callO O_law_last_right (hr.mono (by decide)) (pa_cons (pv 9) (pa_cons (pv 5) (pa_cons (pe_slice sl_str (pv 6) po_none (po_some pe_int)) (pa_cons (pv 7) pa_nil))))))) (pss_one (ps_ret pe_bl)) pss_nil)))))))))))
    (pss_one (ps_ret pe_bl))), ?_⟩
    have hN : ∀ m : Int, m = (if (ns.map V.int).length < (4 : Int) then ((ns.map V.int).length : Int) else 4) → 1 ≤ (if m > 1 then m else 1) ∧ (if m > 1 then m else 1) ≤ 4 := fun m hm => by
      have q : m ≤ 4 := by rw [hm]; split <;> omega
      split <;> omega
    obtain ⟨n1, n4⟩ := hN _ rfl
    refine ⟨_, rfl, a, _, rfl, .inl hS, _, _, rfl, _, _, rfl, _, rfl, by omega, by omega, ?_⟩
    refine for_range (lo := 0) (fun i σ G => Same H G ∧ ∃ u1 u2 u3 u4 u5 u6 u7 u8 u9 u10 u11 u12 u13 : Option V, σ = [some (.ref a), u1, u2, u3, u4, u5, u6, u7, u8, u9, u10, u11, u12, u13]) ⟨Same.refl _, ⟨_, _, _, _, _, _, _, _, _, _, _, _, _, rfl⟩⟩ ?_ ?_
    · rintro i σ G hi ⟨S0, u1, u2, u3, u4, u5, u6, u7, u8, u9, u10, u11, u12, u13, rfl⟩
      have i3 : (0 : Int) + (i : Int) ≤ 3 := by omega
      refine ⟨_, rfl, _, rfl, a, ns, _, rfl, S0.seq hS, by omega, i3, fun b G1 nb S1 B1 => ?_⟩
      have nbH : H b = none := S0.free nb
      have S2 := S0.trans S1
      refine ⟨4, rfl, by decide, by decide, for_range (lo := 0) (n := 4) (fun j σ G => Same H G ∧ BagAt G b (21 * j) ∧ ∃ u3 u4 u5 u6 u7 u8 u9 u10 u11 u12 u13 : Option V, σ = [some (.ref a), some (.int (0 + (i : Int))), some (.ref b), u3, u4, u5, u6, u7, u8, u9, u10, u11, u12, u13]) ⟨S2, B1, ⟨_, _, _, _, _, _, _, _, _, _, _, rfl⟩⟩ ?_ ?_⟩
      · rintro j σ G2 hj ⟨S3, B3, u3, u4, u5, u6, u7, u8, u9, u10, u11, u12, u13, rfl⟩
        refine ⟨_, rfl, b, _, rfl, B3, by omega, fun x d G3 t3 k3 B4 => ?_⟩
        refine ⟨_, rfl, b, _, 1000, rfl, B4, by omega, by decide, by decide, fun r G4 r0 r1 k4 B5 => ⟨_, _, rfl, rfl, _, _, rfl, ?_⟩⟩
        refine ⟨_, rfl, b, _, rfl, B5, by omega, fun one G5 hone k5 B6 => ⟨_, rfl, b, _, rfl, B6, by omega, fun two G6 htwo k6 B7 => ⟨_, _, rfl, ?_⟩⟩⟩
        have S6 : Same H G6 := same_keep (same_keep (same_keep (same_keep S3 nbH k3) nbH k4) nbH k5) nbH k6
        have t6 : Th G6 x d := by
          obtain ⟨_, _, _, z4, _⟩ := B4
          obtain ⟨_, _, _, z5, _⟩ := B5
          obtain ⟨_, _, _, z6, _⟩ := B6
          exact ((t3.keep k4 z4).keep k5 z5).keep k6 z6
        have e7 : (cutS one none (some 7)).length ≤ 100 := Nat.le_trans (cutS_length _ _ _) (by omega)
        have e8 : one.length ≤ sizeLine := by
          rw [sizeLine_eq]
          omega
        refine ⟨_, rfl, _, rfl, _, rfl, _, rfl, one, rfl, e8, _, rfl, x, d, _, _, _, rfl, t6, e7, fun Z t l1 l2 rows e0 e1 e2 e3 sZ ct cl1 hrows hR cl2 hL => ?_⟩
        refine ⟨t, _, rfl, SqT.of ct, rfl, _, _, rfl, _, _, rfl, rfl, ?_⟩
        have S7 := S6.trans sZ
        have B8 := B7.same sZ
        refine ⟨_, rfl, l1, _, rfl, SqL.of cl1, for_it walk_enum (fun m σ G => Same Z G ∧ ∃ u10 u11 u12 u13 : Option V, σ = [some (.ref a), some (.int (0 + (i : Int))), some (.ref b), some (.int (0 + (j : Int))), some (x), some (.int (r - 1)), some (.str one), some (.str two), some (.ref l1), some (.ref l2), u10, u11, u12, u13]) ⟨Same.refl _, ⟨_, _, _, _, rfl⟩⟩ (fun m σ G _ q => SqL.of (q.1 _ _ cl1)) ?_ ?_⟩
        · rintro m v σ G G7 hm ⟨S8, u10, u11, u12, u13, rfl⟩ ⟨T7, y1, y2, rfl, nT, rfl, q1, q2⟩
          obtain rfl : y1 = .int (m : Int) := (Option.some.inj q1).symm
          have m11 : m < 11 := hrows ▸ hm
          have S9 : Same Z (upd G T7 (.tup [.int (m : Int), y2])) := S8.trans (same_upd nT)
          obtain ⟨rr, e, z, y, y', dd, rfl, h1, h2, h3, h4, h5, h6⟩ := (hR m y2 q2).same S9
          refine ⟨T7, _, rfl, SqT.of upd_same, rfl, _, _, rfl, _, _, rfl, rfl, ?_⟩
          have xm := X.x m (by omega)
          have row := SqT.of (K := K) h1
          refine ⟨_, rfl, rr, _, 0, _, rfl, rfl, row, rfl, _, rfl, rr, _, 1, _, rfl, rfl, row, rfl, e, c m, _, z, y', rfl, xm, h6, h2, h5, by simp [List.lookup], ?_⟩
          refine ⟨_, rfl, rr, _, 2, _, rfl, rfl, row, rfl, y', y, dd, rfl, h3, h4, true, rfl, iteF ?_⟩
          have k1 : PySem.W.kitOne K (.ref (c m)) (.ref CH) = some true := by rw [X.h m (by omega), decide_eq_true m11]
          have k2 : PySem.W.kitOne K (.ref (c m)) (.type "ValueError") = some true := by rw [X.v m (by omega), decide_eq_true m11]
          have k3' : PySem.W.kitOne K (.ref (c m)) (.type "LookupError") = some false := by rw [X.l m (by omega), decide_eq_true m11]; rfl
          refine ⟨_, rfl, rr, _, 0, _, rfl, rfl, row, rfl, e, c m, _, true, true, false, rfl, xm, h2, k1, k2, k3', X.ke m (by omega), X.ie m (by omega), fun p1 G8 S10 hp1 => ?_⟩
          refine ⟨by show 4 ≤ sizeLine; decide, fun p2 np2 => ne_bools (bs := [true, true, false, false]) (same_upd np2 _ _ hp1) upd_same ⟨_, rfl, iteF ?_⟩⟩
          have S11 := S10.trans (same_upd (o := .lst [.bl true, .bl true, .bl false, .bl false]) np2)
          have row2 := SqT.of (K := K) (S11 _ _ h1)
          refine ⟨_, rfl, rr, _, 0, _, rfl, rfl, row2, rfl, e, c m, _, m, rfl, xm, h2.same S11, fun i hi => X.kk m i (by omega) hi, fun p3 G9 S12 hp3 => ?_⟩
          refine ⟨15, rfl, by decide, by decide, fun D nD => ?_⟩
          rw [kinds_eq] at hp3
          refine lc_range (lo := 0) (n := 15) (fun i G => Same G9 G ∧ G D = some (.lst (((List.range i).map fun q => decide (m = q)).map V.bl))) ⟨same_upd nD, upd_same⟩ ?_ ?_
          · rintro i G10 hi' ⟨s1, s2⟩
            refine ⟨rfl, _, rfl, _, rfl, rfl, _, s2, by rw [List.length_map, List.length_map, List.length_range, sizeLine_eq]; omega, same_upd' s1 nD, ?_⟩
            rw [upd_same, same_in, upto]
          · rintro G10 ⟨s1, s2⟩
            exact ne_bools (s1 _ _ hp3) s2 ⟨_, rfl, iteF ⟨((S9.trans S11).trans S12).trans s1, ⟨_, _, _, _, rfl⟩⟩⟩
        · rintro σ G ⟨S8, u10, u11, u12, u13, rfl⟩
          refine ⟨_, rfl, l2, _, rfl, SqL.of (S8 _ _ cl2), for_it walk_enum (fun m σ G => Same Z G ∧ ∃ u10 u11 u12 u13 : Option V, σ = [some (.ref a), some (.int (0 + (i : Int))), some (.ref b), some (.int (0 + (j : Int))), some (x), some (.int (r - 1)), some (.str one), some (.str two), some (.ref l1), some (.ref l2), u10, u11, u12, u13]) ⟨S8, ⟨_, _, _, _, rfl⟩⟩ (fun m σ G _ q => SqL.of (q.1 _ _ cl2)) ?_ ?_⟩
          · rintro m v σ G G7 hm ⟨S8, u10, u11, u12, u13, rfl⟩ ⟨T7, y1, y2, rfl, nT, rfl, q1, q2⟩
            obtain rfl : y1 = .int (m : Int) := (Option.some.inj q1).symm
            have m4 : m < 4 := hm
            have S9 : Same Z (upd G T7 (.tup [.int (m : Int), y2])) := S8.trans (same_upd nT)
            obtain ⟨e, fs, rfl, h2⟩ : ∃ (e : Addr) (fs : List (Str × V)), y2 = .ref e ∧ ErrAt (upd G T7 (.tup [.int (m : Int), y2])) e (c (11 + m)) fs := by
              obtain ⟨a0, a1, a2, a3⟩ := hL.same S9
              match m, m4, q2 with
              | 0, _, q2 => exact ⟨_, _, (Option.some.inj q2).symm, a0⟩
              | 1, _, q2 => exact ⟨_, _, (Option.some.inj q2).symm, a1⟩
              | 2, _, q2 => exact ⟨_, _, (Option.some.inj q2).symm, a2⟩
              | 3, _, q2 => exact ⟨_, _, (Option.some.inj q2).symm, a3⟩
            refine ⟨T7, _, rfl, SqT.of upd_same, rfl, _, _, rfl, _, _, rfl, rfl, ?_⟩
            have xm := X.x (11 + m) (by omega)
            have m11 : ¬ 11 + m < 11 := by omega
            have k1 : PySem.W.kitOne K (.ref (c (11 + m))) (.ref CH) = some false := by rw [X.h _ (by omega), decide_eq_false m11]
            have k2 : PySem.W.kitOne K (.ref (c (11 + m))) (.type "ValueError") = some false := by rw [X.v _ (by omega), decide_eq_false m11]
            have k3' : PySem.W.kitOne K (.ref (c (11 + m))) (.type "LookupError") = some true := by rw [X.l _ (by omega), decide_eq_false m11]; rfl
            refine ⟨_, rfl, e, c (11 + m), _, false, false, true, rfl, xm, h2, k1, k2, k3', X.ke _ (by omega), X.ie _ (by omega), fun p1 G8 S10 hp1 => ?_⟩
            refine ⟨by show 4 ≤ sizeLine; decide, fun p2 np2 => ne_bools (bs := [false, false, true, false]) (same_upd np2 _ _ hp1) upd_same ⟨_, rfl, iteF ?_⟩⟩
            have S11 := S10.trans (same_upd (o := .lst [.bl false, .bl false, .bl true, .bl false]) np2)
            refine ⟨_, rfl, e, c (11 + m), _, 11 + m, rfl, xm, h2.same S11, fun i hi => X.kk _ i (by omega) hi, fun p3 G9 S12 hp3 => ?_⟩
            refine ⟨15, rfl, by decide, by decide, fun D nD => ?_⟩
            rw [kinds_eq] at hp3
            refine lc_range (lo := 0) (n := 15) (fun i G => Same G9 G ∧ G D = some (.lst (((List.range i).map fun q => decide (11 + m = q)).map V.bl))) ⟨same_upd nD, upd_same⟩ ?_ ?_
            · rintro i G10 hi' ⟨s1, s2⟩
              refine ⟨rfl, _, rfl, _, _, rfl, rfl, _, rfl, rfl, _, s2, by rw [List.length_map, List.length_map, List.length_range, sizeLine_eq]; omega, same_upd' s1 nD, ?_⟩
              rw [upd_same, same_in11, upto]
            · rintro G10 ⟨s1, s2⟩
              exact ne_bools (s1 _ _ hp3) s2 ⟨_, rfl, iteF ⟨((S9.trans S11).trans S12).trans s1, ⟨_, _, _, _, rfl⟩⟩⟩
          · rintro σ G ⟨S8, u10, u11, u12, u13, rfl⟩
            refine ⟨_, rfl, _, rfl, _, rfl, _, rfl, one, rfl, e8, _, rfl, l2, e0, e1, e2, e3, _, _, _, rfl, e7, S8 _ _ cl2, hL.same S8, true, rfl, iteF ?_⟩
            exact ⟨S7.trans S8, (B8.same S8).mono (by omega), ⟨_, _, _, _, _, _, _, _, _, _, _, rfl⟩⟩
      · rintro σ G3 ⟨S3, B3, u3, u4, u5, u6, u7, u8, u9, u10, u11, u12, u13, rfl⟩
        exact ⟨S3, ⟨_, _, _, _, _, _, _, _, _, _, _, _, _, rfl⟩⟩
    · rintro σ G ⟨S0, u1, u2, u3, u4, u5, u6, u7, u8, u9, u10, u11, u12, u13, rfl⟩
      exact k _
end
end K90

namespace K90
open PySem PySem.Spec PyProof.Rows L2 EV
abbrev veT : List Value := [.type "ValueError", .type "Exception", .type "BaseException", .type "object"]
abbrev leT : List Value := [.type "LookupError", .type "Exception", .type "BaseException", .type "object"]
/-- what the classes' own records must say, in one check -/
def okCls (CH : Addr) (cs : List Addr) (j : Nat) (cd : ClassData) : Bool :=
  cd.hasDict && !cd.mro.isEmpty && cd.mro.contains (.type "object") && cd.mro.contains (.type "BaseException") && (cd.mro.contains (.ref CH) == decide (j < 11)) &&
    (cd.mro.contains (.type "ValueError") == decide (j < 11)) && (cd.mro.contains (.type "LookupError") == !decide (j < 11)) && !cd.mro.contains (.type "KeyError") && !cd.mro.contains (.type "IndexError") &&
    (List.range 15).all fun i => cd.mro.contains (.ref (cs.getD i 0)) == decide (j = i)
def okAll (CH : Addr) (cs : List Addr) (ds : List ClassData) : Bool := ds.length == 15 && (List.range 15).all fun j => ds[j]?.any (okCls CH cs j)
theorem kit_cls {K : Fg} {C D : Addr} {cd : ClassData} {b : Bool} (d : PySem.W.clsIn K D = some cd) (dC : (PySem.W.clsIn K C).isSome = true) (tC : PySem.W.typeIn K (.ref C) = some (.type "type")) (ne : cd.mro.isEmpty = false)
    (h : cd.mro.contains (.ref C) = b) (hs : D = C → b = true) : PySem.W.kitOne K (.ref D) (.ref C) = some b := by
  unfold PySem.W.kitOne PySem.W.kitCls
  by_cases e : (Value.ref D == Value.ref C) = true
  · rw [if_pos e, hs (Value.ref.inj (beq_iff_eq.mp e))]
  · rw [if_neg e]
    dsimp only
    rw [dC, tC]
    show (if (true && (some (Value.type "type") == some (Value.type "type"))) = true then PySem.W.subIn K (.ref D) (.ref C) else none) = some b
    rw [if_pos (by decide +kernel)]
    show PySem.W.mroIn K D (.ref C) = some b
    unfold PySem.W.mroIn
    rw [d, Option.bind_some, ne, if_neg (by decide), h]
theorem kit_type {K : Fg} {D : Addr} {cd : ClassData} {T : String} {b : Bool} (d : PySem.W.clsIn K D = some cd) (m : PySem.W.kitMeta T = true) (ne : cd.mro.isEmpty = false)
    (h : cd.mro.contains (.type T) = b) : PySem.W.kitOne K (.ref D) (.type T) = some b := by
  unfold PySem.W.kitOne PySem.W.kitCls
  rw [if_neg (by simp)]
  dsimp only
  rw [if_pos m]
  show PySem.W.mroIn K D (.type T) = some b
  unfold PySem.W.mroIn
  rw [d, Option.bind_some, ne, if_neg (by decide), h]
theorem sub_type {K : Fg} {D : Addr} {cd : ClassData} {T : String} {b : Bool} (d : PySem.W.clsIn K D = some cd) (ne : cd.mro.isEmpty = false)
    (h : cd.mro.contains (.type T) = b) : PySem.W.mroIn K D (.type T) = some b := by
  unfold PySem.W.mroIn
  rw [d, Option.bind_some, ne, if_neg (by decide), h]
/-- one class's facts -/
structure CF (K : Fg) (C fI : Addr) (cd : ClassData) (bmB : List Value) (nI : String) : Prop where
  d : PySem.W.clsIn K C = some cd
  q1 : PySem.W.excInitIn K C bmB nI = true
  q2 : PySem.W.excOver K C bmB = true
  sa : PySem.W.findIn K (.ref C) "__setattr__" = some (some (.builtin "object.__setattr__"))
  hg : PySem.W.findIn K (.ref C) "__getattribute__" = some (some (.builtin "BaseException.__getattribute__"))
  hk : PySem.W.findIn K (.ref C) "__getattr__" = some none
  ha : PySem.W.findIn K (.ref C) "__class__" = some (some (.builtin "object.__class__"))
  kC : PySem.W.keepIn K (.ref C) = true
  tC : PySem.W.typeIn K (.ref C) = some (.type "type")
  iC : PySem.W.findIn K (.ref C) "__init__" = some (some (.ref fI))
  fF : PySem.W.isFn K (.ref fI) = true
theorem xcls_of {K : Fg} {C fI CH : Addr} {cd : ClassData} {bmB : List Value} {B nI iI : String} {cs : List Addr} {j : Nat} (F : CF K C fI cd bmB nI) (FB : ExcBaseFacts B nI iI bmB) (SF : StoreFacts B bmB "object.__setattr__" "object")
    (hn : PySem.W.specialIn K (.builtin "object.__class__") "__get__" = some (some (.builtin "getset_descriptor.__get__"))) (ht : PySem.W.takesIn K (.builtin "object.__class__") = some true) (o : okCls CH cs j cd = true) : XCls K C := by
  unfold okCls at o
  simp only [Bool.and_eq_true, Bool.not_eq_true'] at o
  obtain ⟨⟨⟨⟨⟨⟨⟨⟨⟨o1, o2⟩, o3⟩, o4⟩, _⟩, _⟩, _⟩, _⟩, _⟩, _⟩ := o
  refine ⟨⟨B, nI, iI, bmB, FB, SF, F.q1, F.q2⟩, F.sa, ⟨F.hg, F.hk, sub_type F.d o2 o4, ?_, F.ha, hn, ht, sub_type F.d o2 o3⟩, F.kC⟩
  unfold PySem.W.hasDictIn
  rw [F.d]
  exact o1
section
variable {P : Program} {w : World} {K : Fg} {mg : Str → Option Value} {base : Heap}
/-- the classes together -/
theorem kits_of {CH : Addr} {cs : List Addr} {ds : List ClassData} (hCH : (PySem.W.clsIn K CH).isSome = true) (tCH : PySem.W.typeIn K (.ref CH) = some (.type "type")) (hx : ∀ i, i < 15 → XCls K (cs.getD i 0))
    (hd : ∀ i, i < 15 → ∃ cd, ds[i]? = some cd ∧ PySem.W.clsIn K (cs.getD i 0) = some cd ∧ PySem.W.typeIn K (.ref (cs.getD i 0)) = some (.type "type")) (ok : okAll CH cs ds = true) :
    Kits K (fun i => cs.getD i 0) CH := by
  unfold okAll at ok
  rw [Bool.and_eq_true, List.all_eq_true] at ok
  have each : ∀ j, j < 15 → ∃ cd, PySem.W.clsIn K (cs.getD j 0) = some cd ∧ okCls CH cs j cd = true := fun j hj => by
    obtain ⟨cd, e1, e2, _⟩ := hd j hj
    have q := ok.2 j (List.mem_range.mpr hj)
    rw [e1] at q
    exact ⟨cd, e2, q⟩
  have self : ∀ j i, j < 15 → i < 15 → cs.getD j 0 = cs.getD i 0 → j = i := fun j i hj hi e => by
    obtain ⟨cd, _, o⟩ := each j hj
    unfold okCls at o
    simp only [Bool.and_eq_true, List.all_eq_true] at o
    have q1 := o.2 j (List.mem_range.mpr hj)
    have q2 := o.2 i (List.mem_range.mpr hi)
    rw [beq_iff_eq] at q1 q2
    rw [e, q2] at q1
    rw [decide_eq_true (rfl : j = j)] at q1
    exact of_decide_eq_true q1
  refine ⟨hx, fun j i hj hi => ?_, fun j hj => ?_, fun j hj => ?_, fun j hj => ?_, fun j hj => ?_, fun j hj => ?_⟩
  · obtain ⟨cd, e, o⟩ := each j hj
    obtain ⟨cd', _, e', t'⟩ := hd i hi
    unfold okCls at o
    simp only [Bool.and_eq_true, Bool.not_eq_true', List.all_eq_true] at o
    have q2 := o.2 i (List.mem_range.mpr hi)
    exact kit_cls e (by rw [e']; rfl) t' o.1.1.1.1.1.1.1.1.2 (beq_iff_eq.mp q2) fun z => decide_eq_true (self j i hj hi z)
  · obtain ⟨cd, e, o⟩ := each j hj
    unfold okCls at o
    simp only [Bool.and_eq_true, Bool.not_eq_true', List.all_eq_true] at o
    refine kit_cls e hCH tCH o.1.1.1.1.1.1.1.1.2 (beq_iff_eq.mp o.1.1.1.1.1.2) fun z => ?_
    have q := o.1.1.1.1.1.2
    have q1 := o.2 j (List.mem_range.mpr hj)
    rw [beq_iff_eq] at q q1
    rw [z, q, decide_eq_true (rfl : j = j)] at q1
    exact q1
  · obtain ⟨cd, e, o⟩ := each j hj
    unfold okCls at o
    simp only [Bool.and_eq_true, Bool.not_eq_true'] at o
    exact kit_type e (by decide +kernel) o.1.1.1.1.1.1.1.1.2 (beq_iff_eq.mp o.1.1.1.1.2)
  · obtain ⟨cd, e, o⟩ := each j hj
    unfold okCls at o
    simp only [Bool.and_eq_true, Bool.not_eq_true'] at o
    exact kit_type e (by decide +kernel) o.1.1.1.1.1.1.1.1.2 (beq_iff_eq.mp o.1.1.1.2)
  · obtain ⟨cd, e, o⟩ := each j hj
    unfold okCls at o
    simp only [Bool.and_eq_true, Bool.not_eq_true'] at o
    exact kit_type e (by decide +kernel) o.1.1.1.1.1.1.1.1.2 o.1.1.2
  · obtain ⟨cd, e, o⟩ := each j hj
    unfold okCls at o
    simp only [Bool.and_eq_true, Bool.not_eq_true'] at o
    exact kit_type e (by decide +kernel) o.1.1.1.1.1.1.1.1.2 o.1.2
end
end K90

namespace K90
open PySem PySem.Spec PyProof.Rows L2 EV
theorem all_mk {l : PySem.W.OpenLaw} {w : World} {K : Fg} {h : Heap} {mg : Str → Option Value} {fa : Addr} (X : K.In h) (G : h.Ns mainGlobals mg) (hfa : mg "law" = some (.ref fa))
    {C0 C1 C2 C3 C4 C5 C6 C7 C8 C9 C10 C11 C12 C13 C14 CH : Addr}
    {g0 g1 g2 g3 g4 g5 g6 g7 g8 g9 g10 g11 g12 g13 g14 g20 g21 g22 g23 g24 g25 g26 g27 g28 g29 g30 g31 g32 : Addr}
    {d0 d1 d2 d3 d4 d5 d6 d7 d8 d9 d10 d11 d12 d13 d14 dH0 : ClassData}
    {od0 an0 od1 an1 od2 an2 od3 an3 od4 an4 od5 an5 od6 an6 od7 an7 od8 an8 od9 an9 od10 an10 od11 an11 od12 an12 od13 an13 od14 an14 od20 an20 od21 an21 od22 an22 od23 an23 od24 an24 od25 an25 od26 an26 od27 an27 od28 an28 od29 an29 od30 an30 od31 an31 od32 an32 : Option Addr}
    {sl0 sl1 sl2 sl3 sl4 sl5 sl6 sl7 sl8 sl9 sl10 sl11 sl12 sl13 sl14 sl20 sl21 sl22 sl23 sl24 sl25 sl26 sl27 sl28 sl29 sl30 sl31 sl32 : Array (Option Value)}
    {oc0 kV0 dc0 pm0 cd0 ct0 oc1 kV1 dc1 pm1 cd1 ct1 oc2 kV2 dc2 pm2 cd2 ct2 oc3 kV3 dc3 pm3 cd3 ct3 oc4 kV4 dc4 pm4 cd4 ct4 oc5 kV5 dc5 pm5 cd5 ct5 oc6 kV6 dc6 pm6 cd6 ct6 oc7 kV7 dc7 pm7 cd7 ct7 oc8 kV8 dc8 pm8 cd8 ct8 oc9 kV9 dc9 pm9 cd9 ct9 oc10 kV10 dc10 pm10 cd10 ct10 oc11 kV11 dc11 pm11 cd11 ct11 oc12 kV12 dc12 pm12 cd12 ct12 oc13 kV13 dc13 pm13 cd13 ct13 oc14 kV14 dc14 pm14 cd14 ct14 oc20 kV20 dc20 pm20 cd20 ct20 oc21 kV21 dc21 pm21 cd21 ct21 oc22 kV22 dc22 pm22 cd22 ct22 oc23 kV23 dc23 pm23 cd23 ct23 oc24 kV24 dc24 pm24 cd24 ct24 oc25 kV25 dc25 pm25 cd25 ct25 oc26 kV26 dc26 pm26 cd26 ct26 oc27 kV27 dc27 pm27 cd27 ct27 oc28 kV28 dc28 pm28 cd28 ct28 oc29 kV29 dc29 pm29 cd29 ct29 oc30 kV30 dc30 pm30 cd30 ct30 oc31 kV31 dc31 pm31 cd31 ct31 oc32 kV32 dc32 pm32 cd32 ct32 : Value}
    (aC0 : PySem.W.nsIn K mainGlobals "BadLibrary" = some (some (.ref C0)))
    (d_0 : PySem.W.clsIn K C0 = some d0)
    (q1_0 : PySem.W.excInitIn K C0 veT "ValueError.__new__" = true)
    (q2_0 : PySem.W.excOver K C0 veT = true)
    (sa_0 : PySem.W.findIn K (.ref C0) "__setattr__" = some (some (.builtin "object.__setattr__")))
    (hg_0 : PySem.W.findIn K (.ref C0) "__getattribute__" = some (some (.builtin "BaseException.__getattribute__")))
    (hk_0 : PySem.W.findIn K (.ref C0) "__getattr__" = some none)
    (ha_0 : PySem.W.findIn K (.ref C0) "__class__" = some (some (.builtin "object.__class__")))
    (kC_0 : PySem.W.keepIn K (.ref C0) = true)
    (tC_0 : PySem.W.typeIn K (.ref C0) = some (.type "type"))
    (iC_0 : PySem.W.findIn K (.ref C0) "__init__" = some (some (.ref g0)))
    (fF_0 : PySem.W.isFn K (.ref g0) = true)
    (l_0 : K.lookup g0 = some ⟨oc0, od0, .func (PySem.W.fnOf "__init__" "BadLibrary.__init__" (defArgs s_BadLibrary___init__) (defBody s_BadLibrary___init__) (defScope s_BadLibrary___init__) .none kV0 dc0 pm0 an0 cd0 ct0), sl0⟩)
    (c_0 : PySem.W.codeIn K cd0 "BadLibrary.__init__" = true)
    (k_0 : PySem.W.keepIn K (.ref g0) = true)
    (nat_0 : PySem.W.findIn K (.ref C0) "at" = some none)
    (aC1 : PySem.W.nsIn K mainGlobals "BadWorld" = some (some (.ref C1)))
    (d_1 : PySem.W.clsIn K C1 = some d1)
    (q1_1 : PySem.W.excInitIn K C1 veT "ValueError.__new__" = true)
    (q2_1 : PySem.W.excOver K C1 veT = true)
    (sa_1 : PySem.W.findIn K (.ref C1) "__setattr__" = some (some (.builtin "object.__setattr__")))
    (hg_1 : PySem.W.findIn K (.ref C1) "__getattribute__" = some (some (.builtin "BaseException.__getattribute__")))
    (hk_1 : PySem.W.findIn K (.ref C1) "__getattr__" = some none)
    (ha_1 : PySem.W.findIn K (.ref C1) "__class__" = some (some (.builtin "object.__class__")))
    (kC_1 : PySem.W.keepIn K (.ref C1) = true)
    (tC_1 : PySem.W.typeIn K (.ref C1) = some (.type "type"))
    (iC_1 : PySem.W.findIn K (.ref C1) "__init__" = some (some (.ref g1)))
    (fF_1 : PySem.W.isFn K (.ref g1) = true)
    (l_1 : K.lookup g1 = some ⟨oc1, od1, .func (PySem.W.fnOf "__init__" "BadWorld.__init__" (defArgs s_BadWorld___init__) (defBody s_BadWorld___init__) (defScope s_BadWorld___init__) .none kV1 dc1 pm1 an1 cd1 ct1), sl1⟩)
    (c_1 : PySem.W.codeIn K cd1 "BadWorld.__init__" = true)
    (k_1 : PySem.W.keepIn K (.ref g1) = true)
    (nat_1 : PySem.W.findIn K (.ref C1) "at" = some none)
    (aC2 : PySem.W.nsIn K mainGlobals "BadValue" = some (some (.ref C2)))
    (d_2 : PySem.W.clsIn K C2 = some d2)
    (q1_2 : PySem.W.excInitIn K C2 veT "ValueError.__new__" = true)
    (q2_2 : PySem.W.excOver K C2 veT = true)
    (sa_2 : PySem.W.findIn K (.ref C2) "__setattr__" = some (some (.builtin "object.__setattr__")))
    (hg_2 : PySem.W.findIn K (.ref C2) "__getattribute__" = some (some (.builtin "BaseException.__getattribute__")))
    (hk_2 : PySem.W.findIn K (.ref C2) "__getattr__" = some none)
    (ha_2 : PySem.W.findIn K (.ref C2) "__class__" = some (some (.builtin "object.__class__")))
    (kC_2 : PySem.W.keepIn K (.ref C2) = true)
    (tC_2 : PySem.W.typeIn K (.ref C2) = some (.type "type"))
    (iC_2 : PySem.W.findIn K (.ref C2) "__init__" = some (some (.ref g2)))
    (fF_2 : PySem.W.isFn K (.ref g2) = true)
    (l_2 : K.lookup g2 = some ⟨oc2, od2, .func (PySem.W.fnOf "__init__" "BadValue.__init__" (defArgs s_BadValue___init__) (defBody s_BadValue___init__) (defScope s_BadValue___init__) .none kV2 dc2 pm2 an2 cd2 ct2), sl2⟩)
    (c_2 : PySem.W.codeIn K cd2 "BadValue.__init__" = true)
    (k_2 : PySem.W.keepIn K (.ref g2) = true)
    (nfield_2 : PySem.W.findIn K (.ref C2) "field" = some none)
    (aC3 : PySem.W.nsIn K mainGlobals "BadExpression" = some (some (.ref C3)))
    (d_3 : PySem.W.clsIn K C3 = some d3)
    (q1_3 : PySem.W.excInitIn K C3 veT "ValueError.__new__" = true)
    (q2_3 : PySem.W.excOver K C3 veT = true)
    (sa_3 : PySem.W.findIn K (.ref C3) "__setattr__" = some (some (.builtin "object.__setattr__")))
    (hg_3 : PySem.W.findIn K (.ref C3) "__getattribute__" = some (some (.builtin "BaseException.__getattribute__")))
    (hk_3 : PySem.W.findIn K (.ref C3) "__getattr__" = some none)
    (ha_3 : PySem.W.findIn K (.ref C3) "__class__" = some (some (.builtin "object.__class__")))
    (kC_3 : PySem.W.keepIn K (.ref C3) = true)
    (tC_3 : PySem.W.typeIn K (.ref C3) = some (.type "type"))
    (iC_3 : PySem.W.findIn K (.ref C3) "__init__" = some (some (.ref g3)))
    (fF_3 : PySem.W.isFn K (.ref g3) = true)
    (l_3 : K.lookup g3 = some ⟨oc3, od3, .func (PySem.W.fnOf "__init__" "BadExpression.__init__" (defArgs s_BadExpression___init__) (defBody s_BadExpression___init__) (defScope s_BadExpression___init__) .none kV3 dc3 pm3 an3 cd3 ct3), sl3⟩)
    (c_3 : PySem.W.codeIn K cd3 "BadExpression.__init__" = true)
    (k_3 : PySem.W.keepIn K (.ref g3) = true)
    (nat_3 : PySem.W.findIn K (.ref C3) "at" = some none)
    (aC4 : PySem.W.nsIn K mainGlobals "BadFamily" = some (some (.ref C4)))
    (d_4 : PySem.W.clsIn K C4 = some d4)
    (q1_4 : PySem.W.excInitIn K C4 veT "ValueError.__new__" = true)
    (q2_4 : PySem.W.excOver K C4 veT = true)
    (sa_4 : PySem.W.findIn K (.ref C4) "__setattr__" = some (some (.builtin "object.__setattr__")))
    (hg_4 : PySem.W.findIn K (.ref C4) "__getattribute__" = some (some (.builtin "BaseException.__getattribute__")))
    (hk_4 : PySem.W.findIn K (.ref C4) "__getattr__" = some none)
    (ha_4 : PySem.W.findIn K (.ref C4) "__class__" = some (some (.builtin "object.__class__")))
    (kC_4 : PySem.W.keepIn K (.ref C4) = true)
    (tC_4 : PySem.W.typeIn K (.ref C4) = some (.type "type"))
    (iC_4 : PySem.W.findIn K (.ref C4) "__init__" = some (some (.ref g4)))
    (fF_4 : PySem.W.isFn K (.ref g4) = true)
    (l_4 : K.lookup g4 = some ⟨oc4, od4, .func (PySem.W.fnOf "__init__" "BadFamily.__init__" (defArgs s_BadFamily___init__) (defBody s_BadFamily___init__) (defScope s_BadFamily___init__) .none kV4 dc4 pm4 an4 cd4 ct4), sl4⟩)
    (c_4 : PySem.W.codeIn K cd4 "BadFamily.__init__" = true)
    (k_4 : PySem.W.keepIn K (.ref g4) = true)
    (nword_4 : PySem.W.findIn K (.ref C4) "word" = some none)
    (aC5 : PySem.W.nsIn K mainGlobals "BadVirtue" = some (some (.ref C5)))
    (d_5 : PySem.W.clsIn K C5 = some d5)
    (q1_5 : PySem.W.excInitIn K C5 veT "ValueError.__new__" = true)
    (q2_5 : PySem.W.excOver K C5 veT = true)
    (sa_5 : PySem.W.findIn K (.ref C5) "__setattr__" = some (some (.builtin "object.__setattr__")))
    (hg_5 : PySem.W.findIn K (.ref C5) "__getattribute__" = some (some (.builtin "BaseException.__getattribute__")))
    (hk_5 : PySem.W.findIn K (.ref C5) "__getattr__" = some none)
    (ha_5 : PySem.W.findIn K (.ref C5) "__class__" = some (some (.builtin "object.__class__")))
    (kC_5 : PySem.W.keepIn K (.ref C5) = true)
    (tC_5 : PySem.W.typeIn K (.ref C5) = some (.type "type"))
    (iC_5 : PySem.W.findIn K (.ref C5) "__init__" = some (some (.ref g5)))
    (fF_5 : PySem.W.isFn K (.ref g5) = true)
    (l_5 : K.lookup g5 = some ⟨oc5, od5, .func (PySem.W.fnOf "__init__" "BadVirtue.__init__" (defArgs s_BadVirtue___init__) (defBody s_BadVirtue___init__) (defScope s_BadVirtue___init__) .none kV5 dc5 pm5 an5 cd5 ct5), sl5⟩)
    (c_5 : PySem.W.codeIn K cd5 "BadVirtue.__init__" = true)
    (k_5 : PySem.W.keepIn K (.ref g5) = true)
    (nword_5 : PySem.W.findIn K (.ref C5) "word" = some none)
    (aC6 : PySem.W.nsIn K mainGlobals "BadMaker" = some (some (.ref C6)))
    (d_6 : PySem.W.clsIn K C6 = some d6)
    (q1_6 : PySem.W.excInitIn K C6 veT "ValueError.__new__" = true)
    (q2_6 : PySem.W.excOver K C6 veT = true)
    (sa_6 : PySem.W.findIn K (.ref C6) "__setattr__" = some (some (.builtin "object.__setattr__")))
    (hg_6 : PySem.W.findIn K (.ref C6) "__getattribute__" = some (some (.builtin "BaseException.__getattribute__")))
    (hk_6 : PySem.W.findIn K (.ref C6) "__getattr__" = some none)
    (ha_6 : PySem.W.findIn K (.ref C6) "__class__" = some (some (.builtin "object.__class__")))
    (kC_6 : PySem.W.keepIn K (.ref C6) = true)
    (tC_6 : PySem.W.typeIn K (.ref C6) = some (.type "type"))
    (iC_6 : PySem.W.findIn K (.ref C6) "__init__" = some (some (.ref g6)))
    (fF_6 : PySem.W.isFn K (.ref g6) = true)
    (l_6 : K.lookup g6 = some ⟨oc6, od6, .func (PySem.W.fnOf "__init__" "BadMaker.__init__" (defArgs s_BadMaker___init__) (defBody s_BadMaker___init__) (defScope s_BadMaker___init__) .none kV6 dc6 pm6 an6 cd6 ct6), sl6⟩)
    (c_6 : PySem.W.codeIn K cd6 "BadMaker.__init__" = true)
    (k_6 : PySem.W.keepIn K (.ref g6) = true)
    (nmaker_6 : PySem.W.findIn K (.ref C6) "maker" = some none)
    (aC7 : PySem.W.nsIn K mainGlobals "NoClass" = some (some (.ref C7)))
    (d_7 : PySem.W.clsIn K C7 = some d7)
    (q1_7 : PySem.W.excInitIn K C7 veT "ValueError.__new__" = true)
    (q2_7 : PySem.W.excOver K C7 veT = true)
    (sa_7 : PySem.W.findIn K (.ref C7) "__setattr__" = some (some (.builtin "object.__setattr__")))
    (hg_7 : PySem.W.findIn K (.ref C7) "__getattribute__" = some (some (.builtin "BaseException.__getattribute__")))
    (hk_7 : PySem.W.findIn K (.ref C7) "__getattr__" = some none)
    (ha_7 : PySem.W.findIn K (.ref C7) "__class__" = some (some (.builtin "object.__class__")))
    (kC_7 : PySem.W.keepIn K (.ref C7) = true)
    (tC_7 : PySem.W.typeIn K (.ref C7) = some (.type "type"))
    (iC_7 : PySem.W.findIn K (.ref C7) "__init__" = some (some (.ref g7)))
    (fF_7 : PySem.W.isFn K (.ref g7) = true)
    (l_7 : K.lookup g7 = some ⟨oc7, od7, .func (PySem.W.fnOf "__init__" "NoClass.__init__" (defArgs s_NoClass___init__) (defBody s_NoClass___init__) (defScope s_NoClass___init__) .none kV7 dc7 pm7 an7 cd7 ct7), sl7⟩)
    (c_7 : PySem.W.codeIn K cd7 "NoClass.__init__" = true)
    (k_7 : PySem.W.keepIn K (.ref g7) = true)
    (nname_7 : PySem.W.findIn K (.ref C7) "name" = some none)
    (aC8 : PySem.W.nsIn K mainGlobals "NoSign" = some (some (.ref C8)))
    (d_8 : PySem.W.clsIn K C8 = some d8)
    (q1_8 : PySem.W.excInitIn K C8 veT "ValueError.__new__" = true)
    (q2_8 : PySem.W.excOver K C8 veT = true)
    (sa_8 : PySem.W.findIn K (.ref C8) "__setattr__" = some (some (.builtin "object.__setattr__")))
    (hg_8 : PySem.W.findIn K (.ref C8) "__getattribute__" = some (some (.builtin "BaseException.__getattribute__")))
    (hk_8 : PySem.W.findIn K (.ref C8) "__getattr__" = some none)
    (ha_8 : PySem.W.findIn K (.ref C8) "__class__" = some (some (.builtin "object.__class__")))
    (kC_8 : PySem.W.keepIn K (.ref C8) = true)
    (tC_8 : PySem.W.typeIn K (.ref C8) = some (.type "type"))
    (iC_8 : PySem.W.findIn K (.ref C8) "__init__" = some (some (.ref g8)))
    (fF_8 : PySem.W.isFn K (.ref g8) = true)
    (l_8 : K.lookup g8 = some ⟨oc8, od8, .func (PySem.W.fnOf "__init__" "NoSign.__init__" (defArgs s_NoSign___init__) (defBody s_NoSign___init__) (defScope s_NoSign___init__) .none kV8 dc8 pm8 an8 cd8 ct8), sl8⟩)
    (c_8 : PySem.W.codeIn K cd8 "NoSign.__init__" = true)
    (k_8 : PySem.W.keepIn K (.ref g8) = true)
    (nsign_8 : PySem.W.findIn K (.ref C8) "sign" = some none)
    (aC9 : PySem.W.nsIn K mainGlobals "TooMany" = some (some (.ref C9)))
    (d_9 : PySem.W.clsIn K C9 = some d9)
    (q1_9 : PySem.W.excInitIn K C9 veT "ValueError.__new__" = true)
    (q2_9 : PySem.W.excOver K C9 veT = true)
    (sa_9 : PySem.W.findIn K (.ref C9) "__setattr__" = some (some (.builtin "object.__setattr__")))
    (hg_9 : PySem.W.findIn K (.ref C9) "__getattribute__" = some (some (.builtin "BaseException.__getattribute__")))
    (hk_9 : PySem.W.findIn K (.ref C9) "__getattr__" = some none)
    (ha_9 : PySem.W.findIn K (.ref C9) "__class__" = some (some (.builtin "object.__class__")))
    (kC_9 : PySem.W.keepIn K (.ref C9) = true)
    (tC_9 : PySem.W.typeIn K (.ref C9) = some (.type "type"))
    (iC_9 : PySem.W.findIn K (.ref C9) "__init__" = some (some (.ref g9)))
    (fF_9 : PySem.W.isFn K (.ref g9) = true)
    (l_9 : K.lookup g9 = some ⟨oc9, od9, .func (PySem.W.fnOf "__init__" "TooMany.__init__" (defArgs s_TooMany___init__) (defBody s_TooMany___init__) (defScope s_TooMany___init__) .none kV9 dc9 pm9 an9 cd9 ct9), sl9⟩)
    (c_9 : PySem.W.codeIn K cd9 "TooMany.__init__" = true)
    (k_9 : PySem.W.keepIn K (.ref g9) = true)
    (nwhat_9 : PySem.W.findIn K (.ref C9) "what" = some none)
    (aC10 : PySem.W.nsIn K mainGlobals "Unlike" = some (some (.ref C10)))
    (d_10 : PySem.W.clsIn K C10 = some d10)
    (q1_10 : PySem.W.excInitIn K C10 veT "ValueError.__new__" = true)
    (q2_10 : PySem.W.excOver K C10 veT = true)
    (sa_10 : PySem.W.findIn K (.ref C10) "__setattr__" = some (some (.builtin "object.__setattr__")))
    (hg_10 : PySem.W.findIn K (.ref C10) "__getattribute__" = some (some (.builtin "BaseException.__getattribute__")))
    (hk_10 : PySem.W.findIn K (.ref C10) "__getattr__" = some none)
    (ha_10 : PySem.W.findIn K (.ref C10) "__class__" = some (some (.builtin "object.__class__")))
    (kC_10 : PySem.W.keepIn K (.ref C10) = true)
    (tC_10 : PySem.W.typeIn K (.ref C10) = some (.type "type"))
    (iC_10 : PySem.W.findIn K (.ref C10) "__init__" = some (some (.ref g10)))
    (fF_10 : PySem.W.isFn K (.ref g10) = true)
    (l_10 : K.lookup g10 = some ⟨oc10, od10, .func (PySem.W.fnOf "__init__" "Unlike.__init__" (defArgs s_Unlike___init__) (defBody s_Unlike___init__) (defScope s_Unlike___init__) .none kV10 dc10 pm10 an10 cd10 ct10), sl10⟩)
    (c_10 : PySem.W.codeIn K cd10 "Unlike.__init__" = true)
    (k_10 : PySem.W.keepIn K (.ref g10) = true)
    (nat_10 : PySem.W.findIn K (.ref C10) "at" = some none)
    (aC11 : PySem.W.nsIn K mainGlobals "Surplus" = some (some (.ref C11)))
    (d_11 : PySem.W.clsIn K C11 = some d11)
    (q1_11 : PySem.W.excInitIn K C11 leT "LookupError.__new__" = true)
    (q2_11 : PySem.W.excOver K C11 leT = true)
    (sa_11 : PySem.W.findIn K (.ref C11) "__setattr__" = some (some (.builtin "object.__setattr__")))
    (hg_11 : PySem.W.findIn K (.ref C11) "__getattribute__" = some (some (.builtin "BaseException.__getattribute__")))
    (hk_11 : PySem.W.findIn K (.ref C11) "__getattr__" = some none)
    (ha_11 : PySem.W.findIn K (.ref C11) "__class__" = some (some (.builtin "object.__class__")))
    (kC_11 : PySem.W.keepIn K (.ref C11) = true)
    (tC_11 : PySem.W.typeIn K (.ref C11) = some (.type "type"))
    (iC_11 : PySem.W.findIn K (.ref C11) "__init__" = some (some (.ref g11)))
    (fF_11 : PySem.W.isFn K (.ref g11) = true)
    (l_11 : K.lookup g11 = some ⟨oc11, od11, .func (PySem.W.fnOf "__init__" "Surplus.__init__" (defArgs s_Surplus___init__) (defBody s_Surplus___init__) (defScope s_Surplus___init__) .none kV11 dc11 pm11 an11 cd11 ct11), sl11⟩)
    (c_11 : PySem.W.codeIn K cd11 "Surplus.__init__" = true)
    (k_11 : PySem.W.keepIn K (.ref g11) = true)
    (nname_11 : PySem.W.findIn K (.ref C11) "name" = some none)
    (nmany_11 : PySem.W.findIn K (.ref C11) "many" = some none)
    (aC12 : PySem.W.nsIn K mainGlobals "Lacking" = some (some (.ref C12)))
    (d_12 : PySem.W.clsIn K C12 = some d12)
    (q1_12 : PySem.W.excInitIn K C12 leT "LookupError.__new__" = true)
    (q2_12 : PySem.W.excOver K C12 leT = true)
    (sa_12 : PySem.W.findIn K (.ref C12) "__setattr__" = some (some (.builtin "object.__setattr__")))
    (hg_12 : PySem.W.findIn K (.ref C12) "__getattribute__" = some (some (.builtin "BaseException.__getattribute__")))
    (hk_12 : PySem.W.findIn K (.ref C12) "__getattr__" = some none)
    (ha_12 : PySem.W.findIn K (.ref C12) "__class__" = some (some (.builtin "object.__class__")))
    (kC_12 : PySem.W.keepIn K (.ref C12) = true)
    (tC_12 : PySem.W.typeIn K (.ref C12) = some (.type "type"))
    (iC_12 : PySem.W.findIn K (.ref C12) "__init__" = some (some (.ref g12)))
    (fF_12 : PySem.W.isFn K (.ref g12) = true)
    (l_12 : K.lookup g12 = some ⟨oc12, od12, .func (PySem.W.fnOf "__init__" "Lacking.__init__" (defArgs s_Lacking___init__) (defBody s_Lacking___init__) (defScope s_Lacking___init__) .none kV12 dc12 pm12 an12 cd12 ct12), sl12⟩)
    (c_12 : PySem.W.codeIn K cd12 "Lacking.__init__" = true)
    (k_12 : PySem.W.keepIn K (.ref g12) = true)
    (nname_12 : PySem.W.findIn K (.ref C12) "name" = some none)
    (nfield_12 : PySem.W.findIn K (.ref C12) "field" = some none)
    (aC13 : PySem.W.nsIn K mainGlobals "Unknown" = some (some (.ref C13)))
    (d_13 : PySem.W.clsIn K C13 = some d13)
    (q1_13 : PySem.W.excInitIn K C13 leT "LookupError.__new__" = true)
    (q2_13 : PySem.W.excOver K C13 leT = true)
    (sa_13 : PySem.W.findIn K (.ref C13) "__setattr__" = some (some (.builtin "object.__setattr__")))
    (hg_13 : PySem.W.findIn K (.ref C13) "__getattribute__" = some (some (.builtin "BaseException.__getattribute__")))
    (hk_13 : PySem.W.findIn K (.ref C13) "__getattr__" = some none)
    (ha_13 : PySem.W.findIn K (.ref C13) "__class__" = some (some (.builtin "object.__class__")))
    (kC_13 : PySem.W.keepIn K (.ref C13) = true)
    (tC_13 : PySem.W.typeIn K (.ref C13) = some (.type "type"))
    (iC_13 : PySem.W.findIn K (.ref C13) "__init__" = some (some (.ref g13)))
    (fF_13 : PySem.W.isFn K (.ref g13) = true)
    (l_13 : K.lookup g13 = some ⟨oc13, od13, .func (PySem.W.fnOf "__init__" "Unknown.__init__" (defArgs s_Unknown___init__) (defBody s_Unknown___init__) (defScope s_Unknown___init__) .none kV13 dc13 pm13 an13 cd13 ct13), sl13⟩)
    (c_13 : PySem.W.codeIn K cd13 "Unknown.__init__" = true)
    (k_13 : PySem.W.keepIn K (.ref g13) = true)
    (nname_13 : PySem.W.findIn K (.ref C13) "name" = some none)
    (nfield_13 : PySem.W.findIn K (.ref C13) "field" = some none)
    (aC14 : PySem.W.nsIn K mainGlobals "Failed" = some (some (.ref C14)))
    (d_14 : PySem.W.clsIn K C14 = some d14)
    (q1_14 : PySem.W.excInitIn K C14 leT "LookupError.__new__" = true)
    (q2_14 : PySem.W.excOver K C14 leT = true)
    (sa_14 : PySem.W.findIn K (.ref C14) "__setattr__" = some (some (.builtin "object.__setattr__")))
    (hg_14 : PySem.W.findIn K (.ref C14) "__getattribute__" = some (some (.builtin "BaseException.__getattribute__")))
    (hk_14 : PySem.W.findIn K (.ref C14) "__getattr__" = some none)
    (ha_14 : PySem.W.findIn K (.ref C14) "__class__" = some (some (.builtin "object.__class__")))
    (kC_14 : PySem.W.keepIn K (.ref C14) = true)
    (tC_14 : PySem.W.typeIn K (.ref C14) = some (.type "type"))
    (iC_14 : PySem.W.findIn K (.ref C14) "__init__" = some (some (.ref g14)))
    (fF_14 : PySem.W.isFn K (.ref g14) = true)
    (l_14 : K.lookup g14 = some ⟨oc14, od14, .func (PySem.W.fnOf "__init__" "Failed.__init__" (defArgs s_Failed___init__) (defBody s_Failed___init__) (defScope s_Failed___init__) .none kV14 dc14 pm14 an14 cd14 ct14), sl14⟩)
    (c_14 : PySem.W.codeIn K cd14 "Failed.__init__" = true)
    (k_14 : PySem.W.keepIn K (.ref g14) = true)
    (nat_14 : PySem.W.findIn K (.ref C14) "at" = some none)
    (nreason_14 : PySem.W.findIn K (.ref C14) "reason" = some none)
    (a_20 : PySem.W.nsIn K mainGlobals "own_copy" = some (some (.ref g20)))
    (l_20 : K.lookup g20 = some ⟨oc20, od20, .func (PySem.W.fnOf "own_copy" "own_copy" (defArgs s_own_copy) (defBody s_own_copy) (defScope s_own_copy) .none kV20 dc20 pm20 an20 cd20 ct20), sl20⟩)
    (c_20 : PySem.W.codeIn K cd20 "own_copy" = true)
    (k_20 : PySem.W.keepIn K (.ref g20) = true)
    (a_21 : PySem.W.nsIn K mainGlobals "_law_bag" = some (some (.ref g21)))
    (l_21 : K.lookup g21 = some ⟨oc21, od21, .func (PySem.W.fnOf "_law_bag" "_law_bag" (defArgs s_law_bag) (defBody s_law_bag) (defScope s_law_bag) .none kV21 dc21 pm21 an21 cd21 ct21), sl21⟩)
    (c_21 : PySem.W.codeIn K cd21 "_law_bag" = true)
    (k_21 : PySem.W.keepIn K (.ref g21) = true)
    (a_22 : PySem.W.nsIn K mainGlobals "_law_take" = some (some (.ref g22)))
    (l_22 : K.lookup g22 = some ⟨oc22, od22, .func (PySem.W.fnOf "_law_take" "_law_take" (defArgs s_law_take) (defBody s_law_take) (defScope s_law_take) .none kV22 dc22 pm22 an22 cd22 ct22), sl22⟩)
    (c_22 : PySem.W.codeIn K cd22 "_law_take" = true)
    (k_22 : PySem.W.keepIn K (.ref g22) = true)
    (a_23 : PySem.W.nsIn K mainGlobals "_law_of" = some (some (.ref g23)))
    (l_23 : K.lookup g23 = some ⟨oc23, od23, .func (PySem.W.fnOf "_law_of" "_law_of" (defArgs s_law_of) (defBody s_law_of) (defScope s_law_of) .none kV23 dc23 pm23 an23 cd23 ct23), sl23⟩)
    (c_23 : PySem.W.codeIn K cd23 "_law_of" = true)
    (k_23 : PySem.W.keepIn K (.ref g23) = true)
    (a_24 : PySem.W.nsIn K mainGlobals "_law_thing" = some (some (.ref g24)))
    (l_24 : K.lookup g24 = some ⟨oc24, od24, .func (PySem.W.fnOf "_law_thing" "_law_thing" (defArgs s_law_thing) (defBody s_law_thing) (defScope s_law_thing) .none kV24 dc24 pm24 an24 cd24 ct24), sl24⟩)
    (c_24 : PySem.W.codeIn K cd24 "_law_thing" = true)
    (k_24 : PySem.W.keepIn K (.ref g24) = true)
    (a_25 : PySem.W.nsIn K mainGlobals "_law_letters" = some (some (.ref g25)))
    (l_25 : K.lookup g25 = some ⟨oc25, od25, .func (PySem.W.fnOf "_law_letters" "_law_letters" (defArgs s_law_letters) (defBody s_law_letters) (defScope s_law_letters) .none kV25 dc25 pm25 an25 cd25 ct25), sl25⟩)
    (c_25 : PySem.W.codeIn K cd25 "_law_letters" = true)
    (k_25 : PySem.W.keepIn K (.ref g25) = true)
    (a_26 : PySem.W.nsIn K mainGlobals "_law_errors" = some (some (.ref g26)))
    (l_26 : K.lookup g26 = some ⟨oc26, od26, .func (PySem.W.fnOf "_law_errors" "_law_errors" (defArgs s_law_errors) (defBody s_law_errors) (defScope s_law_errors) .none kV26 dc26 pm26 an26 cd26 ct26), sl26⟩)
    (c_26 : PySem.W.codeIn K cd26 "_law_errors" = true)
    (k_26 : PySem.W.keepIn K (.ref g26) = true)
    (a_27 : PySem.W.nsIn K mainGlobals "_law_kinds" = some (some (.ref g27)))
    (l_27 : K.lookup g27 = some ⟨oc27, od27, .func (PySem.W.fnOf "_law_kinds" "_law_kinds" (defArgs s_law_kinds) (defBody s_law_kinds) (defScope s_law_kinds) .none kV27 dc27 pm27 an27 cd27 ct27), sl27⟩)
    (c_27 : PySem.W.codeIn K cd27 "_law_kinds" = true)
    (k_27 : PySem.W.keepIn K (.ref g27) = true)
    (a_28 : PySem.W.nsIn K mainGlobals "_law_field" = some (some (.ref g28)))
    (l_28 : K.lookup g28 = some ⟨oc28, od28, .func (PySem.W.fnOf "_law_field" "_law_field" (defArgs s_law_field) (defBody s_law_field) (defScope s_law_field) .none kV28 dc28 pm28 an28 cd28 ct28), sl28⟩)
    (c_28 : PySem.W.codeIn K cd28 "_law_field" = true)
    (k_28 : PySem.W.keepIn K (.ref g28) = true)
    (a_29 : PySem.W.nsIn K mainGlobals "_law_is" = some (some (.ref g29)))
    (l_29 : K.lookup g29 = some ⟨oc29, od29, .func (PySem.W.fnOf "_law_is" "_law_is" (defArgs s_law_is) (defBody s_law_is) (defScope s_law_is) .none kV29 dc29 pm29 an29 cd29 ct29), sl29⟩)
    (c_29 : PySem.W.codeIn K cd29 "_law_is" = true)
    (k_29 : PySem.W.keepIn K (.ref g29) = true)
    (a_30 : PySem.W.nsIn K mainGlobals "_law_under" = some (some (.ref g30)))
    (l_30 : K.lookup g30 = some ⟨oc30, od30, .func (PySem.W.fnOf "_law_under" "_law_under" (defArgs s_law_under) (defBody s_law_under) (defScope s_law_under) .none kV30 dc30 pm30 an30 cd30 ct30), sl30⟩)
    (c_30 : PySem.W.codeIn K cd30 "_law_under" = true)
    (k_30 : PySem.W.keepIn K (.ref g30) = true)
    (a_31 : PySem.W.nsIn K mainGlobals "_law_last_right" = some (some (.ref g31)))
    (l_31 : K.lookup g31 = some ⟨oc31, od31, .func (PySem.W.fnOf "_law_last_right" "_law_last_right" (defArgs s_law_last_right) (defBody s_law_last_right) (defScope s_law_last_right) .none kV31 dc31 pm31 an31 cd31 ct31), sl31⟩)
    (c_31 : PySem.W.codeIn K cd31 "_law_last_right" = true)
    (k_31 : PySem.W.keepIn K (.ref g31) = true)
    (a_32 : PySem.W.nsIn K mainGlobals "law" = some (some (.ref g32)))
    (l_32 : K.lookup g32 = some ⟨oc32, od32, .func (PySem.W.fnOf "law" "law" (defArgs s_law) (defBody s_law) (defScope s_law) .none kV32 dc32 pm32 an32 cd32 ct32), sl32⟩)
    (c_32 : PySem.W.codeIn K cd32 "law" = true)
    (k_32 : PySem.W.keepIn K (.ref g32) = true)
    (z_isinstance : PySem.W.nsIn K mainGlobals "isinstance" = some none)
    (z_list : PySem.W.nsIn K mainGlobals "list" = some none)
    (z_tuple : PySem.W.nsIn K mainGlobals "tuple" = some none)
    (z_int : PySem.W.nsIn K mainGlobals "int" = some none)
    (z_str : PySem.W.nsIn K mainGlobals "str" = some none)
    (z_bool : PySem.W.nsIn K mainGlobals "bool" = some none)
    (z_len : PySem.W.nsIn K mainGlobals "len" = some none)
    (z_abs : PySem.W.nsIn K mainGlobals "abs" = some none)
    (z_max : PySem.W.nsIn K mainGlobals "max" = some none)
    (z_min : PySem.W.nsIn K mainGlobals "min" = some none)
    (z_range : PySem.W.nsIn K mainGlobals "range" = some none)
    (z_enumerate : PySem.W.nsIn K mainGlobals "enumerate" = some none)
    (z_ValueError : PySem.W.nsIn K mainGlobals "ValueError" = some none)
    (z_LookupError : PySem.W.nsIn K mainGlobals "LookupError" = some none)
    (z_KeyError : PySem.W.nsIn K mainGlobals "KeyError" = some none)
    (z_IndexError : PySem.W.nsIn K mainGlobals "IndexError" = some none)
    (aH : PySem.W.nsIn K mainGlobals "HeirsbackError" = some (some (.ref CH)))
    (dH : PySem.W.clsIn K CH = some dH0)
    (tH : PySem.W.typeIn K (.ref CH) = some (.type "type"))
    (hn : PySem.W.specialIn K (.builtin "object.__class__") "__get__" = some (some (.builtin "getset_descriptor.__get__")))
    (ht : PySem.W.takesIn K (.builtin "object.__class__") = some true)
    (okk : okAll CH [C0, C1, C2, C3, C4, C5, C6, C7, C8, C9, C10, C11, C12, C13, C14] [d0, d1, d2, d3, d4, d5, d6, d7, d8, d9, d10, d11, d12, d13, d14] = true)
    : ∃ fd : FuncData, (∀ (s : Shared) (v : Value), BindsTo s fd ⟨[v], []⟩ [("script", v)]) ∧ ∀ base : Heap, K.In base → base.Ns mainGlobals mg → FnOk l.prog w K mg base CX0 6 fa fd ["script"] (spLaw K) := by
  have e := hfa.symm.trans (PySem.W.mg_of X G a_32)
  cases e
  have T : Txt K mg := ⟨PySem.W.mg_none_of X G z_isinstance, PySem.W.mg_none_of X G z_list, PySem.W.mg_none_of X G z_tuple, PySem.W.mg_none_of X G z_int, PySem.W.mg_none_of X G z_str, PySem.W.mg_none_of X G z_bool, PySem.W.mg_none_of X G z_len, PySem.W.mg_none_of X G z_abs, PySem.W.mg_none_of X G z_max, PySem.W.mg_none_of X G z_min, PySem.W.mg_none_of X G z_range, PySem.W.mg_none_of X G z_enumerate, PySem.W.mg_none_of X G z_ValueError, PySem.W.mg_none_of X G z_LookupError, PySem.W.mg_none_of X G z_KeyError, PySem.W.mg_none_of X G z_IndexError⟩
  have F0 : CF K C0 g0 d0 veT "ValueError.__new__" := ⟨d_0, q1_0, q2_0, sa_0, hg_0, hk_0, ha_0, kC_0, tC_0, iC_0, fF_0⟩
  have F1 : CF K C1 g1 d1 veT "ValueError.__new__" := ⟨d_1, q1_1, q2_1, sa_1, hg_1, hk_1, ha_1, kC_1, tC_1, iC_1, fF_1⟩
  have F2 : CF K C2 g2 d2 veT "ValueError.__new__" := ⟨d_2, q1_2, q2_2, sa_2, hg_2, hk_2, ha_2, kC_2, tC_2, iC_2, fF_2⟩
  have F3 : CF K C3 g3 d3 veT "ValueError.__new__" := ⟨d_3, q1_3, q2_3, sa_3, hg_3, hk_3, ha_3, kC_3, tC_3, iC_3, fF_3⟩
  have F4 : CF K C4 g4 d4 veT "ValueError.__new__" := ⟨d_4, q1_4, q2_4, sa_4, hg_4, hk_4, ha_4, kC_4, tC_4, iC_4, fF_4⟩
  have F5 : CF K C5 g5 d5 veT "ValueError.__new__" := ⟨d_5, q1_5, q2_5, sa_5, hg_5, hk_5, ha_5, kC_5, tC_5, iC_5, fF_5⟩
  have F6 : CF K C6 g6 d6 veT "ValueError.__new__" := ⟨d_6, q1_6, q2_6, sa_6, hg_6, hk_6, ha_6, kC_6, tC_6, iC_6, fF_6⟩
  have F7 : CF K C7 g7 d7 veT "ValueError.__new__" := ⟨d_7, q1_7, q2_7, sa_7, hg_7, hk_7, ha_7, kC_7, tC_7, iC_7, fF_7⟩
  have F8 : CF K C8 g8 d8 veT "ValueError.__new__" := ⟨d_8, q1_8, q2_8, sa_8, hg_8, hk_8, ha_8, kC_8, tC_8, iC_8, fF_8⟩
  have F9 : CF K C9 g9 d9 veT "ValueError.__new__" := ⟨d_9, q1_9, q2_9, sa_9, hg_9, hk_9, ha_9, kC_9, tC_9, iC_9, fF_9⟩
  have F10 : CF K C10 g10 d10 veT "ValueError.__new__" := ⟨d_10, q1_10, q2_10, sa_10, hg_10, hk_10, ha_10, kC_10, tC_10, iC_10, fF_10⟩
  have F11 : CF K C11 g11 d11 leT "LookupError.__new__" := ⟨d_11, q1_11, q2_11, sa_11, hg_11, hk_11, ha_11, kC_11, tC_11, iC_11, fF_11⟩
  have F12 : CF K C12 g12 d12 leT "LookupError.__new__" := ⟨d_12, q1_12, q2_12, sa_12, hg_12, hk_12, ha_12, kC_12, tC_12, iC_12, fF_12⟩
  have F13 : CF K C13 g13 d13 leT "LookupError.__new__" := ⟨d_13, q1_13, q2_13, sa_13, hg_13, hk_13, ha_13, kC_13, tC_13, iC_13, fF_13⟩
  have F14 : CF K C14 g14 d14 leT "LookupError.__new__" := ⟨d_14, q1_14, q2_14, sa_14, hg_14, hk_14, ha_14, kC_14, tC_14, iC_14, fF_14⟩
  have ok1 := okk
  unfold okAll at ok1
  rw [Bool.and_eq_true, List.all_eq_true] at ok1
  have o0 : okCls CH [C0, C1, C2, C3, C4, C5, C6, C7, C8, C9, C10, C11, C12, C13, C14] 0 d0 = true := ok1.2 0 (by decide)
  have x0 : XCls K C0 := xcls_of F0 PySem.F.excBase_ValueError PySem.F.store_ValueError hn ht o0
  have o1 : okCls CH [C0, C1, C2, C3, C4, C5, C6, C7, C8, C9, C10, C11, C12, C13, C14] 1 d1 = true := ok1.2 1 (by decide)
  have x1 : XCls K C1 := xcls_of F1 PySem.F.excBase_ValueError PySem.F.store_ValueError hn ht o1
  have o2 : okCls CH [C0, C1, C2, C3, C4, C5, C6, C7, C8, C9, C10, C11, C12, C13, C14] 2 d2 = true := ok1.2 2 (by decide)
  have x2 : XCls K C2 := xcls_of F2 PySem.F.excBase_ValueError PySem.F.store_ValueError hn ht o2
  have o3 : okCls CH [C0, C1, C2, C3, C4, C5, C6, C7, C8, C9, C10, C11, C12, C13, C14] 3 d3 = true := ok1.2 3 (by decide)
  have x3 : XCls K C3 := xcls_of F3 PySem.F.excBase_ValueError PySem.F.store_ValueError hn ht o3
  have o4 : okCls CH [C0, C1, C2, C3, C4, C5, C6, C7, C8, C9, C10, C11, C12, C13, C14] 4 d4 = true := ok1.2 4 (by decide)
  have x4 : XCls K C4 := xcls_of F4 PySem.F.excBase_ValueError PySem.F.store_ValueError hn ht o4
  have o5 : okCls CH [C0, C1, C2, C3, C4, C5, C6, C7, C8, C9, C10, C11, C12, C13, C14] 5 d5 = true := ok1.2 5 (by decide)
  have x5 : XCls K C5 := xcls_of F5 PySem.F.excBase_ValueError PySem.F.store_ValueError hn ht o5
  have o6 : okCls CH [C0, C1, C2, C3, C4, C5, C6, C7, C8, C9, C10, C11, C12, C13, C14] 6 d6 = true := ok1.2 6 (by decide)
  have x6 : XCls K C6 := xcls_of F6 PySem.F.excBase_ValueError PySem.F.store_ValueError hn ht o6
  have o7 : okCls CH [C0, C1, C2, C3, C4, C5, C6, C7, C8, C9, C10, C11, C12, C13, C14] 7 d7 = true := ok1.2 7 (by decide)
  have x7 : XCls K C7 := xcls_of F7 PySem.F.excBase_ValueError PySem.F.store_ValueError hn ht o7
  have o8 : okCls CH [C0, C1, C2, C3, C4, C5, C6, C7, C8, C9, C10, C11, C12, C13, C14] 8 d8 = true := ok1.2 8 (by decide)
  have x8 : XCls K C8 := xcls_of F8 PySem.F.excBase_ValueError PySem.F.store_ValueError hn ht o8
  have o9 : okCls CH [C0, C1, C2, C3, C4, C5, C6, C7, C8, C9, C10, C11, C12, C13, C14] 9 d9 = true := ok1.2 9 (by decide)
  have x9 : XCls K C9 := xcls_of F9 PySem.F.excBase_ValueError PySem.F.store_ValueError hn ht o9
  have o10 : okCls CH [C0, C1, C2, C3, C4, C5, C6, C7, C8, C9, C10, C11, C12, C13, C14] 10 d10 = true := ok1.2 10 (by decide)
  have x10 : XCls K C10 := xcls_of F10 PySem.F.excBase_ValueError PySem.F.store_ValueError hn ht o10
  have o11 : okCls CH [C0, C1, C2, C3, C4, C5, C6, C7, C8, C9, C10, C11, C12, C13, C14] 11 d11 = true := ok1.2 11 (by decide)
  have x11 : XCls K C11 := xcls_of F11 PySem.F.excBase_LookupError PySem.F.store_LookupError hn ht o11
  have o12 : okCls CH [C0, C1, C2, C3, C4, C5, C6, C7, C8, C9, C10, C11, C12, C13, C14] 12 d12 = true := ok1.2 12 (by decide)
  have x12 : XCls K C12 := xcls_of F12 PySem.F.excBase_LookupError PySem.F.store_LookupError hn ht o12
  have o13 : okCls CH [C0, C1, C2, C3, C4, C5, C6, C7, C8, C9, C10, C11, C12, C13, C14] 13 d13 = true := ok1.2 13 (by decide)
  have x13 : XCls K C13 := xcls_of F13 PySem.F.excBase_LookupError PySem.F.store_LookupError hn ht o13
  have o14 : okCls CH [C0, C1, C2, C3, C4, C5, C6, C7, C8, C9, C10, C11, C12, C13, C14] 14 d14 = true := ok1.2 14 (by decide)
  have x14 : XCls K C14 := xcls_of F14 PySem.F.excBase_LookupError PySem.F.store_LookupError hn ht o14
  have KT : Kits K (fun i => ([C0, C1, C2, C3, C4, C5, C6, C7, C8, C9, C10, C11, C12, C13, C14] : List Addr).getD i 0) CH := by
    refine kits_of (ds := [d0, d1, d2, d3, d4, d5, d6, d7, d8, d9, d10, d11, d12, d13, d14]) (by rw [dH]; rfl) tH (fun i hi => ?_) (fun i hi => ?_) okk
    · match i, hi with
      | 0, _ => exact x0
      | 1, _ => exact x1
      | 2, _ => exact x2
      | 3, _ => exact x3
      | 4, _ => exact x4
      | 5, _ => exact x5
      | 6, _ => exact x6
      | 7, _ => exact x7
      | 8, _ => exact x8
      | 9, _ => exact x9
      | 10, _ => exact x10
      | 11, _ => exact x11
      | 12, _ => exact x12
      | 13, _ => exact x13
      | 14, _ => exact x14
      | i + 15, hi => omega
    · match i, hi with
      | 0, _ => exact ⟨_, rfl, d_0, tC_0⟩
      | 1, _ => exact ⟨_, rfl, d_1, tC_1⟩
      | 2, _ => exact ⟨_, rfl, d_2, tC_2⟩
      | 3, _ => exact ⟨_, rfl, d_3, tC_3⟩
      | 4, _ => exact ⟨_, rfl, d_4, tC_4⟩
      | 5, _ => exact ⟨_, rfl, d_5, tC_5⟩
      | 6, _ => exact ⟨_, rfl, d_6, tC_6⟩
      | 7, _ => exact ⟨_, rfl, d_7, tC_7⟩
      | 8, _ => exact ⟨_, rfl, d_8, tC_8⟩
      | 9, _ => exact ⟨_, rfl, d_9, tC_9⟩
      | 10, _ => exact ⟨_, rfl, d_10, tC_10⟩
      | 11, _ => exact ⟨_, rfl, d_11, tC_11⟩
      | 12, _ => exact ⟨_, rfl, d_12, tC_12⟩
      | 13, _ => exact ⟨_, rfl, d_13, tC_13⟩
      | 14, _ => exact ⟨_, rfl, d_14, tC_14⟩
      | i + 15, hi => omega
  have N : Names mg (fun i => ([C0, C1, C2, C3, C4, C5, C6, C7, C8, C9, C10, C11, C12, C13, C14] : List Addr).getD i 0) CH := ⟨PySem.W.mg_of X G aH, PySem.W.mg_of X G aC0, PySem.W.mg_of X G aC1, PySem.W.mg_of X G aC2, PySem.W.mg_of X G aC3, PySem.W.mg_of X G aC4, PySem.W.mg_of X G aC5, PySem.W.mg_of X G aC6, PySem.W.mg_of X G aC7, PySem.W.mg_of X G aC8, PySem.W.mg_of X G aC9, PySem.W.mg_of X G aC10, PySem.W.mg_of X G aC11, PySem.W.mg_of X G aC12, PySem.W.mg_of X G aC13, PySem.W.mg_of X G aC14⟩
  have A : Attrs K (fun i => ([C0, C1, C2, C3, C4, C5, C6, C7, C8, C9, C10, C11, C12, C13, C14] : List Addr).getD i 0) := ⟨nat_0, nat_1, nfield_2, nat_3, nword_4, nword_5, nmaker_6, nname_7, nsign_8, nwhat_9, nat_10, nname_11, nmany_11, nname_12, nfield_12, nname_13, nfield_13, nat_14, nreason_14⟩
  have U0 := fun_mk (st := s_BadLibrary___init__) l_0 c_0 k_0
  have U1 := fun_mk (st := s_BadWorld___init__) l_1 c_1 k_1
  have U2 := fun_mk (st := s_BadValue___init__) l_2 c_2 k_2
  have U3 := fun_mk (st := s_BadExpression___init__) l_3 c_3 k_3
  have U4 := fun_mk (st := s_BadFamily___init__) l_4 c_4 k_4
  have U5 := fun_mk (st := s_BadVirtue___init__) l_5 c_5 k_5
  have U6 := fun_mk (st := s_BadMaker___init__) l_6 c_6 k_6
  have U7 := fun_mk (st := s_NoClass___init__) l_7 c_7 k_7
  have U8 := fun_mk (st := s_NoSign___init__) l_8 c_8 k_8
  have U9 := fun_mk (st := s_TooMany___init__) l_9 c_9 k_9
  have U10 := fun_mk (st := s_Unlike___init__) l_10 c_10 k_10
  have U11 := fun_mk (st := s_Surplus___init__) l_11 c_11 k_11
  have U12 := fun_mk (st := s_Lacking___init__) l_12 c_12 k_12
  have U13 := fun_mk (st := s_Unknown___init__) l_13 c_13 k_13
  have U14 := fun_mk (st := s_Failed___init__) l_14 c_14 k_14
  have U20 := fun_mk (st := s_own_copy) l_20 c_20 k_20
  have U21 := fun_mk (st := s_law_bag) l_21 c_21 k_21
  have U22 := fun_mk (st := s_law_take) l_22 c_22 k_22
  have U23 := fun_mk (st := s_law_of) l_23 c_23 k_23
  have U24 := fun_mk (st := s_law_thing) l_24 c_24 k_24
  have U25 := fun_mk (st := s_law_letters) l_25 c_25 k_25
  have U26 := fun_mk (st := s_law_errors) l_26 c_26 k_26
  have U27 := fun_mk (st := s_law_kinds) l_27 c_27 k_27
  have U28 := fun_mk (st := s_law_field) l_28 c_28 k_28
  have U29 := fun_mk (st := s_law_is) l_29 c_29 k_29
  have U30 := fun_mk (st := s_law_under) l_30 c_30 k_30
  have U31 := fun_mk (st := s_law_last_right) l_31 c_31 k_31
  have U32 := fun_mk (st := s_law) l_32 c_32 k_32
  refine ⟨PySem.W.fnOf "law" "law" (defArgs s_law) (defBody s_law) (defScope s_law) .none kV32 dc32 pm32 an32 cd32 ct32, fun s v => .of_eq rfl, fun base _ _ => ?_⟩
  have O_own_copy1 : Ok l.prog w K mg base 1 "own_copy" ["thing"] spFlat := ⟨_, _, ok_copy0 U20 T, PySem.W.mg_of X G a_20, k_20, U20.binds (ps := ["thing"]) (fun _ _ _ _ _ _ us hl => match us, hl with | [_], _ => rfl)⟩
  have O_own_copy : Ok l.prog w K mg base 2 "own_copy" ["thing"] spCopy := ⟨_, _, ok_copy U20 T O_own_copy1, PySem.W.mg_of X G a_20, k_20, U20.binds (ps := ["thing"]) (fun _ _ _ _ _ _ us hl => match us, hl with | [_], _ => rfl)⟩
  have O_law_take : Ok l.prog w K mg base 1 "_law_take" ["bag", "many"] spTake := ⟨_, _, ok_take U22 T, PySem.W.mg_of X G a_22, k_22, U22.binds (ps := ["bag", "many"]) (fun _ _ _ _ _ _ us hl => match us, hl with | [_, _], _ => rfl)⟩
  have O_law_bag : Ok l.prog w K mg base 1 "_law_bag" ["script", "at"] (spBag K) := ⟨_, _, ok_bag U21 T, PySem.W.mg_of X G a_21, k_21, U21.binds (ps := ["script", "at"]) (fun _ _ _ _ _ _ us hl => match us, hl with | [_, _], _ => rfl)⟩
  have O_law_of : Ok l.prog w K mg base 2 "_law_of" ["bag", "some"] spOf := ⟨_, _, ok_of U23 T O_law_take, PySem.W.mg_of X G a_23, k_23, U23.binds (ps := ["bag", "some"]) (fun _ _ _ _ _ _ us hl => match us, hl with | [_, _], _ => rfl)⟩
  have O_law_thing : Ok l.prog w K mg base 3 "_law_thing" ["bag"] spThing := ⟨_, _, ok_thing U24 T O_law_take O_law_of, PySem.W.mg_of X G a_24, k_24, U24.binds (ps := ["bag"]) (fun _ _ _ _ _ _ us hl => match us, hl with | [_], _ => rfl)⟩
  have O_law_letters : Ok l.prog w K mg base 3 "_law_letters" ["bag"] spLetters := ⟨_, _, ok_letters U25 T O_law_take O_law_of, PySem.W.mg_of X G a_25, k_25, U25.binds (ps := ["bag"]) (fun _ _ _ _ _ _ us hl => match us, hl with | [_], _ => rfl)⟩
  have O_BadLibrary : OkC l.prog w K mg base 1 "BadLibrary" C0 ["self", "at"] (spI1 C0 "at") := ⟨x0, PySem.W.mg_of X G aC0, _, _, ok_BadLibrary U0 x0 nat_0, iC_0, fF_0, U0.binds (ps := ["self", "at"]) (fun _ _ _ _ _ _ us hl => match us, hl with | [_, _], _ => rfl)⟩
  have O_BadWorld : OkC l.prog w K mg base 1 "BadWorld" C1 ["self", "at"] (spI1 C1 "at") := ⟨x1, PySem.W.mg_of X G aC1, _, _, ok_BadWorld U1 x1 nat_1, iC_1, fF_1, U1.binds (ps := ["self", "at"]) (fun _ _ _ _ _ _ us hl => match us, hl with | [_, _], _ => rfl)⟩
  have O_BadValue : OkC l.prog w K mg base 1 "BadValue" C2 ["self", "field"] (spI1 C2 "field") := ⟨x2, PySem.W.mg_of X G aC2, _, _, ok_BadValue U2 x2 nfield_2, iC_2, fF_2, U2.binds (ps := ["self", "field"]) (fun _ _ _ _ _ _ us hl => match us, hl with | [_, _], _ => rfl)⟩
  have O_BadExpression : OkC l.prog w K mg base 1 "BadExpression" C3 ["self", "at"] (spI1 C3 "at") := ⟨x3, PySem.W.mg_of X G aC3, _, _, ok_BadExpression U3 x3 nat_3, iC_3, fF_3, U3.binds (ps := ["self", "at"]) (fun _ _ _ _ _ _ us hl => match us, hl with | [_, _], _ => rfl)⟩
  have O_BadFamily : OkC l.prog w K mg base 3 "BadFamily" C4 ["self", "word"] (spI1c C4 "word") := ⟨x4, PySem.W.mg_of X G aC4, _, _, ok_BadFamily U4 x4 nword_4 O_own_copy, iC_4, fF_4, U4.binds (ps := ["self", "word"]) (fun _ _ _ _ _ _ us hl => match us, hl with | [_, _], _ => rfl)⟩
  have O_BadVirtue : OkC l.prog w K mg base 3 "BadVirtue" C5 ["self", "word"] (spI1c C5 "word") := ⟨x5, PySem.W.mg_of X G aC5, _, _, ok_BadVirtue U5 x5 nword_5 O_own_copy, iC_5, fF_5, U5.binds (ps := ["self", "word"]) (fun _ _ _ _ _ _ us hl => match us, hl with | [_, _], _ => rfl)⟩
  have O_BadMaker : OkC l.prog w K mg base 3 "BadMaker" C6 ["self", "maker"] (spI1c C6 "maker") := ⟨x6, PySem.W.mg_of X G aC6, _, _, ok_BadMaker U6 x6 nmaker_6 O_own_copy, iC_6, fF_6, U6.binds (ps := ["self", "maker"]) (fun _ _ _ _ _ _ us hl => match us, hl with | [_, _], _ => rfl)⟩
  have O_NoClass : OkC l.prog w K mg base 3 "NoClass" C7 ["self", "name"] (spI1c C7 "name") := ⟨x7, PySem.W.mg_of X G aC7, _, _, ok_NoClass U7 x7 nname_7 O_own_copy, iC_7, fF_7, U7.binds (ps := ["self", "name"]) (fun _ _ _ _ _ _ us hl => match us, hl with | [_, _], _ => rfl)⟩
  have O_NoSign : OkC l.prog w K mg base 3 "NoSign" C8 ["self", "sign"] (spI1c C8 "sign") := ⟨x8, PySem.W.mg_of X G aC8, _, _, ok_NoSign U8 x8 nsign_8 O_own_copy, iC_8, fF_8, U8.binds (ps := ["self", "sign"]) (fun _ _ _ _ _ _ us hl => match us, hl with | [_, _], _ => rfl)⟩
  have O_TooMany : OkC l.prog w K mg base 1 "TooMany" C9 ["self", "what"] (spI1 C9 "what") := ⟨x9, PySem.W.mg_of X G aC9, _, _, ok_TooMany U9 x9 nwhat_9, iC_9, fF_9, U9.binds (ps := ["self", "what"]) (fun _ _ _ _ _ _ us hl => match us, hl with | [_, _], _ => rfl)⟩
  have O_Unlike : OkC l.prog w K mg base 1 "Unlike" C10 ["self", "at"] (spI1 C10 "at") := ⟨x10, PySem.W.mg_of X G aC10, _, _, ok_Unlike U10 x10 nat_10, iC_10, fF_10, U10.binds (ps := ["self", "at"]) (fun _ _ _ _ _ _ us hl => match us, hl with | [_, _], _ => rfl)⟩
  have O_Surplus : OkC l.prog w K mg base 1 "Surplus" C11 ["self", "name", "many"] (spI2 C11 "name" "many") := ⟨x11, PySem.W.mg_of X G aC11, _, _, ok_Surplus U11 x11 nname_11 nmany_11, iC_11, fF_11, U11.binds (ps := ["self", "name", "many"]) (fun _ _ _ _ _ _ us hl => match us, hl with | [_, _, _], _ => rfl)⟩
  have O_Lacking : OkC l.prog w K mg base 1 "Lacking" C12 ["self", "name", "field"] (spI2 C12 "name" "field") := ⟨x12, PySem.W.mg_of X G aC12, _, _, ok_Lacking U12 x12 nname_12 nfield_12, iC_12, fF_12, U12.binds (ps := ["self", "name", "field"]) (fun _ _ _ _ _ _ us hl => match us, hl with | [_, _, _], _ => rfl)⟩
  have O_Unknown : OkC l.prog w K mg base 1 "Unknown" C13 ["self", "name", "field"] (spI2 C13 "name" "field") := ⟨x13, PySem.W.mg_of X G aC13, _, _, ok_Unknown U13 x13 nname_13 nfield_13, iC_13, fF_13, U13.binds (ps := ["self", "name", "field"]) (fun _ _ _ _ _ _ us hl => match us, hl with | [_, _, _], _ => rfl)⟩
  have O_Failed : OkC l.prog w K mg base 1 "Failed" C14 ["self", "at", "reason"] (spI2 C14 "at" "reason") := ⟨x14, PySem.W.mg_of X G aC14, _, _, ok_Failed U14 x14 nat_14 nreason_14, iC_14, fF_14, U14.binds (ps := ["self", "at", "reason"]) (fun _ _ _ _ _ _ us hl => match us, hl with | [_, _, _], _ => rfl)⟩
  have O_law_errors : Ok l.prog w K mg base 5 "_law_errors" ["thing", "number", "one", "two"] (spErrors K (fun i => ([C0, C1, C2, C3, C4, C5, C6, C7, C8, C9, C10, C11, C12, C13, C14] : List Addr).getD i 0)) := ⟨_, _, ok_errors U26 T A O_BadLibrary O_BadWorld O_BadValue O_BadExpression O_BadFamily O_BadVirtue O_BadMaker O_NoClass O_NoSign O_TooMany O_Unlike O_Surplus O_Lacking O_Unknown O_Failed, PySem.W.mg_of X G a_26, k_26, U26.binds (ps := ["thing", "number", "one", "two"]) (fun _ _ _ _ _ _ us hl => match us, hl with | [_, _, _, _], _ => rfl)⟩
  have O_law_kinds : Ok l.prog w K mg base 1 "_law_kinds" ["one"] (spKinds K (fun i => ([C0, C1, C2, C3, C4, C5, C6, C7, C8, C9, C10, C11, C12, C13, C14] : List Addr).getD i 0)) := ⟨_, _, ok_kinds U27 T N, PySem.W.mg_of X G a_27, k_27, U27.binds (ps := ["one"]) (fun _ _ _ _ _ _ us hl => match us, hl with | [_], _ => rfl)⟩
  have O_law_field : Ok l.prog w K mg base 1 "_law_field" ["one", "word"] (spField K) := ⟨_, _, ok_field U28 T, PySem.W.mg_of X G a_28, k_28, U28.binds (ps := ["one", "word"]) (fun _ _ _ _ _ _ us hl => match us, hl with | [_, _], _ => rfl)⟩
  have O_law_is : Ok l.prog w K mg base 1 "_law_is" ["kept", "given"] spIs := ⟨_, _, ok_is U29 T, PySem.W.mg_of X G a_29, k_29, U29.binds (ps := ["kept", "given"]) (fun _ _ _ _ _ _ us hl => match us, hl with | [_, _], _ => rfl)⟩
  have O_law_under : Ok l.prog w K mg base 1 "_law_under" ["one"] (spUnder K CH) := ⟨_, _, ok_under U30 T N, PySem.W.mg_of X G a_30, k_30, U30.binds (ps := ["one"]) (fun _ _ _ _ _ _ us hl => match us, hl with | [_], _ => rfl)⟩
  have O_law_last_right : Ok l.prog w K mg base 1 "_law_last_right" ["last", "number", "one", "two"] (spLast (fun i => ([C0, C1, C2, C3, C4, C5, C6, C7, C8, C9, C10, C11, C12, C13, C14] : List Addr).getD i 0)) := ⟨_, _, ok_last U31 T A x11 x12 x13 x14, PySem.W.mg_of X G a_31, k_31, U31.binds (ps := ["last", "number", "one", "two"]) (fun _ _ _ _ _ _ us hl => match us, hl with | [_, _, _, _], _ => rfl)⟩
  exact ok_law U32 T KT A O_law_take O_law_bag O_law_thing O_law_letters O_law_errors O_law_is O_law_field O_law_under O_law_kinds O_law_last_right
theorem walk {l : PySem.W.OpenLaw} {q : Program} {loose : List Str} {XP : (Str → Option Value) → Heap → Prop} {YP : World → Heap → Prop} {d : DefRec} {K : Params → Fg} (hn : l.most = some 63) (hdf : d.params.defaults = [])
    (hY : ∀ (w : World) (h : Heap), YP w h → (K w.params).In h)
    (F : ∀ (w : World) (mg : Str → Option Value) (fa : Addr) (h : Heap), (K w.params).In h → h.Ns mainGlobals mg → mg d.name = some (.ref fa) →
      ∃ fd : FuncData, (∀ (s : Shared) (u : Value), BindsTo s fd ⟨[u], []⟩ [("script", u)]) ∧ ∀ base : Heap, (K w.params).In base → base.Ns mainGlobals mg → FnOk l.prog w (K w.params) mg base CX0 6 fa fd ["script"] (spLaw (K w.params))) :
    PySem.W.WalkO q loose XP YP l.row.toRowW d [] (fun f vs => PySem.call f vs) :=
  L2.walk_of (n := 63) (k := 6) (x := "script") (CX := fun _ => CX0) (sp := fun w => spLaw (K w.params)) hn (by decide) hdf ⟨rfl, by decide, by decide⟩ hY F
    (fun _ _ a ns hl _ hS => ⟨a, ns, rfl, hS, hl, fun _ => rfl⟩) fun _ _ _ _ _ z => z
end K90

open PySem PySem.W PyProof.Rows in
set_option maxRecDepth 100000 in
set_option maxHeartbeats 0 in
theorem PySem.Challenge.cw_heirsback_k90_errors_of_the_package_holds : PySem.Challenge.rw_heirsback_k90_errors_of_the_package.Holds := by
  w_on; o_law; k_head; (case hw => w_witness2)
  k_fill
  refine K90.walk (l := PySem.Challenge.rw_heirsback_k90_errors_of_the_package) rfl rfl (fun w h Y => PySem.W.kIn_of Y) ?F
  case F =>
    intro w mg fa h KX G hmg
    refine' K90.all_mk KX G hmg ?aC0 ?d_0 ?q1_0 ?q2_0 ?sa_0 ?hg_0 ?hk_0 ?ha_0 ?kC_0 ?tC_0 ?iC_0 ?fF_0 ?l_0 ?c_0 ?k_0 ?nat_0 ?aC1 ?d_1 ?q1_1 ?q2_1 ?sa_1 ?hg_1 ?hk_1 ?ha_1 ?kC_1 ?tC_1 ?iC_1 ?fF_1 ?l_1 ?c_1 ?k_1 ?nat_1 ?aC2 ?d_2 ?q1_2 ?q2_2 ?sa_2 ?hg_2 ?hk_2 ?ha_2 ?kC_2 ?tC_2 ?iC_2 ?fF_2 ?l_2 ?c_2 ?k_2 ?nfield_2 ?aC3 ?d_3 ?q1_3 ?q2_3 ?sa_3 ?hg_3 ?hk_3 ?ha_3 ?kC_3 ?tC_3 ?iC_3 ?fF_3 ?l_3 ?c_3 ?k_3 ?nat_3 ?aC4 ?d_4 ?q1_4 ?q2_4 ?sa_4 ?hg_4 ?hk_4 ?ha_4 ?kC_4 ?tC_4 ?iC_4 ?fF_4 ?l_4 ?c_4 ?k_4 ?nword_4 ?aC5 ?d_5 ?q1_5 ?q2_5 ?sa_5 ?hg_5 ?hk_5 ?ha_5 ?kC_5 ?tC_5 ?iC_5 ?fF_5 ?l_5 ?c_5 ?k_5 ?nword_5 ?aC6 ?d_6 ?q1_6 ?q2_6 ?sa_6 ?hg_6 ?hk_6 ?ha_6 ?kC_6 ?tC_6 ?iC_6 ?fF_6 ?l_6 ?c_6 ?k_6 ?nmaker_6 ?aC7 ?d_7 ?q1_7 ?q2_7 ?sa_7 ?hg_7 ?hk_7 ?ha_7 ?kC_7 ?tC_7 ?iC_7 ?fF_7 ?l_7 ?c_7 ?k_7 ?nname_7 ?aC8 ?d_8 ?q1_8 ?q2_8 ?sa_8 ?hg_8 ?hk_8 ?ha_8 ?kC_8 ?tC_8 ?iC_8 ?fF_8 ?l_8 ?c_8 ?k_8 ?nsign_8 ?aC9 ?d_9 ?q1_9 ?q2_9 ?sa_9 ?hg_9 ?hk_9 ?ha_9 ?kC_9 ?tC_9 ?iC_9 ?fF_9 ?l_9 ?c_9 ?k_9 ?nwhat_9 ?aC10 ?d_10 ?q1_10 ?q2_10 ?sa_10 ?hg_10 ?hk_10 ?ha_10 ?kC_10 ?tC_10 ?iC_10 ?fF_10 ?l_10 ?c_10 ?k_10 ?nat_10 ?aC11 ?d_11 ?q1_11 ?q2_11 ?sa_11 ?hg_11 ?hk_11 ?ha_11 ?kC_11 ?tC_11 ?iC_11 ?fF_11 ?l_11 ?c_11 ?k_11 ?nname_11 ?nmany_11 ?aC12 ?d_12 ?q1_12 ?q2_12 ?sa_12 ?hg_12 ?hk_12 ?ha_12 ?kC_12 ?tC_12 ?iC_12 ?fF_12 ?l_12 ?c_12 ?k_12 ?nname_12 ?nfield_12 ?aC13 ?d_13 ?q1_13 ?q2_13 ?sa_13 ?hg_13 ?hk_13 ?ha_13 ?kC_13 ?tC_13 ?iC_13 ?fF_13 ?l_13 ?c_13 ?k_13 ?nname_13 ?nfield_13 ?aC14 ?d_14 ?q1_14 ?q2_14 ?sa_14 ?hg_14 ?hk_14 ?ha_14 ?kC_14 ?tC_14 ?iC_14 ?fF_14 ?l_14 ?c_14 ?k_14 ?nat_14 ?nreason_14 ?a_20 ?l_20 ?c_20 ?k_20 ?a_21 ?l_21 ?c_21 ?k_21 ?a_22 ?l_22 ?c_22 ?k_22 ?a_23 ?l_23 ?c_23 ?k_23 ?a_24 ?l_24 ?c_24 ?k_24 ?a_25 ?l_25 ?c_25 ?k_25 ?a_26 ?l_26 ?c_26 ?k_26 ?a_27 ?l_27 ?c_27 ?k_27 ?a_28 ?l_28 ?c_28 ?k_28 ?a_29 ?l_29 ?c_29 ?k_29 ?a_30 ?l_30 ?c_30 ?k_30 ?a_31 ?l_31 ?c_31 ?k_31 ?a_32 ?l_32 ?c_32 ?k_32 ?z_isinstance ?z_list ?z_tuple ?z_int ?z_str ?z_bool ?z_len ?z_abs ?z_max ?z_min ?z_range ?z_enumerate ?z_ValueError ?z_LookupError ?z_KeyError ?z_IndexError ?aH ?dH ?tH ?hn ?ht ?okk
    (case aC0 => k_is)
    (case d_0 => k_is)
    (case q1_0 => kx_is)
    (case q2_0 => kx_is)
    (case sa_0 => k_is)
    (case hg_0 => k_is)
    (case hk_0 => k_is)
    (case ha_0 => k_is)
    (case kC_0 => k_is)
    (case tC_0 => k_is)
    (case iC_0 => k_is)
    (case fF_0 => k_is)
    (case l_0 => k_is)
    (case c_0 => k_is)
    (case k_0 => k_is)
    (case nat_0 => k_is)
    (case aC1 => k_is)
    (case d_1 => k_is)
    (case q1_1 => kx_is)
    (case q2_1 => kx_is)
    (case sa_1 => k_is)
    (case hg_1 => k_is)
    (case hk_1 => k_is)
    (case ha_1 => k_is)
    (case kC_1 => k_is)
    (case tC_1 => k_is)
    (case iC_1 => k_is)
    (case fF_1 => k_is)
    (case l_1 => k_is)
    (case c_1 => k_is)
    (case k_1 => k_is)
    (case nat_1 => k_is)
    (case aC2 => k_is)
    (case d_2 => k_is)
    (case q1_2 => kx_is)
    (case q2_2 => kx_is)
    (case sa_2 => k_is)
    (case hg_2 => k_is)
    (case hk_2 => k_is)
    (case ha_2 => k_is)
    (case kC_2 => k_is)
    (case tC_2 => k_is)
    (case iC_2 => k_is)
    (case fF_2 => k_is)
    (case l_2 => k_is)
    (case c_2 => k_is)
    (case k_2 => k_is)
    (case nfield_2 => k_is)
    (case aC3 => k_is)
    (case d_3 => k_is)
    (case q1_3 => kx_is)
    (case q2_3 => kx_is)
    (case sa_3 => k_is)
    (case hg_3 => k_is)
    (case hk_3 => k_is)
    (case ha_3 => k_is)
    (case kC_3 => k_is)
    (case tC_3 => k_is)
    (case iC_3 => k_is)
    (case fF_3 => k_is)
    (case l_3 => k_is)
    (case c_3 => k_is)
    (case k_3 => k_is)
    (case nat_3 => k_is)
    (case aC4 => k_is)
    (case d_4 => k_is)
    (case q1_4 => kx_is)
    (case q2_4 => kx_is)
    (case sa_4 => k_is)
    (case hg_4 => k_is)
    (case hk_4 => k_is)
    (case ha_4 => k_is)
    (case kC_4 => k_is)
    (case tC_4 => k_is)
    (case iC_4 => k_is)
    (case fF_4 => k_is)
    (case l_4 => k_is)
    (case c_4 => k_is)
    (case k_4 => k_is)
    (case nword_4 => k_is)
    (case aC5 => k_is)
    (case d_5 => k_is)
    (case q1_5 => kx_is)
    (case q2_5 => kx_is)
    (case sa_5 => k_is)
    (case hg_5 => k_is)
    (case hk_5 => k_is)
    (case ha_5 => k_is)
    (case kC_5 => k_is)
    (case tC_5 => k_is)
    (case iC_5 => k_is)
    (case fF_5 => k_is)
    (case l_5 => k_is)
    (case c_5 => k_is)
    (case k_5 => k_is)
    (case nword_5 => k_is)
    (case aC6 => k_is)
    (case d_6 => k_is)
    (case q1_6 => kx_is)
    (case q2_6 => kx_is)
    (case sa_6 => k_is)
    (case hg_6 => k_is)
    (case hk_6 => k_is)
    (case ha_6 => k_is)
    (case kC_6 => k_is)
    (case tC_6 => k_is)
    (case iC_6 => k_is)
    (case fF_6 => k_is)
    (case l_6 => k_is)
    (case c_6 => k_is)
    (case k_6 => k_is)
    (case nmaker_6 => k_is)
    (case aC7 => k_is)
    (case d_7 => k_is)
    (case q1_7 => kx_is)
    (case q2_7 => kx_is)
    (case sa_7 => k_is)
    (case hg_7 => k_is)
    (case hk_7 => k_is)
    (case ha_7 => k_is)
    (case kC_7 => k_is)
    (case tC_7 => k_is)
    (case iC_7 => k_is)
    (case fF_7 => k_is)
    (case l_7 => k_is)
    (case c_7 => k_is)
    (case k_7 => k_is)
    (case nname_7 => k_is)
    (case aC8 => k_is)
    (case d_8 => k_is)
    (case q1_8 => kx_is)
    (case q2_8 => kx_is)
    (case sa_8 => k_is)
    (case hg_8 => k_is)
    (case hk_8 => k_is)
    (case ha_8 => k_is)
    (case kC_8 => k_is)
    (case tC_8 => k_is)
    (case iC_8 => k_is)
    (case fF_8 => k_is)
    (case l_8 => k_is)
    (case c_8 => k_is)
    (case k_8 => k_is)
    (case nsign_8 => k_is)
    (case aC9 => k_is)
    (case d_9 => k_is)
    (case q1_9 => kx_is)
    (case q2_9 => kx_is)
    (case sa_9 => k_is)
    (case hg_9 => k_is)
    (case hk_9 => k_is)
    (case ha_9 => k_is)
    (case kC_9 => k_is)
    (case tC_9 => k_is)
    (case iC_9 => k_is)
    (case fF_9 => k_is)
    (case l_9 => k_is)
    (case c_9 => k_is)
    (case k_9 => k_is)
    (case nwhat_9 => k_is)
    (case aC10 => k_is)
    (case d_10 => k_is)
    (case q1_10 => kx_is)
    (case q2_10 => kx_is)
    (case sa_10 => k_is)
    (case hg_10 => k_is)
    (case hk_10 => k_is)
    (case ha_10 => k_is)
    (case kC_10 => k_is)
    (case tC_10 => k_is)
    (case iC_10 => k_is)
    (case fF_10 => k_is)
    (case l_10 => k_is)
    (case c_10 => k_is)
    (case k_10 => k_is)
    (case nat_10 => k_is)
    (case aC11 => k_is)
    (case d_11 => k_is)
    (case q1_11 => kx_is)
    (case q2_11 => kx_is)
    (case sa_11 => k_is)
    (case hg_11 => k_is)
    (case hk_11 => k_is)
    (case ha_11 => k_is)
    (case kC_11 => k_is)
    (case tC_11 => k_is)
    (case iC_11 => k_is)
    (case fF_11 => k_is)
    (case l_11 => k_is)
    (case c_11 => k_is)
    (case k_11 => k_is)
    (case nname_11 => k_is)
    (case nmany_11 => k_is)
    (case aC12 => k_is)
    (case d_12 => k_is)
    (case q1_12 => kx_is)
    (case q2_12 => kx_is)
    (case sa_12 => k_is)
    (case hg_12 => k_is)
    (case hk_12 => k_is)
    (case ha_12 => k_is)
    (case kC_12 => k_is)
    (case tC_12 => k_is)
    (case iC_12 => k_is)
    (case fF_12 => k_is)
    (case l_12 => k_is)
    (case c_12 => k_is)
    (case k_12 => k_is)
    (case nname_12 => k_is)
    (case nfield_12 => k_is)
    (case aC13 => k_is)
    (case d_13 => k_is)
    (case q1_13 => kx_is)
    (case q2_13 => kx_is)
    (case sa_13 => k_is)
    (case hg_13 => k_is)
    (case hk_13 => k_is)
    (case ha_13 => k_is)
    (case kC_13 => k_is)
    (case tC_13 => k_is)
    (case iC_13 => k_is)
    (case fF_13 => k_is)
    (case l_13 => k_is)
    (case c_13 => k_is)
    (case k_13 => k_is)
    (case nname_13 => k_is)
    (case nfield_13 => k_is)
    (case aC14 => k_is)
    (case d_14 => k_is)
    (case q1_14 => kx_is)
    (case q2_14 => kx_is)
    (case sa_14 => k_is)
    (case hg_14 => k_is)
    (case hk_14 => k_is)
    (case ha_14 => k_is)
    (case kC_14 => k_is)
    (case tC_14 => k_is)
    (case iC_14 => k_is)
    (case fF_14 => k_is)
    (case l_14 => k_is)
    (case c_14 => k_is)
    (case k_14 => k_is)
    (case nat_14 => k_is)
    (case nreason_14 => k_is)
    (case a_20 => k_is)
    (case l_20 => k_is)
    (case c_20 => k_is)
    (case k_20 => k_is)
    (case a_21 => k_is)
    (case l_21 => k_is)
    (case c_21 => k_is)
    (case k_21 => k_is)
    (case a_22 => k_is)
    (case l_22 => k_is)
    (case c_22 => k_is)
    (case k_22 => k_is)
    (case a_23 => k_is)
    (case l_23 => k_is)
    (case c_23 => k_is)
    (case k_23 => k_is)
    (case a_24 => k_is)
    (case l_24 => k_is)
    (case c_24 => k_is)
    (case k_24 => k_is)
    (case a_25 => k_is)
    (case l_25 => k_is)
    (case c_25 => k_is)
    (case k_25 => k_is)
    (case a_26 => k_is)
    (case l_26 => k_is)
    (case c_26 => k_is)
    (case k_26 => k_is)
    (case a_27 => k_is)
    (case l_27 => k_is)
    (case c_27 => k_is)
    (case k_27 => k_is)
    (case a_28 => k_is)
    (case l_28 => k_is)
    (case c_28 => k_is)
    (case k_28 => k_is)
    (case a_29 => k_is)
    (case l_29 => k_is)
    (case c_29 => k_is)
    (case k_29 => k_is)
    (case a_30 => k_is)
    (case l_30 => k_is)
    (case c_30 => k_is)
    (case k_30 => k_is)
    (case a_31 => k_is)
    (case l_31 => k_is)
    (case c_31 => k_is)
    (case k_31 => k_is)
    (case a_32 => k_is)
    (case l_32 => k_is)
    (case c_32 => k_is)
    (case k_32 => k_is)
    (case z_isinstance => k_is)
    (case z_list => k_is)
    (case z_tuple => k_is)
    (case z_int => k_is)
    (case z_str => k_is)
    (case z_bool => k_is)
    (case z_len => k_is)
    (case z_abs => k_is)
    (case z_max => k_is)
    (case z_min => k_is)
    (case z_range => k_is)
    (case z_enumerate => k_is)
    (case z_ValueError => k_is)
    (case z_LookupError => k_is)
    (case z_KeyError => k_is)
    (case z_IndexError => k_is)
    (case aH => k_is)
    (case dH => k_is)
    (case tH => k_is)
    (case hn => k_is)
    (case ht => k_is)
    (case okk => decide +kernel)
#print axioms PySem.Challenge.cw_heirsback_k90_errors_of_the_package_holds
