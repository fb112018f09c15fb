import PyProof.Rows.All
import Wide.All
import OpenK.AllK
import Wide.FinOn
import KE.KExcInit
import KE.KExcIs
import PyProof.ListStr
import PyProof.FitsInt
import HandS.ExcInit
import HandS.ExcField
import HandS.ExcIs
import HandS.IsInst
import HandS.Words
import HandS.WordsList
import HandS.Wide
import HandS.Comp
import HandS.Text
import HandS.Iter
import HandS.Walk
import KE.KCallOwn
import OpenK.KMeth
import OpenK.KOps
import HandS.Exc
import HandS.ExcOwn
import HandS.WordsExc
import HandS.ClsMeth
import HandS.More
import HandS.Property
import HandS.FStr
import HandS.DictComp
import HandS.TryOnly
import HandS.List
import PySem.Challenge.RW_heirsback_k03_whole_libraries_in_any_ord
import HandS.Star
import HandS.OwnEq
import HandS.Defaults
import HandS.AnyAll
import HandS.Style
import HandS.RaiseMore
import KE.KExcLine
set_option Elab.async false
set_option linter.all false
set_option maxRecDepth 100000
set_option maxHeartbeats 8000000
/-! own exceptions held as values: made by their own __init__, their fields stored and read, isinstance -/
namespace EV
open PySem PySem.Spec PyProof.Rows L2 PySem.Builtin PySem.Builtin.ObjectAttr
abbrev Fg := PySem.W.Frag
/-- what the text says of an own exception class at C -/
structure XCls (K : Fg) (C : Addr) : Prop where
  base : ∃ (B nI iI : String) (bmB : List Value), ExcBaseFacts B nI iI bmB ∧ StoreFacts B bmB "object.__setattr__" "object" ∧
    PySem.W.excInitIn K C bmB nI = true ∧ PySem.W.excOver K C bmB = true
  sa : PySem.W.findIn K (.ref C) "__setattr__" = some (some (.builtin "object.__setattr__"))
  ex : ExcC K C
  kC : PySem.W.keepIn K (.ref C) = true
section
variable {X : Cx} {pins : List (Addr × Obj)} {σ : L2.St} {H : Hp} {s : Shared} {a C dx : Addr} {f : Str} {y : V} {u : Value}
variable {fs : List (Str × V)} {Q : Unit → Shared → Prop} {E : Value → Shared → Prop} {A : Around}

/-- the first field -/
theorem put_first (T : XCls X.K C) (I : Inv X pins σ H s) (e : H a = some (exo a C none)) (no : NoAttr X.K C f) (ry : RelV y u)
    (h : ∀ dx s', H dx = none → dx ≠ a → Inv X pins σ (upd (upd H dx (exd dx [(f, y)])) a (exo a C (some dx))) s' → Q () s') :
    wpAny (model X.prog X.w) A (setAttr (.ref a) f u) Q E s := by
  obtain ⟨B, nI, iI, bmB, FB, SF, q1, q2⟩ := T.base
  obtain ⟨t1, ho⟩ := exo_at I.hok e
  obtain ⟨hp, g, d, t, os⟩ := s
  have J : PySem.W.InstAt hp a { cls := .ref C, dict := none, data := .fields #[.ref t1, .none, .none, .none, .bool false, .none] } C none :=
    ⟨ho, rfl, rfl, trivial⟩
  refine PySem.W.set_plain I.kIn J T.sa ?_
  refine PySem.W.osa_openX (s := ⟨hp, g, d, t + 1, os⟩) (r := none) SF I.kIn J q2 no.taker fun b => ?_
  show wpAny _ _ (storeInOwnDict (.ref a) (.ref C) (.str f t) f u b) _ _ _
  obtain ⟨cd, hc, hh⟩ := PySem.W.any_some T.ex.hd
  have hcls : PySem.W.Looks (model X.prog X.w) hp (classData C) cd := PySem.W.looks_clsIn I.kIn hc
  have hxs : a ≠ hp.objs.size := Nat.ne_of_lt (Heap.lt_size ho)
  obtain ⟨nm, bs, mro, ns, qn, hd, sn, sb, ab, col, del⟩ := cd
  dsimp only at hh
  subst hh
  unfold storeInOwnDict ownDictForStores
  repeat (first
    | with_reducible refine PySem.HandSPX.store_in_new ?_ ?_
    | with_reducible refine wpAny_loadPart_at ho ?_
    | with_reducible refine hcls.at ?_
    | wp_step)
  · exact ⟨_, #[], _, (Heap.get?_update_ne _ _ _ _ hxs.symm).trans (Heap.get?_push_at rfl rfl), rfl, fun z hz => absurd hz (by simp), fun _ => rfl⟩
  · intro h' tk' hn hs
    have en : H hp.objs.size = none := I.hok.fresh (Nat.le_refl _)
    have g1 : (hp.push { cls := .type "dict", data := .dict #[] }).get? hp.objs.size = some { cls := .type "dict", data := .dict #[] } :=
      Heap.get?_push_size hp rfl
    have e3 : (hp.push { cls := .type "dict", data := .dict #[] }).Ns hp.objs.size (fun _ => none) :=
      ⟨_, #[], _, g1, rfl, fun z hz => absurd hz (by simp), fun _ => rfl⟩
    have I1 := I.laid (a := hp.objs.size) (o := exd hp.objs.size []) (t' := tk') (h' := hp.push { cls := .type "dict", data := .dict #[] })
      (fun b o q => Heap.get?_push_of_some _ q) (Nat.le_refl _) (exd_ok (fs := []) (Heap.Ns1.of_empty e3) fun _ => True.intro)
    have g2 := Heap.get?_push_of_some (h := hp) { cls := .type "dict", data := .dict #[] } ho
    have ga := Heap.get?_update_self (fun o : Obj => { cls := o.cls, dict := some hp.objs.size, data := o.data, slots := o.slots }) g2 rfl
    have I2 := I1.write (x := a) (e := a) (o := exo a C (some hp.objs.size)) (t' := tk')
      (h' := (hp.push { cls := .type "dict", data := .dict #[] }).update a fun o => { cls := o.cls, dict := some hp.objs.size, data := o.data, slots := o.slots })
      (by rw [upd_ne hxs, e]; exact True.intro) (.inl rfl) (fun b o hb q => (Heap.get?_update_ne _ _ _ _ hb).trans q) ⟨_, ga⟩ (exo_ok ga)
    have I3 := I2.write (x := hp.objs.size) (e := hp.objs.size) (o := exd hp.objs.size [(f, y)]) (t' := tk') (h' := h')
      (by rw [upd_ne hxs.symm, upd_same]; exact True.intro) (.inl rfl) (fun b o hb q => (hs.2 b hb).trans q)
      (let ⟨o, _, _, z, _⟩ := hn; ⟨o, z⟩) (exd_ok hn (relO_put (fs := []) ry fun _ => True.intro))
    have eu : upd (upd (upd H hp.objs.size (exd hp.objs.size [])) a (exo a C (some hp.objs.size))) hp.objs.size (exd hp.objs.size [(f, y)])
        = upd (upd H hp.objs.size (exd hp.objs.size [(f, y)])) a (exo a C (some hp.objs.size)) := by
      funext b
      unfold upd
      by_cases h1 : b = a
      · subst h1
        rw [if_neg hxs, if_pos rfl, if_pos rfl]
      · by_cases h2 : b = hp.objs.size
        · rw [if_pos h2, if_neg h1, if_pos h2]
        · rw [if_neg h2, if_neg h1, if_neg h2, if_neg h1, if_neg h2]
    rw [eu] at I3
    exact h hp.objs.size _ en hxs.symm I3
/-- a further field -/
theorem put_more (T : XCls X.K C) (I : Inv X pins σ H s) (e : H a = some (exo a C (some dx))) (ed : H dx = some (exd dx fs)) (hl : fs.length ≤ 900)
    (no : NoAttr X.K C f) (ry : RelV y u) (h : ∀ s', Inv X pins σ (upd H dx (exd dx ((f, y) :: fs))) s' → Q () s') :
    wpAny (model X.prog X.w) A (setAttr (.ref a) f u) Q E s := by
  obtain ⟨B, nI, iI, bmB, FB, SF, q1, q2⟩ := T.base
  obtain ⟨t1, ho⟩ := exo_at I.hok e
  obtain ⟨mA, hns, rel⟩ := exd_at I.hok ed
  have hw := within_of rel
  obtain ⟨hp, g, d, t, os⟩ := s
  obtain ⟨oD, esD, epD, hoD, hdD, _⟩ := hns.count hw
  have J : PySem.W.InstAt hp a { cls := .ref C, dict := some dx, data := .fields #[.ref t1, .none, .none, .none, .bool false, .none] } C (some oD) :=
    ⟨ho, rfl, rfl, hoD⟩
  refine PySem.W.set_plain I.kIn J T.sa ?_
  refine PySem.W.osa_openX (s := ⟨hp, g, d, t + 1, os⟩) (r := none) SF I.kIn J q2 no.taker fun b => ?_
  show wpAny _ _ (storeInOwnDict (.ref a) (.ref C) (.str f t) f u b) _ _ _
  obtain ⟨cd, hc, hh⟩ := PySem.W.any_some T.ex.hd
  have hcls : PySem.W.Looks (model X.prog X.w) hp (classData C) cd := PySem.W.looks_clsIn I.kIn hc
  obtain ⟨nm, bs, mro, ns, qn, hd, sn, sb, ab, col, del⟩ := cd
  dsimp only at hh
  subst hh
  unfold storeInOwnDict ownDictForStores
  repeat (first
    | with_reducible refine PySem.OEX.store_in_old hns hw ?_ ?_
    | with_reducible refine wpAny_loadPart_at ho ?_
    | with_reducible refine hcls.at ?_
    | wp_step)
  · rw [List.length_map]; omega
  · intro h' tk' hn hs
    have hd : ∃ o, h'.get? dx = some o := by
      obtain ⟨o, _, _, z, _⟩ := hn
      exact ⟨o, z⟩
    exact h _ (I.write (t' := tk') (x := dx) (e := dx) (o := exd dx ((f, y) :: fs)) (by rw [ed]; exact True.intro) (.inl rfl)
      (fun b o hb q => (hs.2 b hb).trans q) hd (exd_ok hn (relO_put ry rel)))
end
/-! ### the statement self.f = e -/
/-- the error at a is of the class at C, its fields are fs -/
def ErrAt (H : Hp) (a C : Addr) (fs : List (Str × V)) : Prop := ∃ d, H a = some (exo a C (some d)) ∧ H d = some (exd d fs)
section
variable {X : Cx} {o e : Expr} {es : List Expr} {to te : TE} {ta : TA} {f : Str} {p p' pos : Pos} {C : Addr}
def tPut1 (K : Fg) (f : Str) (to te : TE) : TS := fun D σ H => te σ H fun y H1 => to σ H1 fun x H2 => ∃ a C : Addr, x = .ref a ∧ XCls K C ∧ NoAttr K C f ∧
  H2 a = some (exo a C none) ∧ ∀ dx, H2 dx = none → dx ≠ a → D.nx σ (upd (upd H2 dx (exd dx [(f, y)])) a (exo a C (some dx)))
def tPut2 (K : Fg) (f : Str) (to te : TE) : TS := fun D σ H => te σ H fun y H1 => to σ H1 fun x H2 => ∃ (a C dx : Addr) (fs : List (Str × V)), x = .ref a ∧ XCls K C ∧ NoAttr K C f ∧
  H2 a = some (exo a C (some dx)) ∧ H2 dx = some (exd dx fs) ∧ fs.length ≤ 900 ∧ D.nx σ (upd H2 dx (exd dx ((f, y) :: fs)))
theorem ps_put1 (ho : PE X o to) (he : PE X e te) (hs : swapsWith e (some (.Attribute o f p')) pos.line X.env = pure false := by rfl) :
    PS X (.Assign [.Attribute o f p'] e pos) (tPut1 X.K f to te) := by
  refine ⟨fun pins s σ H D I h => ?_⟩
  refine plainObj_wpAny_Assign_Attribute (thn (he.run pins s σ H _ I h) fun v s1 hv => ?_) hs
  obtain ⟨y, H1, I1, r1, q1⟩ := hv
  refine thn (ho.run pins s1 σ H1 _ I1 q1) fun u s2 hu => ?_
  obtain ⟨x, H2, I2, r2, a, C, ex, T, no, ea, q⟩ := hu
  subst ex
  obtain rfl : u = Value.ref a := r2
  exact put_first T I2 ea no r1 fun dx s' n ne J => ⟨σ, _, J, q dx n ne⟩
theorem ps_put2 (ho : PE X o to) (he : PE X e te) (hs : swapsWith e (some (.Attribute o f p')) pos.line X.env = pure false := by rfl) :
    PS X (.Assign [.Attribute o f p'] e pos) (tPut2 X.K f to te) := by
  refine ⟨fun pins s σ H D I h => ?_⟩
  refine plainObj_wpAny_Assign_Attribute (thn (he.run pins s σ H _ I h) fun v s1 hv => ?_) hs
  obtain ⟨y, H1, I1, r1, q1⟩ := hv
  refine thn (ho.run pins s1 σ H1 _ I1 q1) fun u s2 hu => ?_
  obtain ⟨x, H2, I2, r2, a, C, dx, fs, ex, T, no, ea, ed, hl, q⟩ := hu
  subst ex
  obtain rfl : u = Value.ref a := r2
  exact put_more T I2 ea ed hl no r1 fun s' J => ⟨σ, _, J, q⟩
/-! ### C(e, ..), a new error as a value -/
def tNew (C : Addr) (sp : Sp) (dvs : List V) (ta : TA) : TE := fun σ H Q => ta σ H fun vs H1 => vs.length ≤ 1000 ∧ ∀ a, H1 a = none →
  sp (.ref a :: (vs ++ dvs)) (upd H1 a (exo a C none)) (fun v H2 => v = .non ∧ Q (.ref a) H2) (fun _ _ _ => False)
theorem pe_new {CX : CXT} {x : Str} {fI : Addr} {k : Nat} {fd : FuncData} {ps : List Str} {sp : Sp} {ds : List Value} {dvs : List V} (T : XCls X.K C)
    (iC : PySem.W.findIn X.K (.ref C) "__init__" = some (some (.ref fI))) (tI : PySem.W.isFn X.K (.ref fI) = true)
    (F1 : FnOk X.prog X.w X.K X.mg X.base CX k fI fd ps sp) (hr : Room (k + 1) X.A) (hb : Binds X.K fd ps ds) (hd : Vals dvs ds)
    (hx : Passes CX X (fun _ _ _ => False)) (hg : Gl X x) (hm : X.mg x = some (.ref C)) (ha : PA X (e :: es) ta)
    (hdb : (x == ("__debug__" : Str)) = false := by decide) (he : starEach (e :: es) X.env = (false, eval e X.env) :: starEach es X.env := by rfl)
    (hpl : (backTo pos (starEach es X.env)).any (·.1) = false := by rfl) :
    PE X (.Call (.Name x p) (e :: es) [] pos) (tNew C sp dvs ta) := by
  refine ⟨fun pins s σ H Q I h => ?_⟩
  obtain ⟨B, nI, iI, bmB, FB, SF, q1, q2⟩ := T.base
  refine wpAny_Call_Name_kw (ld_glob I hg hm ?_ hdb)
  refine PySem.W.callWith_K (h₀ := X.base) I.ok.mod.kin T.kC (thn (ha.run pos pins s σ H _ I h) fun us s1 hu => ?_) he hpl
  obtain ⟨vs, H1, I1, r1, hz, q⟩ := hu
  refine ⟨I1.kIn, ?_⟩
  show wpAny _ _ (call (.ref C) us) _ _ _
  obtain ⟨nm, N', qn, bs, bm, hdct, sn, sub, ab, col, dd, k0, k1, k2, k3, k5, hC, hT⟩ := PySem.W.excInit_of I1.kIn q1
  obtain ⟨oI, hoI, hcI⟩ : ∃ oI, s1.heap.get? fI = some oI ∧ oI.cls = .type "function" := by
    obtain ⟨o, z1, z2⟩ := Option.map_eq_some_iff.mp (show (X.K.lookup fI).map (·.cls) = some (.type "function") from beq_iff_eq.mp tI)
    exact ⟨o, I1.kIn _ _ z1, z2⟩
  obtain ⟨hp, g, dr, tk, os⟩ := s1
  have hsz : hp.objs.size ≤ hp.objs.size + 1 := Nat.le_succ _
  have hn : H1 (hp.objs.size + 1) = none := I1.hok.fresh hsz
  have hq := q (hp.objs.size + 1) hn
  have kk : ∀ b o, hp.get? b = some o → ((hp.push (PySem.W.kdv_tup us)).push (PySem.HandSPX.excO C hp.objs.size)).get? b = some o :=
    fun b o z => Heap.get?_push_of_some _ (Heap.get?_push_of_some _ z)
  have hget : ((hp.push (PySem.W.kdv_tup us)).push (PySem.HandSPX.excO C hp.objs.size)).get? (hp.objs.size + 1) = some (PySem.HandSPX.excO C hp.objs.size) := by heap_get
  have I2 := I1.laid (t' := tk) (a := hp.objs.size + 1) (o := exo (hp.objs.size + 1) C none)
    (h' := (hp.push (PySem.W.kdv_tup us)).push (PySem.HandSPX.excO C hp.objs.size)) kk hsz (exo_ok hget)
  have r2 : Vals (V.ref (hp.objs.size + 1) :: (vs ++ dvs)) (Value.ref (hp.objs.size + 1) :: (us ++ ds)) := .cons rfl (r1.append hd)
  have hl : (Value.ref (hp.objs.size + 1) :: us ++ ds).length = ps.length := by
    have z := r2.length
    rw [F1.len _ _ _ _ hq] at z
    exact z.symm
  have hus : us.length ≤ sizeLine := by
    rw [← Paired.length r1, sizeLine_eq]
    omega
  refine wpAny_call (PySem.HandSPX.call_own FB hT hC (PySem.W.looks_findIn I1.kIn iC) (fun self => PySem.W.exc_bind hoI hcI self) hus
    (codeAny_mono (F1.run _ X.stack _ _ ⟨Value.ref (hp.objs.size + 1) :: us, []⟩ (Value.ref (hp.objs.size + 1) :: (us ++ ds)) _ _ (fun _ _ _ => False)
      (hr.make C us []) (I2.env0.make C us []) (hb _ (Value.ref (hp.objs.size + 1) :: us) I2.kIn hl) r2 hq) fun r s' hq' => ?_))
  cases r with
  | error er => exact hx pins σ _ _ er s' I2 hq'
  | ok fl =>
    cases fl with
    | ret u =>
      obtain ⟨v, H2, I3, rv, ev, q2⟩ := I2.after hq'
      subst ev
      exact ⟨rv, .ref (hp.objs.size + 1), H2, I3, rfl, q2⟩
    | next => exact False.elim hq'
    | brk => exact False.elim hq'
    | cont => exact False.elim hq'
/-! ### e.f of an error -/
def tGet (K : Fg) (te : TE) (f : Str) : TE := fun σ H Q => te σ H fun x H1 => ∃ (a C : Addr) (fs : List (Str × V)) (v : V), x = .ref a ∧ XCls K C ∧ NoAttr K C f ∧
  ErrAt H1 a C fs ∧ fs.lookup f = some v ∧ Q v H1
theorem pe_get {te : TE} (he : PE X e te) (hb : attributeBase e f X.env (eval e X.env) = eval e X.env := by rfl) :
    PE X (.Attribute e f pos) (tGet X.K te f) := by
  refine ⟨fun pins s σ H Q I h => ?_⟩
  refine attr_of hb (thn (he.run pins s σ H _ I h) fun u s1 hu => ?_)
  obtain ⟨x, H1, I1, rx, a, C, fs, v, ex, T, no, ⟨d, ea, ed⟩, l, q⟩ := hu
  subst ex
  obtain rfl : u = Value.ref a := rx
  obtain ⟨t1, ho⟩ := exo_at I1.hok ea
  obtain ⟨mA, hns, hr⟩ := exd_at I1.hok ed
  obtain ⟨od, hod, hl⟩ := lookIn_ns hns
  obtain ⟨u, hu, ru⟩ := RelO.some_of (v := v) (o := mA f) (by rw [← l]; exact hr f)
  have J : PySem.W.InstAt s1.heap a { cls := .ref C, dict := some d, data := .fields #[.ref t1, .none, .none, .none, .bool false, .none] } C (some od) :=
    ⟨ho, rfl, rfl, hod⟩
  exact PySem.HandSPX.exc_get I1.kIn J T.ex.hg T.ex.hk T.ex.hs (PySem.W.findObj_own T.ex.hd no rfl (by rw [hl, hu])) (handed_of ru)
    ⟨v, H1, I1.tok _, ru, q⟩
/-! ### isinstance of an error -/
def rIsX (K : Fg) : List V → Hp → VK → Prop := fun xs H Q => ∃ (a C : Addr) (c : V) (u : Value) (b : Bool) (fs : List (Str × V)), xs = [.ref a, c] ∧ ClsV c u ∧
  ErrAt H a C fs ∧ XCls K C ∧ PySem.W.kitOne K (.ref C) u = some b ∧ Q (.bl b) H
theorem call_isX : CallR X (.builtin "isinstance") (rIsX X.K) := by
  intro pins s σ H xs us Q I r h
  obtain ⟨a, C, c, u, b, fs, rfl, hc, ⟨d, ea, ed⟩, T, ek, q⟩ := h
  obtain ⟨u1, u2, rfl, r1, r2⟩ := vals2 r
  obtain rfl : u1 = Value.ref a := r1
  have e2 := hc.eq r2
  subst e2
  obtain ⟨t1, ho⟩ := exo_at I.hok ea
  obtain ⟨mA, hns, hr⟩ := exd_at I.hok ed
  obtain ⟨od, hod, hl⟩ := lookIn_ns hns
  have J : PySem.W.InstAt s.heap a { cls := .ref C, dict := some d, data := .fields #[.ref t1, .none, .none, .none, .bool false, .none] } C (some od) :=
    ⟨ho, rfl, rfl, hod⟩
  exact PySem.W.kia_one (PySem.W.kitx_exc (by obtain ⟨cd, hc, _⟩ := PySem.W.any_some T.ex.hd; rw [hc]; rfl) T.ex.hg T.ex.hk T.ex.hs T.ex.ha T.ex.hn T.ex.ht T.ex.hm) I.kIn J ek (fun z => nomatch z)
    fun tk => ⟨.bl b, H, I.kept (t' := tk) fun _ _ z => z, rfl, q⟩
end
/-! ### a def, a class by its name -/
structure Ok (P : Program) (w : World) (K : Fg) (mg : Str → Option Value) (base : Heap) (k : Nat) (x : Str) (ps : List Str) (sp : Sp) : Prop where
  ex : ∃ (f : Addr) (fd : FuncData), FnOk P w K mg base CX0 k f fd ps sp ∧ mg x = some (.ref f) ∧ PySem.W.keepIn K (.ref f) = true ∧ Binds K fd ps []
structure OkC (P : Program) (w : World) (K : Fg) (mg : Str → Option Value) (base : Heap) (k : Nat) (x : Str) (C : Addr) (ps : List Str) (sp : Sp) : Prop where
  cl : XCls K C
  nm : mg x = some (.ref C)
  ex : ∃ (f : Addr) (fd : FuncData), FnOk P w K mg base CX0 k f fd ps sp ∧ PySem.W.findIn K (.ref C) "__init__" = some (some (.ref f)) ∧
    PySem.W.isFn K (.ref f) = true ∧ Binds K fd ps []
section
variable {X : Cx} {e : Expr} {es : List Expr} {t : TA} {x : Str} {p pos : Pos} {k : Nat} {ps : List Str} {sp : Sp} {C : Addr}
theorem pe_callO (O : Ok X.prog X.w X.K X.mg X.base k x ps sp) (hr : Room k X.A) (ha : PA X (e :: es) t) (hg : Gl X x := by rfl)
    (hdb : (x == ("__debug__" : Str)) = false := by decide) (he : starEach (e :: es) X.env = (false, eval e X.env) :: starEach es X.env := by rfl)
    (hpl : (backTo pos (starEach es X.env)).any (·.1) = false := by rfl) : PE X (.Call (.Name x p) (e :: es) [] pos) (tCall sp [] E0 t) := by
  obtain ⟨f, fd, G, m, kp, b⟩ := O.ex
  exact pe_call G hr hg m kp b .nil pass0 ha hdb he hpl
theorem pe_newO (O : OkC X.prog X.w X.K X.mg X.base k x C ps sp) (hr : Room (k + 1) X.A) (ha : PA X (e :: es) t) (hg : Gl X x := by rfl)
    (hdb : (x == ("__debug__" : Str)) = false := by decide) (he : starEach (e :: es) X.env = (false, eval e X.env) :: starEach es X.env := by rfl)
    (hpl : (backTo pos (starEach es X.env)).any (·.1) = false := by rfl) : PE X (.Call (.Name x p) (e :: es) [] pos) (tNew C sp [] t) := by
  obtain ⟨f, fd, G, i, kp, b⟩ := O.ex
  exact pe_new O.cl i kp G hr b .nil pass0 hg O.nm ha hdb he hpl
end
/-! ### what is said of heaps -/
theorem same_upd {H : Hp} {p : Addr} {o : HO} (h : H p = none) : Same H (upd H p o) := fun b u z => by
  rw [upd_ne (ne_of_none z h)]
  exact z
theorem same_upd' {H0 H : Hp} {p : Addr} {o : HO} (s : Same H0 H) (h : H0 p = none) : Same H0 (upd H p o) := fun b u z => by
  rw [upd_ne (ne_of_none z h)]
  exact s b u z
theorem ErrAt.same {H H' : Hp} {a C : Addr} {fs : List (Str × V)} (s : Same H H') (h : ErrAt H a C fs) : ErrAt H' a C fs :=
  let ⟨d, z1, z2⟩ := h
  ⟨d, s _ _ z1, s _ _ z2⟩
/-- all but what stands at b is as it was -/
def Keep (b : Addr) (H H' : Hp) : Prop := ∀ a o, a ≠ b → H a = some o → H' a = some o
theorem Keep.refl {b : Addr} (H : Hp) : Keep b H H := fun _ _ _ z => z
theorem Keep.trans {b : Addr} {H H1 H2 : Hp} (x : Keep b H H1) (y : Keep b H1 H2) : Keep b H H2 := fun a o n z => y a o n (x a o n z)
theorem Keep.of {b : Addr} {H H' : Hp} (s : Same H H') : Keep b H H' := fun a o _ z => s a o z
theorem Keep.upd {b : Addr} {H : Hp} {o : HO} : Keep b H (upd H b o) := fun a u n z => by
  rw [upd_ne n]
  exact z
theorem ErrAt.keep {b : Addr} {H H' : Hp} {a C : Addr} {fs : List (Str × V)} (s : Keep b H H') (h : ErrAt H a C fs) {l : List V} (hb : H b = some (.lst l)) : ErrAt H' a C fs :=
  let ⟨d, z1, z2⟩ := h
  ⟨d, s _ _ (ne_of z1 hb (by intro q; cases q)) z1, s _ _ (ne_of z2 hb (by intro q; cases q)) z2⟩
/-! ### list(text) -/
def signsV (z : Str) : List V := z.cps.toList.map fun c => V.str ⟨#[c]⟩
theorem signs_vals (z : Str) : ∀ (l : List Nat) (its : List Value), its.length = l.length →
    (∀ (j : Nat) (v : Value), its[j]? = some v → ∃ (c : Nat) (u : Tok), l[j]? = some c ∧ v = Value.str ⟨#[c]⟩ u) → Vals (l.map fun c => V.str ⟨#[c]⟩) its
  | [], [], _, _ => .nil
  | [], _ :: _, h, _ => absurd h (by simp)
  | _ :: _, [], h, _ => absurd h (by simp)
  | c :: l, v :: its, h, k => by
    refine .cons ?_ (signs_vals z l its (by simpa using h) fun j u q => ?_)
    · obtain ⟨c', u, e1, e2⟩ := k 0 v rfl
      cases e1
      exact ⟨u, e2⟩
    · exact k (j + 1) u (by simpa using q)
theorem call_list_text {X : Cx} (hc : X.calm = true) : CallR X (.type "list") (fun xs H Q => ∃ z, xs = [.str z] ∧ z.length ≤ sizeLine ∧
    ∀ l, H l = none → Q (.ref l) (upd H l (.lst (signsV z)))) := by
  intro pins s σ H xs us Q I r h
  obtain ⟨z, rfl, hz, q⟩ := h
  obtain ⟨u, rfl, t, rfl⟩ := vals1 r
  have hl : z.cps.size ≤ sizeLine := hz
  refine call_list_str (hn := hl) (I.ok.hd hc) z t fun h' tk acc' c' hk hS hacc => ?_
  have hn : H s.heap.objs.size = none := I.hok.fresh (Nat.le_refl _)
  have hv : Vals (signsV z) acc'.toList := by
    refine signs_vals z _ _ (by rw [Array.length_toList, Array.length_toList, hacc.1]) fun j v q => ?_
    obtain ⟨c, u, e1, e2⟩ := hacc.2 j v (by rw [← Array.getElem?_toList]; exact q)
    exact ⟨c, u, by rw [Array.getElem?_toList]; exact e1, e2⟩
  refine ⟨.ref s.heap.objs.size, _, I.laid (a := s.heap.objs.size) (o := .lst (signsV z)) (t' := tk) hk (Nat.le_refl _) ⟨?_, acc'.toList, c', hv, ?_⟩, rfl, q _ hn⟩
  · show (z.cps.toList.map _).length ≤ sizeLine
    rw [List.length_map, Array.length_toList]
    exact hl
  · simpa using hS
/-! ### where ways meet: what is wanted between -/
section
variable {X : Cx} {e : Expr} {te : TE} {tt : TT} {st : Stmt} {ts : TS}
def tMid (t : TE) : TE := fun σ H Q => ∃ Q0 : VK, t σ H Q0 ∧ ∀ x H1, Q0 x H1 → Q x H1
theorem pe_mid (h : PE X e te) : PE X e (tMid te) := by
  refine ⟨fun pins s σ H Q I hq => ?_⟩
  obtain ⟨Q0, h0, k⟩ := hq
  exact thn (h.run pins s σ H Q0 I h0) fun u s1 hu => by
    obtain ⟨v, H1, I1, r, q⟩ := hu
    exact ⟨v, H1, I1, r, k _ _ q⟩
def bMid (t : TT) : TT := fun σ H Q => ∃ Q0 : Bool → Hp → Prop, t σ H Q0 ∧ ∀ x H1, Q0 x H1 → Q x H1
theorem pt_mid (h : PT X e tt) : PT X e (bMid tt) := by
  refine ⟨fun pins s σ H Q I hq => ?_⟩
  obtain ⟨Q0, h0, k⟩ := hq
  exact thn (h.run pins s σ H Q0 I h0) fun u s1 hu => by
    obtain ⟨H1, I1, q⟩ := hu
    exact ⟨H1, I1, k _ _ q⟩
def sMid (t : TS) : TS := fun D σ H => ∃ M : L2.St → Hp → Prop, t { D with nx := M } σ H ∧ ∀ σ' H', M σ' H' → D.nx σ' H'
theorem ps_mid (h : PS X st ts) : PS X st (sMid ts) := by
  refine ⟨fun pins s σ H D I hq => ?_⟩
  obtain ⟨M, h0, k⟩ := hq
  refine thn (h.run pins s σ H _ I h0) fun f s1 hf => ?_
  cases f with
  | next =>
    obtain ⟨σ', H', I', q⟩ := hf
    exact ⟨σ', H', I', k _ _ q⟩
  | ret v => exact hf
  | brk => exact hf
  | cont => exact hf
end
theorem same_keep {H0 H H' : Hp} {b : Addr} (s : Same H0 H) (n : H0 b = none) (k : Keep b H H') : Same H0 H' := fun a o z =>
  k a o (ne_of_none z n) (s a o z)
/-! ### lists of truth values, compared -/
theorem dp_bools {K : Fg} {H : Hp} {p : Addr} {bs : List Bool} (h : H p = some (.lst (bs.map V.bl))) : Dp K H (.ref p) (.list (bs.map PyData.bool)) := by
  refine .lst (SqL.of h) ?_
  clear h
  induction bs with
  | nil => exact .nil
  | cons b bs ih => exact .cons (.bl b) ih
theorem can_bools (bs : List Bool) : PyData.canLay0 (.list (bs.map PyData.bool)) = true := by
  rw [PyData.canLay0]
  induction bs with
  | nil => rfl
  | cons b bs ih =>
    rw [List.map_cons, PyData.canLayAll0, PyData.canLay0, ih]
    rfl
theorem depth_bools (bs : List Bool) : PyData.depthAll (bs.map PyData.bool) ≤ 1 := by
  induction bs with
  | nil => simp [PyData.depthAll]
  | cons b bs ih => simp only [List.map_cons, PyData.depthAll, PyData.depth]; omega
theorem shaped_bools (bs : List Bool) : SeqAt.shaped (.list (bs.map PyData.bool)) = true := by
  unfold SeqAt.shaped
  rw [can_bools, Bool.true_and]
  refine decide_eq_true ?_
  have q := depth_bools bs
  rw [PyData.depth]
  omega
/-- two lists of the same truth values are not unlike -/
theorem ne_bools {K : Fg} {H : Hp} {p q : Addr} {bs : List Bool} {Q : VK} (h1 : H p = some (.lst (bs.map V.bl))) (h2 : H q = some (.lst (bs.map V.bl))) (k : Q (.bl false) H) :
    rNeD K (.ref p) (.ref q) H Q := by
  refine ⟨_, _, dp_bools h1, dp_bools h2, shaped_bools bs, shaped_bools bs, ?_⟩
  rw [SeqAt.eqv_refl _ (can_bools bs)]
  exact k
end EV

/-! rules for objects of own classes: methods by one word, own __contains__, __len__, __str__, cls(..), own errors raised -/
namespace EV
open PySem PySem.Spec PyProof.Rows L2
/-- a def that may raise -/
structure OkX (P : Program) (w : World) (K : Fg) (mg : Str → Option Value) (base : Heap) (k : Nat) (x : Str) (ps : List Str) (sp : Sp) : Prop where
  ex : ∃ (f : Addr) (fd : FuncData), FnOk P w K mg base (L2.CX P w) k f fd ps sp ∧ mg x = some (.ref f) ∧ PySem.W.keepIn K (.ref f) = true ∧ Binds K fd ps []
/-- a method of the class at C (cx: what leaves it) -/
structure OkM (cx : CXT) (P : Program) (w : World) (K : Fg) (mg : Str → Option Value) (base : Heap) (k : Nat) (C : Addr) (m : Str) (ps : List Str) (sp : Sp) : Prop where
  ex : ∃ (f : Addr) (fd : FuncData), FnOk P w K mg base cx k f fd ps sp ∧ Meth K C m f ∧ Binds K fd ps []
/-- the class at C, made by its own __init__ -/
structure OkI (P : Program) (w : World) (K : Fg) (mg : Str → Option Value) (base : Heap) (k : Nat) (x : Str) (C : Addr) (ps : List Str) (sp : Sp) : Prop where
  nm : mg x = some (.ref C)
  ex : ∃ (f : Addr) (fd : FuncData), FnOk P w K mg base CX0 k f fd ps sp ∧ Mk K C f ∧ Binds K fd ps []
/-- a classmethod of the class at C -/
structure OkCM (P : Program) (w : World) (K : Fg) (mg : Str → Option Value) (base : Heap) (k : Nat) (C : Addr) (m : Str) (ps : List Str) (sp : Sp) : Prop where
  ex : ∃ (p g : Addr) (fd : FuncData) (mc : Value), FnOk P w K mg base (L2.CX P w) k g fd ps sp ∧ ClX.CRead K C mc ∧ ClX.CMet K C mc m p g ∧ Binds K fd ps []
section
variable {X : Cx} {e o : Expr} {es : List Expr} {t : TA} {ta : TE} {x m : Str} {p pos apos : Pos} {k : Nat} {ps : List Str} {sp : Sp} {C : Addr} {W : WX}
/-! ### calls whose error is taken by W -/
theorem pe_callX (tk : Takes X W) (O : OkX X.prog X.w X.K X.mg X.base k x ps sp) (hr : Room k X.A) (ha : PA X (e :: es) t) (hg : Gl X x := by rfl)
    (hdb : (x == ("__debug__" : Str)) = false := by decide) (he : starEach (e :: es) X.env = (false, eval e X.env) :: starEach es X.env := by rfl)
    (hpl : (backTo pos (starEach es X.env)).any (·.1) = false := by rfl) : PE X (.Call (.Name x p) (e :: es) [] pos) (tCallS sp (WE W) t) := by
  obtain ⟨f, fd, G, m, kp, b⟩ := O.ex
  exact pe_callS G hr hg m kp b (fun σ => passAt tk σ) ha hdb he hpl
def tMethS (C : Addr) (m : Str) (sp : Sp) (E : L2.St → XK) (ta : TE) (t : TA) : TE := fun σ H Q => ta σ H fun x H1 => ∃ a dx fs, x = .ref a ∧ H1 a = some (.ins C dx fs) ∧ fs.lookup m = none ∧ t σ H1 fun vs H2 => sp (x :: vs) H2 Q (E σ)
theorem pe_methX {pl : Sem Bool} (tk : Takes X W) (he : PE X o ta) (c : Cls X.K C) (O : OkM (L2.CX X.prog X.w) X.prog X.w X.K X.mg X.base k C m ps sp) (hr : Room k X.A) (ha : PA X (e :: es) t)
    (hst : starEach (e :: es) X.env = (false, eval e X.env) :: starEach es X.env := by rfl) (hpl : (backTo pos (starEach es X.env)).any (·.1) = false := by rfl)
    (ht : eval (.Call (.Attribute o m apos) (e :: es) [] pos) X.env = (do
      let ov ← eval o X.env
      standAt apos.atName
      let (f, first) ← holding [ov] (getMethod ov m pl)
      callWith pos f first (backTo pos (starEach (e :: es) X.env)) (backToKw pos (keywordEach [] X.env))) := by rfl) :
    PE X (.Call (.Attribute o m apos) (e :: es) [] pos) (tMethS C m sp (WE W) ta t) := by
  obtain ⟨f, fd, F, hm, hb⟩ := O.ex
  refine ⟨fun pins s σ H Q I h => ?_⟩
  refine PySem.W.methodCall_KW (pl := pl) (thn (he.run pins s σ H _ I h) fun u s1 ⟨x, H1, I1, rx, a, dx, fs, ex, ea, l, q⟩ => ?_) ht
  subst ex
  obtain rfl : u = Value.ref a := rx
  refine getmeth_ok I1 ea c hm l ?_
  refine PySem.W.callWith_K (first := [.ref a]) (h₀ := X.base) I.ok.mod.kin hm.kp (thn (ha.run pos pins s1 σ H1 _ I1 q) fun us s2 ⟨vs, H2, I2, r, q2⟩ => ⟨I2.kIn, ?_⟩) hst hpl
  exact run_fnS (us := .ref a :: us) (vs := .ref a :: vs) (E := WE W) F hr hb (passAt tk σ) I2 (.cons rfl r) q2
theorem pe_methO {pl : Sem Bool} (he : PE X o ta) (c : Cls X.K C) (O : OkM CX0 X.prog X.w X.K X.mg X.base k C m ps sp) (hr : Room k X.A) (ha : PA X (e :: es) t)
    (hst : starEach (e :: es) X.env = (false, eval e X.env) :: starEach es X.env := by rfl) (hpl : (backTo pos (starEach es X.env)).any (·.1) = false := by rfl)
    (ht : eval (.Call (.Attribute o m apos) (e :: es) [] pos) X.env = (do
      let ov ← eval o X.env
      standAt apos.atName
      let (f, first) ← holding [ov] (getMethod ov m pl)
      callWith pos f first (backTo pos (starEach (e :: es) X.env)) (backToKw pos (keywordEach [] X.env))) := by rfl) :
    PE X (.Call (.Attribute o m apos) (e :: es) [] pos) (tMeth C m sp [] E0 ta t) := by
  obtain ⟨f, fd, F, hm, hb⟩ := O.ex
  exact pe_meth he c hm F hr hb .nil pass0 ha hst hpl ht
theorem pe_methO0 {pl : Sem Bool} (he : PE X o ta) (c : Cls X.K C) (O : OkM CX0 X.prog X.w X.K X.mg X.base k C m ps sp) (hr : Room k X.A)
    (ht : eval (.Call (.Attribute o m apos) [] [] pos) X.env = (do
      let ov ← eval o X.env
      standAt apos.atName
      let (f, first) ← holding [ov] (getMethod ov m pl)
      callWith pos f first (backTo pos (starEach [] X.env)) (backToKw pos (keywordEach [] X.env))) := by rfl) :
    PE X (.Call (.Attribute o m apos) [] [] pos) (tMeth C m sp [] E0 ta tNil) := by
  obtain ⟨f, fd, F, hm, hb⟩ := O.ex
  exact pe_meth0 he c hm F hr hb .nil pass0 ht
/-- C(e, ..), the class by its name -/
theorem pe_makeO (O : OkI X.prog X.w X.K X.mg X.base k x C ps sp) (hr : Room (k + 1) X.A) (ha : PA X (e :: es) t) (hg : Gl X x := by rfl)
    (hdb : (x == ("__debug__" : Str)) = false := by decide) (he : starEach (e :: es) X.env = (false, eval e X.env) :: starEach es X.env := by rfl)
    (hpl : (backTo pos (starEach es X.env)).any (·.1) = false := by rfl) : PE X (.Call (.Name x p) (e :: es) [] pos) (tMake C sp [] E0 t) := by
  obtain ⟨f, fd, F, M, b⟩ := O.ex
  exact pe_make M F hr hg O.nm b .nil pass0 ha hdb he hpl
/-- cls(e, ..), the class in a slot -/
def tMakeV (C : Addr) (sp : Sp) (tf : TE) (t : TA) : TE := fun σ H Q => tf σ H fun c H1 => c = .ref C ∧ tMake C sp [] E0 t σ H1 Q
theorem pe_makeV {y : Str} (O : OkI X.prog X.w X.K X.mg X.base k y C ps sp) (hr : Room (k + 1) X.A) (hf : PE X (.Name x p) ta) (ha : PA X (e :: es) t)
    (he : starEach (e :: es) X.env = (false, eval e X.env) :: starEach es X.env := by rfl)
    (hpl : (backTo pos (starEach es X.env)).any (·.1) = false := by rfl) : PE X (.Call (.Name x p) (e :: es) [] pos) (tMakeV C sp ta t) := by
  obtain ⟨f, fd, F, M, b⟩ := O.ex
  refine ⟨fun pins s σ H Q I h => ?_⟩
  refine wpAny_Call_Name_kw (thn (hf.run pins s σ H _ I h) fun u s1 ⟨c, H1, I1, rc, ec, q1⟩ => ?_)
  subst ec
  obtain rfl : u = Value.ref C := rc
  refine PySem.W.callWith_K (h₀ := X.base) I.ok.mod.kin M.kp (thn (ha.run pos pins s1 σ H1 _ I1 q1) fun us s2 ⟨vs, H2, I2, r, q⟩ => ⟨I2.kIn, ?_⟩) he hpl
  exact run_make M F hr b .nil pass0 I2 r q
/-! ### x in o, len(o), str(o) -/
theorem ins_inst {pins : List (Addr × Obj)} {σ : L2.St} {H : Hp} {s : Shared} {a dx : Addr} {fs : List (Str × V)} (I : Inv X pins σ H s) (ea : H a = some (.ins C dx fs)) : ∃ ox od, PySem.W.InstAt s.heap a ox C (some od) := by
  obtain ⟨mA, O, _, _, _, _⟩ := ins_get I.hok ea
  obtain ⟨od, J, _⟩ := O.look
  exact ⟨_, od, J⟩
def rInOwn (C : Addr) (sp : Sp) (neg : Bool) : R2 := fun x y H Q => ∃ a dx fs, y = .ref a ∧ H a = some (.ins C dx fs) ∧ sp [.ref a, x] H (fun v H2 => ∃ b : Bool, v = .bl b ∧ Q (.bl (if neg then !b else b)) H2) E0
theorem op_inO (O : OkM CX0 X.prog X.w X.K X.mg X.base k C "__contains__" ps sp) (hr : Room k X.A) : OpR X (compareOp .In) (rInOwn C sp false) := by
  intro pins s σ H x y v u Q I rx ry h
  obtain ⟨a, dx, fs, rfl, ea, q⟩ := h
  obtain rfl : u = Value.ref a := ry
  obtain ⟨f, fd, F, hm, hb⟩ := O.ex
  obtain ⟨ox, od, J⟩ := ins_inst I ea
  obtain ⟨m, fr⟩ := I.fr
  refine PySem.W.in_K fr I.ok.mod.kin J hm.at_ hm.fn ?_
  refine thn (run_fn (us := [.ref a, v]) (vs := [.ref a, x]) (dvs := []) F hr hb .nil pass0 I (.cons rfl (.cons rx .nil)) q) fun r s1 hh => ?_
  obtain ⟨z, H2, I2, rz, b, ez, q2⟩ := hh
  subst ez
  obtain rfl : r = Value.bool b := rz
  exact wpAny_truthy_bool ⟨.bl b, H2, I2, rfl, q2⟩
theorem op_notInO (O : OkM CX0 X.prog X.w X.K X.mg X.base k C "__contains__" ps sp) (hr : Room k X.A) : OpR X (compareOp .NotIn) (rInOwn C sp true) := by
  intro pins s σ H x y v u Q I rx ry h
  obtain ⟨a, dx, fs, rfl, ea, q⟩ := h
  obtain rfl : u = Value.ref a := ry
  obtain ⟨f, fd, F, hm, hb⟩ := O.ex
  obtain ⟨ox, od, J⟩ := ins_inst I ea
  obtain ⟨m, fr⟩ := I.fr
  refine PySem.W.notIn_K fr I.ok.mod.kin J hm.at_ hm.fn ?_
  refine thn (run_fn (us := [.ref a, v]) (vs := [.ref a, x]) (dvs := []) F hr hb .nil pass0 I (.cons rfl (.cons rx .nil)) q) fun r s1 hh => ?_
  obtain ⟨z, H2, I2, rz, b, ez, q2⟩ := hh
  subst ez
  obtain rfl : r = Value.bool b := rz
  exact wpAny_truthy_bool ⟨.bl (!b), H2, I2, rfl, q2⟩
/-- a def, run where a builtin runs -/
theorem run_in {A : Around} {Q : Value → Shared → Prop} {E : Value → Shared → Prop} {f : Addr} {fd : FuncData} {ps : List Str} {sp : Sp} {pins : List (Addr × Obj)} {σ : L2.St} {H : Hp} {s : Shared} {us : List Value} {vs : List V} {QV : VK}
    (F : FnOk X.prog X.w X.K X.mg X.base CX0 k f fd ps sp) (hr : Room k A) (hf : A.frames = X.A.frames) (hb : Binds X.K fd ps []) (I : Inv X pins σ H s) (r : Vals vs us) (h : sp vs H QV E0)
    (hQ : ∀ v s', EP X pins σ QV v s' → Q v s') : wpAny (model X.prog X.w) A (call (.ref f) us) Q E s := by
  have hl : us.length = ps.length := by rw [← r.length]; exact F.len _ _ _ _ h
  have b := hb s us I.kIn (by rw [List.append_nil]; exact hl)
  rw [List.append_nil] at b
  have e0 := I.env0
  refine wpAny_call (codeAny_mono (F.run A X.stack s H ⟨us, []⟩ us vs QV E0 hr { e0 with frames := hf.trans e0.frames } b r h) fun z s' hq => ?_)
  cases z with
  | error er => exact False.elim hq
  | ok fl =>
    cases fl with
    | ret u => exact hQ _ _ (I.after hq)
    | next => exact False.elim hq
    | brk => exact False.elim hq
    | cont => exact False.elim hq
theorem call_lenO (O : OkM CX0 X.prog X.w X.K X.mg X.base k C "__len__" ps sp) (hr : Room (k + 1) X.A) : CallR X (.builtin "len") (fun xs H Q => ∃ a dx fs, xs = [.ref a] ∧ H a = some (.ins C dx fs) ∧
    sp [.ref a] H (fun v H2 => ∃ n : Int, v = .int n ∧ 0 ≤ n ∧ n < 2 ^ 63 ∧ Q (.int n) H2) E0) := by
  intro pins s σ H xs us Q I r h
  obtain ⟨a, dx, fs, rfl, ea, q⟩ := h
  obtain ⟨u, rfl, ru⟩ := vals1 r
  obtain rfl : u = Value.ref a := ru
  obtain ⟨f, fd, F, hm, hb⟩ := O.ex
  obtain ⟨ox, od, J⟩ := ins_inst I ea
  obtain ⟨m, fr⟩ := I.fr
  refine PySem.W.len_K fr I.ok.mod.kin J hm.at_ hm.fn (run_in (vs := [.ref a]) F hr.in1 rfl hb I (.cons rfl .nil) q fun v s' hh => ?_)
  obtain ⟨z, H2, I2, rz, n, ez, n0, n1, q2⟩ := hh
  subst ez
  obtain ⟨t, rfl⟩ := rz
  exact ⟨⟨n0, n1⟩, ⟨.int n, H2, I2.tok _, ⟨_, rfl⟩, q2⟩⟩
theorem call_strO (O : OkM CX0 X.prog X.w X.K X.mg X.base k C "__str__" ps sp) (hr : Room (k + 2) X.A) : CallR X (.type "str") (fun xs H Q => ∃ a dx fs, xs = [.ref a] ∧ H a = some (.ins C dx fs) ∧
    sp [.ref a] H (fun v H2 => ∃ z : Str, v = .str z ∧ Q (.str z) H2) E0) := by
  intro pins s σ H xs us Q I r h
  obtain ⟨a, dx, fs, rfl, ea, q⟩ := h
  obtain ⟨u, rfl, ru⟩ := vals1 r
  obtain rfl : u = Value.ref a := ru
  obtain ⟨f, fd, F, hm, hb⟩ := O.ex
  obtain ⟨ox, od, J⟩ := ins_inst I ea
  have h2 : Room k X.A.in1.in1 := (Room.in1 (k := k + 1) hr).in1
  refine PySem.W.kso_call (h2.units0) I.kIn J hm.at_ hm.fn (run_in (vs := [.ref a]) F h2 rfl hb I (.cons rfl .nil) q fun v s' hh => ?_)
  obtain ⟨z, H2, I2, rz, y, ez, q2⟩ := hh
  subst ez
  obtain ⟨t, rfl⟩ := rz
  exact ⟨.str y, H2, I2, ⟨_, rfl⟩, q2⟩
/-! ### a == b, both of the class at C, by C's own __eq__ -/
def rEqO (C : Addr) (sp : Sp) : R2 := fun x y H Q => ∃ a b dx dy fs gs, x = .ref a ∧ y = .ref b ∧ H a = some (.ins C dx fs) ∧ H b = some (.ins C dy gs) ∧
  sp [.ref a, .ref b] H (fun v H2 => ∃ c : Bool, v = .bl c ∧ Q (.bl c) H2) E0
theorem op_eqO (O : OkM CX0 X.prog X.w X.K X.mg X.base k C "__eq__" ps sp) (hr : Room k X.A) : OpR X (compareOp .Eq) (rEqO C sp) := by
  intro pins s σ H x y v u Q I rx ry h
  obtain ⟨a, b, dx, dy, fs, gs, rfl, rfl, ea, eb, q⟩ := h
  obtain rfl : v = Value.ref a := rx
  obtain rfl : u = Value.ref b := ry
  obtain ⟨f, fd, F, hm, hb⟩ := O.ex
  obtain ⟨ox, od, J⟩ := ins_inst I ea
  obtain ⟨oy, od', J'⟩ := ins_inst I eb
  obtain ⟨m, fr⟩ := I.fr
  show wpAny (model X.prog X.w) X.A (richCompare .Eq (.ref a) (.ref b)) (EP X pins σ Q) X.xe s
  refine PySem.W.cmp_K (op := .Eq) (tb := .ref C) hr.units0 fr I.ok.mod.kin J J'.type (by simp [PySem.W.notFirst]) hm.at_ hm.fn ?_
  refine thn (run_fn (us := [.ref a, .ref b]) (vs := [.ref a, .ref b]) (dvs := []) F hr hb .nil pass0 I (.cons rfl (.cons rfl .nil)) q) fun r s1 hh => ?_
  obtain ⟨z, H2, I2, rz, c, ez, q2⟩ := hh
  subst ez
  obtain rfl : r = Value.bool c := rz
  exact ⟨.bl c, H2, I2, rfl, q2⟩
/-! ### C.m(..), m a classmethod that may raise -/
theorem pe_cmethX {pl : Sem Bool} (tk : Takes X W) (he : PE X o ta) (O : OkCM X.prog X.w X.K X.mg X.base k C m ps sp) (hr : Room k X.A) (ha : PA X (e :: es) t)
    (hst : starEach (e :: es) X.env = (false, eval e X.env) :: starEach es X.env := by rfl) (hpl : (backTo pos (starEach es X.env)).any (·.1) = false := by rfl)
    (ht : eval (.Call (.Attribute o m apos) (e :: es) [] pos) X.env = (do
      let ov ← eval o X.env
      standAt apos.atName
      let (f, first) ← holding [ov] (getMethod ov m pl)
      callWith pos f first (backTo pos (starEach (e :: es) X.env)) (backToKw pos (keywordEach [] X.env))) := by rfl) :
    PE X (.Call (.Attribute o m apos) (e :: es) [] pos) (fun σ H Q => ta σ H fun x H1 => x = .ref C ∧ t σ H1 fun vs H2 => sp (.ref C :: vs) H2 Q (WE W σ)) := by
  obtain ⟨p, g, fd, mc, F, r, c, hb⟩ := O.ex
  refine ⟨fun pins s σ H Q I h => ?_⟩
  refine PySem.W.methodCall_KW (pl := pl) (thn (he.run pins s σ H _ I h) fun u s1 ⟨x, H1, I1, rx, ex, q⟩ => ?_) ht
  subst ex
  obtain rfl : u = Value.ref C := rx
  refine ClX.getmethcm_ok I1 r c fun s2 I2 => ?_
  refine ClX.callwith_cm I2 (ClX.base_none I1 (Nat.le_refl _)) c.fi (thn (ha.run pos _ s2 σ H1 _ I2 q) fun us s3 ⟨vs, H2, I3, rv, q2⟩ => ⟨⟨ClX.pin_at I3, I3.kIn⟩, ?_⟩) hst hpl
  have hl : (Value.ref C :: us).length = ps.length := by
    have z : Vals (V.ref C :: vs) (Value.ref C :: us) := .cons rfl rv
    rw [← z.length]
    exact F.len _ _ _ _ q2
  have bb := hb s3 (.ref C :: us) I3.kIn (by rw [List.append_nil]; exact hl)
  rw [List.append_nil] at bb
  refine thn (Q := EP X ((s1.heap.objs.size, PySem.W.methodObj (.ref g) (.ref C)) :: pins) σ Q) (wpAny_call (PySem.W.method_call (ClX.pin_at I3) (codeAny_mono (F.run X.A X.stack s3 H2 ⟨.ref C :: us, []⟩ (.ref C :: us) (.ref C :: vs) Q (WE W σ) hr I3.env0 bb (.cons rfl rv) q2) fun z s' hq => ?_))) fun _ _ y => ClX.unpinE y
  cases z with
  | error er => exact passAt tk σ _ _ _ _ _ I3 hq
  | ok fl =>
    cases fl with
    | ret u => exact I3.after hq
    | next => exact False.elim hq
    | brk => exact False.elim hq
    | cont => exact False.elim hq
/-! ### raise C(e, ..), C an own error with its own __init__ -/
theorem pmk_x {C : Addr} (O : OkC X.prog X.w X.K X.mg X.base k x C ps sp) (ty : PySem.W.typeIn X.K (.ref C) = some (.type "type")) (hr : Room (k + 1) X.A) (ha : PA X (e :: es) t) (hg : Gl X x := by rfl)
    (hdb : (x == ("__debug__" : Str)) = false := by decide) (he : starEach (e :: es) X.env = (false, eval e X.env) :: starEach es X.env := by rfl)
    (hpl : (backTo pos (starEach es X.env)).any (·.1) = false := by rfl) : PMk X (.Call (.Name x p) (e :: es) [] pos) (tMkO C sp [] t) := by
  obtain ⟨fI, fd, F1, iC, tI, hb⟩ := O.ex
  intro pins s σ H Q I h
  obtain ⟨B, nI, iI, bmB, FB, SF, q1, q2⟩ := O.cl.base
  refine wpAny_Call_Name_kw (ld_glob I hg O.nm ?_ hdb)
  refine PySem.W.callWith_K (h₀ := X.base) I.ok.mod.kin O.cl.kC (thn (ha.run pos pins s σ H _ I h) fun us s1 hu => ?_) he hpl
  obtain ⟨vs, H1, I1, r1, hz, q⟩ := hu
  refine ⟨I1.kIn, ?_⟩
  show wpAny _ _ (call (.ref C) us) _ _ _
  obtain ⟨nm, N', qn, bs, bm, hdct, sn, sub, ab, col, dd, k0, k1, k2, k3, k5, hC, hT⟩ := PySem.W.excInit_of I1.kIn q1
  obtain ⟨oI, hoI, hcI⟩ : ∃ oI, s1.heap.get? fI = some oI ∧ oI.cls = .type "function" := by
    obtain ⟨o, z1, z2⟩ := Option.map_eq_some_iff.mp (show (X.K.lookup fI).map (·.cls) = some (.type "function") from beq_iff_eq.mp tI)
    exact ⟨o, I1.kIn _ _ z1, z2⟩
  obtain ⟨hp, g, dr, tk, os⟩ := s1
  have hsz : hp.objs.size ≤ hp.objs.size + 1 := Nat.le_succ _
  have hq := q (hp.objs.size + 1) (I1.hok.fresh hsz)
  rw [List.append_nil] at hq
  have kk : ∀ b o, hp.get? b = some o → ((hp.push (PySem.W.kdv_tup us)).push (PySem.HandSPX.excO C hp.objs.size)).get? b = some o :=
    fun b o z => Heap.get?_push_of_some _ (Heap.get?_push_of_some _ z)
  have hget : ((hp.push (PySem.W.kdv_tup us)).push (PySem.HandSPX.excO C hp.objs.size)).get? (hp.objs.size + 1) = some (PySem.HandSPX.excO C hp.objs.size) := by heap_get
  have I2 := I1.laid (t' := tk) (a := hp.objs.size + 1) (o := exo (hp.objs.size + 1) C none)
    (h' := (hp.push (PySem.W.kdv_tup us)).push (PySem.HandSPX.excO C hp.objs.size)) kk hsz (exo_ok hget)
  have r2 : Vals (V.ref (hp.objs.size + 1) :: vs) (Value.ref (hp.objs.size + 1) :: us) := .cons rfl r1
  have hl : (Value.ref (hp.objs.size + 1) :: us ++ []).length = ps.length := by
    have z := r2.length
    rw [F1.len _ _ _ _ hq] at z
    rw [List.append_nil]
    exact z.symm
  have bb := hb _ (Value.ref (hp.objs.size + 1) :: us) I2.kIn hl
  rw [List.append_nil] at bb
  have hus : us.length ≤ sizeLine := by
    rw [← Paired.length r1, sizeLine_eq]
    omega
  refine wpAny_call (PySem.HandSPX.call_own FB hT hC (PySem.W.looks_findIn I1.kIn iC) (fun self => PySem.W.exc_bind hoI hcI self) hus
    (codeAny_mono (F1.run _ X.stack _ _ ⟨Value.ref (hp.objs.size + 1) :: us, []⟩ (Value.ref (hp.objs.size + 1) :: us) _ _ (fun _ _ _ => False)
      (hr.make C us []) (I2.env0.make C us []) bb r2 hq) fun r s' hq' => ?_))
  cases r with
  | error er => exact False.elim hq'
  | ok fl =>
    cases fl with
    | ret u =>
      obtain ⟨v, H2, os2, bare2, un2, hok2, rv, ev, d, fs, ea, ed, hd1, q2⟩ := hq'
      subst ev
      obtain ⟨h2, g2, d2, t2, os'⟩ := s'
      exact ⟨rv, mk_end (raises_own O.cl.ex.hs ty) I1 hsz kk un2 hok2 os2 bare2 ea ed hd1 q2⟩
    | next => exact False.elim hq'
    | brk => exact False.elim hq'
    | cont => exact False.elim hq'
/-- a global by its name, its value known up to the token -/
theorem pe_gv {v : V} {x : Str} {pos : Pos} (h : ∃ u, X.mg x = some u ∧ RelV v u) (hg : Gl X x := by rfl) (hd : (x == ("__debug__" : Str)) = false := by decide) : PE X (.Name x pos) (tC v) := by
  obtain ⟨u, hm, r⟩ := h
  exact pe_glob hg hm r hd
/-- isinstance(e, c), e the error that the suite holds -/
theorem call_isEX {a D : Addr} {oe : Obj} {cls : Value} {d : Option Addr} {pn : List (Addr × Obj)} (T : ExcC X.K D) (hz : Zc cls d oe) (hf : ∃ vs, oe.data = .fields vs) : CallR (X.suite a ((a, oe) :: pn)) (.builtin "isinstance")
    (fun xs H Q => ∃ (c : V) (cv : Value) (b : Bool) (dd : Addr) (fs : List (Str × V)), xs = [.ref a, c] ∧ cls = .ref D ∧ d = some dd ∧ H dd = some (.xd fs) ∧ (∀ u, RelV c u → u = cv) ∧ PySem.W.kitOne X.K (.ref D) cv = some b ∧ Q (.bl b) H) := by
  intro pins s σ H xs us Q I r h
  obtain ⟨c, cv, b, dd, fs, rfl, ec, edd, ed, hcv, e, q⟩ := h
  obtain ⟨u1, u2, rfl, r1, r2⟩ := vals2 r
  obtain rfl : u1 = Value.ref a := r1
  have e2 := hcv _ r2
  subst e2
  subst ec
  subst edd
  obtain ⟨ha, _⟩ := I.pin (a, oe) (List.mem_append_left _ List.mem_cons_self)
  obtain ⟨vs, hd⟩ := hf
  have hx : ObjOk X.prog X.w H s.heap dd (.xd fs) := I.hok dd _ ed
  obtain ⟨mA, hns, hr⟩ := hx
  obtain ⟨od, ho, hl⟩ := lookIn_ns hns
  have J : PySem.W.InstAt s.heap a oe D (some od) := ⟨ha, hz.1, by unfold PySem.W.notCls; rw [hd] <;> rfl, by rw [hz.2]; exact ho⟩
  exact PySem.W.kia_one (PySem.W.kitx_exc (by obtain ⟨cd, hc, _⟩ := PySem.W.any_some T.hd; rw [hc]; rfl) T.hg T.hk T.hs T.ha T.hn T.ht T.hm) I.kIn J e (fun z => nomatch z)
    fun tk => ⟨.bl b, H, I.kept (t' := tk) fun _ _ z => z, rfl, q⟩
/-! ### static methods -/
/-- C.m is a static method: its record at p, its def at f -/
structure SM (K : Fg) (C : Addr) (m : Str) (f : Addr) : Prop where
  ex : ∃ (mc : Value) (p : Addr) (rest : List Value), ClX.CRead K C mc ∧ PySem.W.findCls K (.ref C) mc m = some (.get (.builtin "staticmethod.__get__") (.ref p) .none (.ref C)) ∧
    PySem.W.recIn K p "staticmethod" = some (.ref f :: rest)
  kp : PySem.W.keepIn K (.ref f) = true
/-- .. reached through an instance -/
structure SMI (K : Fg) (C : Addr) (m : Str) (f : Addr) : Prop where
  pg : PySem.W.plainGet K C Str.empty = true
  ic : PySem.W.isClsIn K C = true
  cp : PySem.W.copiedNames.contains m = false
  ex : ∃ (p : Addr) (rest : List Value), PySem.W.findIn K (.ref C) m = some (some (.ref p)) ∧ PySem.W.typeIn K (.ref p) = some (.type "staticmethod") ∧
    PySem.W.specialIn K (.ref p) "__get__" = some (some (.builtin "staticmethod.__get__")) ∧ PySem.W.takesIn K (.ref p) = some false ∧ PySem.W.recIn K p "staticmethod" = some (.ref f :: rest)
  kp : PySem.W.keepIn K (.ref f) = true
theorem SMI.get' {K : Fg} {C f : Addr} {m : Str} (k : SMI K C m f) : PySem.W.plainGet K C m = true := k.pg
section
variable {X : Cx} {e o : Expr} {es : List Expr} {t tk : TA} {ta : TE} {x m : Str} {p pos apos : Pos} {k : Nat} {ps ks : List Str} {sp : Sp} {C f : Addr} {fd : FuncData} {kws : List Keyword} {ds : List Value} {dvs : List V}
  {g : List Value → List Value → List Value} {gV : List V → List V → List V} {pins : List (Addr × Obj)} {σ : L2.St} {H : Hp} {s : Shared}
theorem getsm_ok {pl : Sem Bool} {A : Around} {E : Value → Shared → Prop} {Q : Value × List Value → Shared → Prop} (I : Inv X pins σ H s) (S : SM X.K C m f) (h : ∀ s', Inv X pins σ H s' → Q (.ref f, []) s') :
    wpAny (model X.prog X.w) A (getMethod (.ref C) m pl) Q E s := by
  obtain ⟨mc, q, rest, r, at_, rc⟩ := S.ex
  refine PySem.W.method_cls I.kIn r.ga (PySem.W.cls_bind I.kIn r.rd at_ ?_)
  exact wpAny_call (PySem.W.sm_get (s := { s with toks := s.toks + 1 }) I.kIn rc (PySem.W.handed_on rfl (h _ (I.tok _))))
theorem getsmi_ok {pl : Sem Bool} {A : Around} {E : Value → Shared → Prop} {Q : Value × List Value → Shared → Prop} {a dx : Addr} {fs : List (Str × V)} (I : Inv X pins σ H s) (S : SMI X.K C m f) (ea : H a = some (.ins C dx fs)) (l : fs.lookup m = none)
    (h : ∀ s', Inv X pins σ H s' → Q (.ref f, []) s') : wpAny (model X.prog X.w) A (getMethod (.ref a) m pl) Q E s := by
  obtain ⟨q, rest, at_, ty, get, tk, rc⟩ := S.ex
  obtain ⟨mA, O, rr, _, _, _⟩ := ins_get I.hok ea
  have hn : mA m = none := RelO.none_of (by rw [← l]; exact rr m)
  obtain ⟨od, J, hl⟩ := O.look
  refine PySem.W.method_usual (r := some (.ref q)) I.kIn J (PySem.W.plainGet_of S.get').1 (PySem.W.plainGet_of S.get').2 at_ ?_ ?_
  · show ((PySem.W.typeIn X.K (.ref q)).any fun t => t != .type "function" && t != .type "method_descriptor" && t != .type "wrapper_descriptor") = true
    rw [ty]
    first
    | rfl
    | decide +kernel
  · refine PySem.W.get_bind I.kIn J (PySem.W.plainGet_of S.get').1 (ClX.find_cm S.ic at_ get tk S.cp (by rw [hl m, hn])) (PySem.W.plainGet_of S.get').2 ?_
    exact wpAny_call (PySem.W.sm_get (s := { s with toks := s.toks + 1 }) I.kIn rc (PySem.W.handed_on rfl (h _ (I.tok _))))
/-- C.m(e, ..), the lacking ones by their defaults -/
theorem pe_smeth {pl : Sem Bool} (he : PE X o ta) (S : SM X.K C m f) (F : FnOk X.prog X.w X.K X.mg X.base CX0 k f fd ps sp) (hr : Room k X.A) (hb : Binds X.K fd ps ds) (hd : Vals dvs ds) (ha : PA X (e :: es) t)
    (hst : starEach (e :: es) X.env = (false, eval e X.env) :: starEach es X.env := by rfl) (hpl : (backTo pos (starEach es X.env)).any (·.1) = false := by rfl)
    (ht : eval (.Call (.Attribute o m apos) (e :: es) [] pos) X.env = (do
      let ov ← eval o X.env
      standAt apos.atName
      let (f, first) ← holding [ov] (getMethod ov m pl)
      callWith pos f first (backTo pos (starEach (e :: es) X.env)) (backToKw pos (keywordEach [] X.env))) := by rfl) :
    PE X (.Call (.Attribute o m apos) (e :: es) [] pos) (fun σ H Q => ta σ H fun x H1 => x = .ref C ∧ t σ H1 fun vs H2 => sp (vs ++ dvs) H2 Q E0) := by
  refine ⟨fun pins s σ H Q I h => ?_⟩
  refine PySem.W.methodCall_KW (pl := pl) (thn (he.run pins s σ H _ I h) fun u s1 ⟨x, H1, I1, rx, ex, q⟩ => ?_) ht
  subst ex
  obtain rfl : u = Value.ref C := rx
  refine getsm_ok I1 S fun s2 I2 => ?_
  refine PySem.W.callWith_K (first := []) (h₀ := X.base) I.ok.mod.kin S.kp (thn (ha.run pos pins s2 σ H1 _ I2 q) fun us s3 ⟨vs, H2, I3, r, q2⟩ => ⟨I3.kIn, ?_⟩) hst hpl
  exact run_fn (us := us) (vs := vs) F hr hb hd pass0 I3 r q2
/-- C.m(e, .., k = v, ..) -/
theorem pe_smethK {pl : Sem Bool} (he : PE X o ta) (S : SM X.K C m f) (F : FnOk X.prog X.w X.K X.mg X.base CX0 k f fd ps sp) (hr : Room k X.A) (hb : KBinds X.K fd ps ks g gV) (ha : PA X (e :: es) t) (hkw : PK X kws tk)
    (hall : (backToKw pos (keywordEach kws X.env)).all (·.1.isSome) = true := by rfl) (hks : (backToKw pos (keywordEach kws X.env)).filterMap (·.1) = ks := by rfl)
    (hst : starEach (e :: es) X.env = (false, eval e X.env) :: starEach es X.env := by rfl)
    (hpl : ((backTo pos (starEach (e :: es) X.env)).any (·.1) || (backToKw pos (keywordEach kws X.env)).any (·.1.isNone)) = false := by rfl)
    (ht : eval (.Call (.Attribute o m apos) (e :: es) kws pos) X.env = (do
      let ov ← eval o X.env
      standAt apos.atName
      let (f, first) ← holding [ov] (getMethod ov m pl)
      callWith pos f first (backTo pos (starEach (e :: es) X.env)) (backToKw pos (keywordEach kws X.env))) := by rfl) :
    PE X (.Call (.Attribute o m apos) (e :: es) kws pos) (fun σ H Q => ta σ H fun x H1 => x = .ref C ∧ t σ H1 fun vs H2 => tk σ H2 fun zs H3 => sp (gV vs zs) H3 Q E0) := by
  refine ⟨fun pins s σ H Q I h => ?_⟩
  refine PySem.W.methodCall_KW (pl := pl) (thn (he.run pins s σ H _ I h) fun u s1 ⟨x, H1, I1, rx, ex, q⟩ => ?_) ht
  subst ex
  obtain rfl : u = Value.ref C := rx
  refine getsm_ok I1 S fun s2 I2 => ?_
  refine PySem.W.callWith_KW (first := []) (h₀ := X.base) I.ok.mod.kin S.kp hall (thn (ha.run pos pins s2 σ H1 _ I2 q) fun us s3 ⟨vs, H2, I3, r, q2⟩ => ?_) hpl hst
  refine thn (hkw.run pos pins s3 σ H2 _ I3 q2) fun ws s4 ⟨zs, H3, I4, rz, q3⟩ => ⟨I4.kIn, ?_⟩
  rw [hks]
  exact run_fnk F hr hb pass0 I4 r rz q3
/-- o.m(e, .., k = v, ..), o an instance of C -/
theorem pe_smethI {pl : Sem Bool} (he : PE X o ta) (S : SMI X.K C m f) (F : FnOk X.prog X.w X.K X.mg X.base CX0 k f fd ps sp) (hr : Room k X.A) (hb : KBinds X.K fd ps ks g gV) (ha : PA X (e :: es) t) (hkw : PK X kws tk)
    (hall : (backToKw pos (keywordEach kws X.env)).all (·.1.isSome) = true := by rfl) (hks : (backToKw pos (keywordEach kws X.env)).filterMap (·.1) = ks := by rfl)
    (hst : starEach (e :: es) X.env = (false, eval e X.env) :: starEach es X.env := by rfl)
    (hpl : ((backTo pos (starEach (e :: es) X.env)).any (·.1) || (backToKw pos (keywordEach kws X.env)).any (·.1.isNone)) = false := by rfl)
    (ht : eval (.Call (.Attribute o m apos) (e :: es) kws pos) X.env = (do
      let ov ← eval o X.env
      standAt apos.atName
      let (f, first) ← holding [ov] (getMethod ov m pl)
      callWith pos f first (backTo pos (starEach (e :: es) X.env)) (backToKw pos (keywordEach kws X.env))) := by rfl) :
    PE X (.Call (.Attribute o m apos) (e :: es) kws pos) (fun σ H Q => ta σ H fun x H1 => ∃ a dx fs, x = .ref a ∧ H1 a = some (.ins C dx fs) ∧ fs.lookup m = none ∧ t σ H1 fun vs H2 => tk σ H2 fun zs H3 => sp (gV vs zs) H3 Q E0) := by
  refine ⟨fun pins s σ H Q I h => ?_⟩
  refine PySem.W.methodCall_KW (pl := pl) (thn (he.run pins s σ H _ I h) fun u s1 ⟨x, H1, I1, rx, a, dx, fs, ex, ea, l, q⟩ => ?_) ht
  subst ex
  obtain rfl : u = Value.ref a := rx
  refine getsmi_ok I1 S ea l fun s2 I2 => ?_
  refine PySem.W.callWith_KW (first := []) (h₀ := X.base) I.ok.mod.kin S.kp hall (thn (ha.run pos pins s2 σ H1 _ I2 q) fun us s3 ⟨vs, H2, I3, r, q2⟩ => ?_) hpl hst
  refine thn (hkw.run pos pins s3 σ H2 _ I3 q2) fun ws s4 ⟨zs, H3, I4, rz, q3⟩ => ⟨I4.kIn, ?_⟩
  rw [hks]
  exact run_fnk F hr hb pass0 I4 r rz q3
end
end
end EV

/-! comprehensions that only make objects: what the new list holds -/
namespace EV
open PySem PySem.Spec PyProof.Rows L2
/-- what the first i turns leave in the new list -/
def gath (f : Nat → Option V) : Nat → List V
  | 0 => []
  | i + 1 => gath f i ++ (f i).toList
theorem gath_le (f : Nat → Option V) : ∀ i, (gath f i).length ≤ i
  | 0 => Nat.le_refl _
  | i + 1 => by
    have := gath_le f i
    show (gath f i ++ (f i).toList).length ≤ i + 1
    rw [List.length_append]
    have : (f i).toList.length ≤ 1 := by cases f i <;> simp
    omega
theorem gath_fm {α : Type} (xs : List α) (f : α → Option V) : ∀ i, i ≤ xs.length → gath (fun j : Nat => xs[j]?.bind f) i = (xs.take i).filterMap f
  | 0, _ => by rw [List.take_zero]; rfl
  | i + 1, h => by
    have hi : i < xs.length := h
    show gath _ i ++ (xs[i]?.bind f).toList = _
    rw [gath_fm xs f i (Nat.le_of_lt hi), List.take_succ, List.filterMap_append, List.getElem?_eq_getElem hi]
    cases e : f xs[i] <;> simp [e]
theorem gath_map {α : Type} (xs : List α) (f : α → V) {n : Nat} (hn : n = xs.length) : gath (fun j : Nat => xs[j]?.map f) n = xs.map f := by
  have e : (fun j : Nat => xs[j]?.map f) = fun j : Nat => xs[j]?.bind fun x => some (f x) := by
    funext j
    cases xs[j]? <;> rfl
  subst hn
  rw [e, gath_fm xs _ _ (Nat.le_refl _), List.take_length]
  induction xs with
  | nil => rfl
  | cons x xs ih => simp
theorem gath_filter {α : Type} (xs : List α) (p : α → Bool) (f : α → V) {n : Nat} (hn : n = xs.length) : gath (fun j : Nat => xs[j]?.bind fun x => if p x = true then some (f x) else none) n = (xs.filter p).map f := by
  subst hn
  rw [gath_fm xs _ _ (Nat.le_refl _), List.take_length]
  induction xs with
  | nil => rfl
  | cons x xs ih =>
    by_cases h : p x = true
    · simp [h, ih]
    · simp [h, ih]
section
variable {J : It} {n : Nat} {G : Hp → Prop} {Y : Nat → Hp → V → Hp → Prop} {g : TG} {tt : TT} {te : TE} {vs : List Nat} {σ : L2.St} {H1 : Hp} {D : Addr} {Qd : Hp → Prop}
theorem lc_fm (w : Walk J n G Y) (f : Nat → Option V) (nD : H1 D = none) (hz : n ≤ 1000000) (hG : ∀ H, Same H1 H → G H)
    (hs : ∀ i x H H' (NT : Hp → Prop) (NE : V → Hp → Prop), i < n → Same H1 H → Y i H x H' → (f i = none → ∀ H3, Same H H3 → NT H3) → (∀ y H4, f i = some y → Same H H4 → NE y H4) →
      g x (wipe σ vs) H' fun σ2 H2 => wipe σ2 vs = wipe σ vs ∧ tt σ2 H2 fun b H3 => if b = true then te σ2 H3 NE else NT H3)
    (hd : ∀ H, Same H1 H → H D = some (.lst (gath f n)) → Qd H) :
    ∃ W : Nat → Nat → Hp → Prop, (∃ m, W 0 m (upd H1 D (.lst []))) ∧ ∀ i m H, W i m H →
      (J.stop i H ∧ Qd H) ∨ (J.go i H ∧ ∃ Nx : Hp → Prop, (∀ H', Nx H' → ∃ m', m' < m ∧ W (i + 1) m' H') ∧ ∀ x H', J.yld i H x H' → g x (wipe σ vs) H' fun σ2 H2 => wipe σ2 vs = wipe σ vs ∧ tt σ2 H2 fun b H3 =>
        if b = true then te σ2 H3 fun y H4 => ∃ acc, H4 D = some (.lst acc) ∧ acc.length < sizeLine ∧ Nx (upd H4 D (.lst (acc ++ [y]))) else Nx H3) := by
  refine lc_it w (fun i H => Same H1 H ∧ H D = some (.lst (gath f i))) ⟨same_upd nD, upd_same⟩ (fun i H _ q => hG H q.1) ?_ fun H q => hd H q.1 q.2
  intro i x H H' hi q y
  refine hs i x H H' _ _ hi q.1 y (fun e H3 s3 => ⟨q.1.trans s3, ?_⟩) (fun y H4 e s4 => ⟨gath f i, s4 _ _ q.2, Nat.lt_of_le_of_lt (gath_le f i) (by rw [sizeLine_eq]; omega), ?_, ?_⟩)
  · show H3 D = some (.lst (gath f i ++ (f i).toList))
    rw [e]
    simpa using s3 _ _ q.2
  · exact same_upd' (q.1.trans s4) nD
  · show upd H4 D _ D = some (.lst (gath f i ++ (f i).toList))
    rw [upd_same, e]
    rfl
end
/-- for a, b in ..: two slots (K told, so that a block's own state does not come into the reading) -/
theorem pg_pair {X : Cx} {K : Fg} {x y : Str} {p1 p2 pos : Pos} {k : Nat} (i j : Nat) (hc : X.calm = true) (hN : X.N.Nodup) (hi : X.N[i]? = some x) (hj : X.N[j]? = some y) (lx : X.env.scope.names.lookup x = some .local)
    (ly : X.env.scope.names.lookup y = some .local) (hK : X.K = K := by rfl) : PG X (.Tuple [.Name x p1, .Name y p2] k pos) (gTup K 2 (gCons (gName i) (gCons (gName j) gNil))) := by
  subst hK
  exact pg_tup hc (pgs_cons (pg_name hN hi (Or.inl lx) (.inr lx)) (pgs_cons (pg_name hN hj (Or.inl ly) (.inr ly)) pgs_nil))
theorem pg_three {X : Cx} {K : Fg} {x y z : Str} {p1 p2 p3 pos : Pos} {k : Nat} (i j l : Nat) (hc : X.calm = true) (hN : X.N.Nodup) (hi : X.N[i]? = some x) (hj : X.N[j]? = some y) (hl : X.N[l]? = some z) (lx : X.env.scope.names.lookup x = some .local)
    (ly : X.env.scope.names.lookup y = some .local) (lz : X.env.scope.names.lookup z = some .local) (hK : X.K = K := by rfl) : PG X (.Tuple [.Name x p1, .Name y p2, .Name z p3] k pos) (gTup K 3 (gCons (gName i) (gCons (gName j) (gCons (gName l) gNil)))) := by
  subst hK
  exact pg_tup hc (pgs_cons (pg_name hN hi (Or.inl lx) (.inr lx)) (pgs_cons (pg_name hN hj (Or.inl ly) (.inr ly)) (pgs_cons (pg_name hN hl (Or.inl lz) (.inr lz)) pgs_nil)))
/-- f'..' of two parts or more, its reading as one word -/
def tJoin (ts : List TE) : TE := fun σ H Q => tJs ts Str.empty σ H fun out H1 => Q (.str out) H1
theorem pe_joinedT {X : Cx} {v1 v2 : Expr} {rest : List Expr} {ts : List TE} {pos : Pos} (h : PJ X (v1 :: v2 :: rest) ts) : PE X (.JoinedStr (v1 :: v2 :: rest) pos) (tJoin ts) := pe_joined h
/-- a value's truth as a test, K told -/
theorem pt_truthK {X : Cx} {K : Fg} {a : Expr} {ta : TE} (ha : PE X a ta) (he : ∀ whole, isTrue a X.env whole = (do let v ← whole; standAt a.pos; holding [v] (truthy v))) (hK : X.K = K := by rfl) :
    PT X a (fun σ H Q => ta σ H fun x H' => ∃ k, TruV K x H' k ∧ Q k H') := by
  subst hK
  exact pt_truth ha he
/-- xs.pop() where K is told -/
theorem pe_popK {X : Cx} {K : Fg} {o : Expr} {to : TE} {apos cpos : Pos} (ho : PE X o to) (hbase : attributeBase o "pop" X.env (eval o X.env) = eval o X.env := by rfl)
    (hline : (apos.endLine == cpos.line) = true := by rfl) (hK : X.K = K := by rfl) : PE X (.Call (.Attribute o "pop" apos) [] [] cpos) (tBM0 K "list" rPop to) := by
  subst hK
  exact pe_bm0 PySem.F.plainAttrs_list PySem.F.slot_list_pop PySem.F.type_list_pop mt_pop ho hbase hline
end EV

/-! a dict made by a comprehension, its keys unlike texts -/
namespace EV
open PySem PySem.Spec PyProof.Rows L2
theorem valV_none {kvs : List (Key × V)} {k : Key} (h : k ∉ kvs.map (·.1)) : valV kvs k = none := by
  unfold valV
  rw [List.find?_eq_none.mpr]
  · rfl
  · intro p hp e
    exact h (List.mem_map.mpr ⟨p, hp, of_decide_eq_true e⟩)
section
variable {J : It} {n : Nat} {G : Hp → Prop} {Y : Nat → Hp → V → Hp → Prop} {g : TG} {tk tv : TE} {vs : List Nat} {σ : L2.St} {H1 : Hp} {D : Addr} {Qd : Hp → Prop}
theorem dc_strs (w : Walk J n G Y) (ks : List Str) (R : Nat → V → Prop) (hn : ks.length = n) (nd : ks.Nodup) (hz : n ≤ 1000000) (nD : H1 D = none) (hG : ∀ H, Same H1 H → G H)
    (hs : ∀ i x H H' (NE : V → V → Hp → Prop), i < n → Same H1 H → Y i H x H' → (∀ k z H5, ks[i]? = some k → R i z → Same H H5 → NE (.str k) z H5) →
      g x (wipe σ vs) H' fun σ2 H2 => wipe σ2 vs = wipe σ vs ∧ tk σ2 H2 fun y H4 => tv σ2 H4 fun z H5 => NE y z H5)
    (hd : ∀ H kvs, Same H1 H → H D = some (.dK kvs) → kvs.map (·.1) = ks.map Sum.inr → (∀ j p, kvs[j]? = some p → R j p.2) → Qd H) :
    ∃ W : Nat → Nat → Hp → Prop, (∃ m, W 0 m (upd H1 D (.dK []))) ∧ ∀ i m H, W i m H →
      (J.stop i H ∧ Qd H) ∨ (J.go i H ∧ ∃ Nx : Hp → Prop, (∀ H', Nx H' → ∃ m', m' < m ∧ W (i + 1) m' H') ∧ ∀ x H', J.yld i H x H' → g x (wipe σ vs) H' fun σ2 H2 => wipe σ2 vs = wipe σ vs ∧ tYes σ2 H2 fun b H3 =>
        if b = true then tk σ2 H3 fun y H4 => tv σ2 H4 fun z H5 => ∃ kvs k, y = kV k ∧ H5 D = some (.dK kvs) ∧ kvs.length < sizeLine ∧ Nx (upd H5 D (.dK (putK kvs k z))) else Nx H3) := by
  let Pv : Nat → Hp → Prop := fun i H => Same H1 H ∧ ∃ kvs : List (Key × V), H D = some (.dK kvs) ∧ kvs.map (·.1) = (ks.take i).map Sum.inr ∧ ∀ j p, kvs[j]? = some p → R j p.2
  refine ⟨fun i m H => m = n - i ∧ i ≤ n ∧ Pv i H, ⟨n, by simp, Nat.zero_le _, same_upd nD, [], upd_same, rfl, fun j p e => by simp at e⟩, ?_⟩
  rintro i m H ⟨rfl, hi, s1, kvs, hD, hk, hR⟩
  have q := hG H s1
  have lk : kvs.length = i := by
    have := congrArg List.length hk
    rw [List.length_map, List.length_map, List.length_take, hn] at this
    omega
  by_cases hlt : i < n
  · refine .inr ⟨w.goes i H hlt q, Pv (i + 1), fun H' p' => ⟨n - (i + 1), by omega, rfl, hlt, p'⟩, fun x H' y => ?_⟩
    refine hs i x H H' _ hlt s1 (w.yields i H x H' hlt q y) fun k z H5 ek rz s5 => ⟨kvs, .inr k, rfl, s5 _ _ hD, by rw [lk, sizeLine_eq]; omega, ?_⟩
    have hnew : (Sum.inr k : Key) ∉ kvs.map (·.1) := by
      rw [hk]
      intro hm
      obtain ⟨z', hz', e⟩ := List.mem_map.mp hm
      injection e with e
      subst e
      obtain ⟨j, hj⟩ := List.mem_iff_getElem?.mp hz'
      have hji : j < i := by
        have := (List.getElem?_eq_some_iff.mp hj).1
        rw [List.length_take] at this
        omega
      rw [List.getElem?_take_of_lt hji] at hj
      have := (List.getElem?_inj (by rw [hn]; omega) nd).mp (hj.trans ek.symm)
      omega
    rw [L2.putK_new z (valV_none hnew)]
    refine ⟨same_upd' (s1.trans s5) nD, _, upd_same, ?_, fun j p e => ?_⟩
    · rw [List.map_append, hk, List.take_succ, ek, List.map_append]
      rfl
    · by_cases hj : j < kvs.length
      · rw [List.getElem?_append_left hj] at e
        exact hR j p e
      · rw [List.getElem?_append_right (Nat.le_of_not_lt hj)] at e
        have e0 : j - kvs.length = 0 := by
          cases q : j - kvs.length with
          | zero => rfl
          | succ m => rw [q] at e; simp at e
        rw [e0] at e
        obtain rfl : (Sum.inr k, z) = p := by simpa using e
        have : j = i := by omega
        rw [this]
        exact rz
  · have e : i = n := by omega
    subst e
    exact .inl ⟨w.stops H q, hd H kvs s1 hD (by rw [hk, List.take_of_length_le (by omega)]) hR⟩
end
end EV

/-! a field of the own error that an except suite holds -/
namespace EV
open PySem PySem.Spec PyProof.Rows L2
def tByX (C : Addr) (f : Str) (a : Addr) (cls : Value) (d : Option Addr) (te : TE) : TE := fun σ H Q => te σ H fun x H1 => x = .ref a ∧ cls = .ref C ∧ ∃ (dd : Addr) (fs : List (Str × V)) (v : V), d = some dd ∧ H1 dd = some (.xd fs) ∧ fs.lookup f = some v ∧ Q v H1
theorem pe_byX {X : Cx} {C a : Addr} {f : Str} {oe : Obj} {cls : Value} {d : Option Addr} {pn : List (Addr × Obj)} {e : Expr} {te : TE} {pos : Pos} (T : XCls X.K C) (no : NoAttr X.K C f) (hz : Zc cls d oe) (hf : ∃ vs, oe.data = .fields vs)
    (he : PE (X.suite a ((a, oe) :: pn)) e te) (hb : attributeBase e f X.env (eval e X.env) = eval e X.env := by rfl) : PE (X.suite a ((a, oe) :: pn)) (.Attribute e f pos) (tByX C f a cls d te) := by
  constructor
  intro pins s σ H Q I h
  refine attr_of hb (thn (he.run pins s σ H _ I h) fun u s1 told => ?_)
  obtain ⟨x, H1, I1, rx, ex, ec, dd, fs, v, ed, ea, l, q⟩ := told
  subst ex ec ed
  obtain rfl : u = Value.ref a := rx
  have ha := (I1.pin (a, oe) (List.mem_append_left _ List.mem_cons_self)).1
  obtain ⟨vs, hd⟩ := hf
  obtain ⟨mA, hns, hr⟩ := (I1.hok dd _ ea : ObjOk X.prog X.w H1 s1.heap dd (.xd fs))
  obtain ⟨od, ho, hl⟩ := lookIn_ns hns
  obtain ⟨u, hu, ru⟩ := RelO.some_of (v := v) (o := mA f) (by rw [← l]; exact hr f)
  have J : PySem.W.InstAt s1.heap a oe C (some od) := ⟨ha, hz.1, by unfold PySem.W.notCls; rw [hd] <;> rfl, by rw [hz.2]; exact ho⟩
  exact HandSPX.exc_get I1.kIn J T.ex.hg T.ex.hk T.ex.hs (PySem.W.findObj_own T.ex.hd no rfl (by rw [hl, hu])) (handed_of ru) ⟨v, H1, I1.tok _, ru, q⟩
end EV

/-! names, signs, makers and texts of libraries, as plain functions -/
namespace LM
open PySem TL L2
abbrev Rw := List Str
structure Op where
  sign : Str
  changed : List Str
  maker : Str
deriving DecidableEq
structure Lib where
  name : Str
  ps : List Str
  kept : List (Str × Str)
  hook : Option Str
  ops : List Op
deriving DecidableEq
def noFields : List Str := ["by", "changes", "name", "of", "to", "world"]
def binary : List Str := ["+", "-", "*", "//", "&", "|", "^", "<<", ">>"]
def unary : List Str := ["neg", "pos", "abs", "invert"]
def rootHooks : List Str := ["named", "call", "names", "renew", "copy", "bare"]
def makers0 : List Str := ["named", "call own", "names own", "bare own"]
def makers1 : List Str := ["named", "call own", "names own", "renew own", "copy own", "bare own", "hook"]
def makers2 : List Str := ["named", "call own", "call other", "call deeper", "call common", "names own", "names other", "names deeper", "names common", "renew own", "renew other", "renew deeper",
  "copy own", "copy other", "copy deeper", "bare own", "hook"]
def makersOf : Nat → List Str
  | 0 => makers0
  | 1 => makers1
  | _ => makers2
def within (lo hi : Nat) (l : List Nat) : Bool := l.all fun c => decide (lo ≤ c) && decide (c ≤ hi)
def small (w : Str) : Bool := decide (1 ≤ w.length) && decide (w.length ≤ 8) && within 97 122 (tl w)
def className (w : Str) : Bool := decide (1 ≤ w.length) && decide (w.length ≤ 8) && within 65 90 ((tl w).take 1) && within 97 122 ((tl w).drop 1)
def fieldName (w : Str) : Bool := small w && !noFields.contains w
def request (w : Str) : Bool := small w && !unary.contains w
def arity (w : Str) : Nat := if binary.contains w then 2 else if unary.contains w then 1 else 0
def firstRow (r : Rw) : Bool := match r with
  | [a, n] => a == "library" && className n
  | _ => false
def hookRow (r : Rw) : Bool := match r with
  | [a, w] => a == "hook" && rootHooks.contains w
  | _ => false
/-- one right `needs` row -/
def needsRow (r : Rw) (found : List Str) : Option Str := match r with
  | [a, f] => if a == "needs" && fieldName f && !found.contains f then some f else none
  | _ => none
def paramsM : List Rw → List Str → List Str
  | [], found => found
  | r :: rs, found => match needsRow r found with
    | some f => paramsM rs (found ++ [f])
    | none => found
def keepsRow (r : Rw) (known : List Str) : Option (Str × Str) := match r with
  | [a, f, o, s] => if a == "keeps" && o == "of" && fieldName f && !known.contains f && known.contains s then some (f, s) else none
  | _ => none
def keptM : List Rw → List Str → List (Str × Str) → List (Str × Str)
  | [], _, found => found
  | r :: rs, known, found => match keepsRow r known with
    | some p => keptM rs (known ++ [p.1]) (found ++ [p])
    | none => found
def selection (ws ps : List Str) : Bool := match ws with
  | [] => true
  | a :: chosen => a == "changes" && !chosen.isEmpty && decide (chosen = ps.filter fun f => chosen.contains f)
def requestM (r : Rw) (ps : List Str) : Option Op := match r with
  | a :: w :: b :: rest => if b == "by" && request w && makers0.contains (Str.join " " rest) then some ⟨w, ps, Str.join " " rest⟩ else none
  | _ => none
def opM (r : Rw) (ps : List Str) : Option Op := match r with
  | [] => none
  | s :: rest =>
    if s == "make" then requestM r ps
    else if (!binary.contains s && !unary.contains s) || !rest.contains "by" then none
    else
      let e := rest.findIdx (· == ("by" : Str))
      let maker := Str.join " " (rest.drop (e + 1))
      if !(makersOf (arity s)).contains maker || !selection (rest.take e) ps then none
      else some ⟨s, (rest.take e).drop 1, maker⟩
/-- from row k on: the operations, or the number of the first wrong row -/
def opsM (ps : List Str) (hook : Option Str) : Nat → List Rw → List Op → Except Nat (List Op)
  | _, [], found => .ok found
  | k, r :: rs, found => match opM r ps with
    | none => .error k
    | some o => if found.length = 6 || (found.map (·.sign)).contains o.sign || (o.maker == "hook" && hook.isNone) then .error k else opsM ps hook (k + 1) rs (found ++ [o])
def opsOf (rows : List Rw) (at_ : Nat) (ps : List Str) (hook : Option Str) : Except Nat (List Op) :=
  if at_ = rows.length then .error at_ else opsM ps hook at_ (rows.drop at_) []
def rowsM (z : Str) : List Rw := (Txt.split z "\n").map fun l => Txt.split l " "
def hookAt (rows : List Rw) (k : Nat) : Option Str := match rows[k]? with
  | some r => if hookRow r then some (r.getD 1 "") else none
  | none => none
def readRows (rows : List Rw) : Except Nat Lib :=
  if !firstRow (rows.headD []) then .error 0 else
  let ps := paramsM ((rows.drop 1).take 3) []
  if ps.isEmpty then .error 1 else
  let at1 := 1 + ps.length
  let kept := keptM ((rows.drop at1).take 2) ps []
  let at2 := at1 + kept.length
  let hk := hookAt rows at2
  let at3 := if hk.isSome then at2 + 1 else at2
  match opsOf rows at3 ps hk with
  | .error k => .error k
  | .ok ops => .ok ⟨(rows.headD []).getD 1 "", ps, kept, hk, ops⟩
def readM (z : Str) : Except Nat Lib := readRows (rowsM z)
def opLine (o : Op) : Str :=
  if arity o.sign = 0 then ("make " : Str) ++ o.sign ++ (" by " : Str) ++ o.maker
  else if o.changed = [] then o.sign ++ (" by " : Str) ++ o.maker
  else o.sign ++ (" changes " : Str) ++ Str.join " " o.changed ++ (" by " : Str) ++ o.maker
def rootLines (n : Str) (ps : List Str) (kept : List (Str × Str)) (hook : Option Str) : List Str :=
  [("library " : Str) ++ n] ++ ps.map (fun p => ("needs " : Str) ++ p) ++ kept.map (fun p => ("keeps " : Str) ++ p.1 ++ (" of " : Str) ++ p.2) ++ (match hook with | some h => [("hook " : Str) ++ h] | none => [])
def linesM (L : Lib) : List Str := rootLines L.name L.ps L.kept L.hook ++ L.ops.map opLine
def textM (L : Lib) : Str := Str.join "\n" (linesM L)
end LM

/-! the text of a library, cut into rows and read back -/
namespace LM
open PySem TL L2
/-! ### cutting at one sign -/
theorem pre1_self (s : Nat) (q : List Nat) : pre [s] (s :: q) = true := pre_self [s] q
theorem pre1_ne {s c : Nat} (q : List Nat) (h : c ≠ s) : pre [s] (c :: q) = false := pre_of_head [] q h
theorem spl1_app (s : Nat) : ∀ (p acc q : List Nat), spl [s] 0 acc (p ++ s :: q) = spl [s] 0 acc p ++ spl [s] 0 [] q
  | [], acc, q => by
    rw [List.nil_append, spl_hit (pre1_self s q), spl_nil]
    rfl
  | c :: p, acc, q => by
    by_cases h : c = s
    · subst h
      rw [List.cons_append, spl_hit (pre1_self _ _), spl_hit (pre1_self _ _)]
      show acc :: spl [c] 0 [] (p ++ c :: q) = acc :: spl [c] 0 [] p ++ spl [c] 0 [] q
      rw [spl1_app c p [] q]
      rfl
    · rw [List.cons_append, spl_miss (pre1_ne _ h), spl_miss (pre1_ne _ h), spl1_app s p _ q]
theorem spl1_join (s : Nat) : ∀ (p acc : List Nat), joinL [s] (spl [s] 0 acc p) = acc ++ p
  | [], acc => by
    rw [spl_nil, List.append_nil]
    rfl
  | c :: p, acc => by
    by_cases h : c = s
    · subst h
      rw [spl_hit (pre1_self _ _)]
      show joinL [c] (acc :: spl [c] 0 [] p) = _
      cases e : spl [c] 0 [] p with
      | nil =>
        have z := spl1_join c p []
        cases p with
        | nil => rw [spl_nil] at e; cases e
        | cons d r =>
          by_cases hd : d = c
          · subst hd; rw [spl_hit (pre1_self _ _)] at e; cases e
          · rw [e] at z; cases z
      | cons a r =>
        show acc ++ ([c] ++ joinL [c] (a :: r)) = _
        rw [← e, spl1_join c p []]
        rfl
    · rw [spl_miss (pre1_ne _ h), spl1_join s p _, List.append_assoc]
      rfl
theorem spl1_ne (s : Nat) (p acc : List Nat) : spl [s] 0 acc p ≠ [] := by
  cases p with
  | nil => rw [spl_nil]; simp
  | cons c p =>
    intro e
    induction p generalizing c acc with
    | nil =>
      by_cases h : c = s
      · subst h; rw [spl_hit (pre1_self _ _)] at e; cases e
      · rw [spl_miss (pre1_ne _ h), spl_nil] at e; cases e
    | cons d p ih =>
      by_cases h : c = s
      · subst h; rw [spl_hit (pre1_self _ _)] at e; cases e
      · rw [spl_miss (pre1_ne _ h)] at e
        exact ih _ _ e
theorem tl_sp : tl (" " : Str) = [32] := by decide +kernel
theorem tl_nl : tl ("\n" : Str) = [10] := by decide +kernel
theorem sp_all : ((" " : Str)).cps.all (· < 256) = true := by decide +kernel
theorem nl_all : (("\n" : Str)).cps.all (· < 256) = true := by decide +kernel
theorem split_sp (x : Str) : (Txt.split x " ").map tl = spl [32] 0 [] (tl x) := by
  rw [split_spl x " " (by rw [tl_sp]; simp) (kind_ok sp_all), tl_sp]
theorem split_app (x y : Str) : Txt.split (x ++ (" " : Str) ++ y) " " = Txt.split x " " ++ Txt.split y " " := by
  refine map_tl_inj ?_
  rw [List.map_append, split_sp, split_sp, split_sp, tl_append, tl_append, tl_sp, List.append_assoc]
  exact spl1_app 32 (tl x) [] (tl y)
theorem split_one {x : Str} (h : 32 ∉ tl x) : Txt.split x " " = [x] := by
  refine map_tl_inj ?_
  rw [split_sp, spl_last1 h]
  rfl
theorem join_split (x : Str) : Str.join " " (Txt.split x " ") = x := by
  refine ext_tl ?_
  rw [tl_join, split_sp, tl_sp, spl1_join 32 (tl x) [], List.nil_append]
theorem split_ne (x : Str) : Txt.split x " " ≠ [] := fun e => by
  have z := split_sp x
  rw [e] at z
  exact spl1_ne 32 (tl x) [] z.symm
theorem split_nl_ne (x : Str) : Txt.split x "\n" ≠ [] := fun e => by
  have z := split_spl x "\n" (by rw [tl_nl]; simp) (kind_ok nl_all)
  rw [e, tl_nl] at z
  exact spl1_ne 10 (tl x) [] z.symm
/-! ### words without blanks -/
def Plain (w : Str) : Prop := 32 ∉ tl w ∧ 10 ∉ tl w
def NoNl (w : Str) : Prop := 10 ∉ tl w
instance (w : Str) : Decidable (Plain w) := inferInstanceAs (Decidable (_ ∧ _))
instance (w : Str) : Decidable (NoNl w) := inferInstanceAs (Decidable (_ ∉ _))
theorem NoNl.app {x y : Str} (h : NoNl x) (k : NoNl y) : NoNl (x ++ y) := by
  unfold NoNl at *
  rw [tl_append, List.mem_append]
  exact fun z => z.elim h k
theorem join_cons2 (s x y : Str) (r : List Str) : Str.join s (x :: y :: r) = x ++ s ++ Str.join s (y :: r) := rfl
theorem split_joinP {ws : List Str} (hne : ws ≠ []) (h : ∀ w ∈ ws, Plain w) : Txt.split (Str.join " " ws) " " = ws := by
  have := split_join (y := (" " : Str)) (s := 32) (S := []) tl_sp sp_all hne (fun p hp => (h p hp).1)
  rwa [join_eq] at this
theorem nonl_join {s : Str} (hs : NoNl s) : ∀ {ws : List Str}, (∀ w ∈ ws, NoNl w) → NoNl (Str.join s ws)
  | [], _ => fun z => by cases z
  | [x], h => h x (List.mem_singleton.mpr rfl)
  | x :: y :: r, h => ((h x (List.mem_cons_self ..)).app hs).app (nonl_join hs fun w hw => h w (List.mem_cons_of_mem _ hw))
theorem within_ne {lo hi c : Nat} {l : List Nat} (h : within lo hi l = true) (hc : c < lo ∨ hi < c) : c ∉ l := fun hm => by
  have := List.all_eq_true.mp h c hm
  simp only [Bool.and_eq_true, decide_eq_true_eq] at this
  omega
theorem plain_small {w : Str} (h : small w = true) : Plain w := by
  unfold small at h
  rw [Bool.and_eq_true] at h
  exact ⟨within_ne h.2 (by omega), within_ne h.2 (by omega)⟩
theorem plain_class {w : Str} (h : className w = true) : Plain w := by
  unfold className at h
  rw [Bool.and_eq_true, Bool.and_eq_true] at h
  have e : tl w = (tl w).take 1 ++ (tl w).drop 1 := (List.take_append_drop 1 _).symm
  constructor
  · rw [e, List.mem_append]
    exact fun z => z.elim (within_ne h.1.2 (by omega)) (within_ne h.2 (by omega))
  · rw [e, List.mem_append]
    exact fun z => z.elim (within_ne h.1.2 (by omega)) (within_ne h.2 (by omega))
theorem plain_field {w : Str} (h : fieldName w = true) : Plain w := by
  unfold fieldName at h
  rw [Bool.and_eq_true] at h
  exact plain_small h.1
theorem plain_of {l : List Str} (h : ∀ w ∈ l, Plain w) {w : Str} (k : l.contains w = true) : Plain w := h w (List.contains_iff_mem.mp k)
/-! ### the rows of a library -/
def opRow (o : Op) : Rw :=
  if arity o.sign = 0 then ([("make" : Str), o.sign, ("by" : Str)] : Rw) ++ Txt.split o.maker " "
  else if o.changed = [] then ([o.sign, ("by" : Str)] : Rw) ++ Txt.split o.maker " "
  else ([o.sign, ("changes" : Str)] : Rw) ++ o.changed ++ ([("by" : Str)] : Rw) ++ Txt.split o.maker " "
def rootRows (n : Str) (ps : List Str) (kept : List (Str × Str)) (hook : Option Str) : List Rw :=
  ([[("library" : Str), n]] : List Rw) ++ ps.map (fun p => [("needs" : Str), p]) ++ kept.map (fun p => [("keeps" : Str), p.1, ("of" : Str), p.2]) ++ (match hook with | some h => [[("hook" : Str), h]] | none => [])
def rowsOf (L : Lib) : List Rw := rootRows L.name L.ps L.kept L.hook ++ L.ops.map opRow
/-- names that make no trouble in a text -/
structure Clean (L : Lib) : Prop where
  name : Plain L.name
  ps : ∀ p ∈ L.ps, Plain p
  kept : ∀ p ∈ L.kept, Plain p.1 ∧ Plain p.2
  hook : ∀ h, L.hook = some h → Plain h
  ops : ∀ o ∈ L.ops, Plain o.sign ∧ (∀ p ∈ o.changed, Plain p) ∧ NoNl o.maker
theorem split_two {x y : Str} (hx : Plain x) (hy : Plain y) : Txt.split (x ++ (" " : Str) ++ y) " " = [x, y] := by
  rw [split_app, split_one hx.1, split_one hy.1]
  rfl
theorem app_assoc (x y z : Str) : x ++ y ++ z = x ++ (y ++ z) := ext_tl (by simp only [tl_append, List.append_assoc])
theorem opLine_row {o : Op} (h : Plain o.sign) (hc : ∀ p ∈ o.changed, Plain p) : Txt.split (opLine o) " " = opRow o := by
  unfold opLine opRow
  have e1 : ("make " : Str) = ("make" : Str) ++ (" " : Str) := by decide +kernel
  have e2 : (" by " : Str) = (" " : Str) ++ ("by" : Str) ++ (" " : Str) := by decide +kernel
  have e3 : (" changes " : Str) = (" " : Str) ++ ("changes" : Str) ++ (" " : Str) := by decide +kernel
  have b : Txt.split ("by" : Str) " " = [("by" : Str)] := split_one (x := ("by" : Str)) (by decide +kernel)
  have m : Txt.split ("make" : Str) " " = [("make" : Str)] := split_one (x := ("make" : Str)) (by decide +kernel)
  have c : Txt.split ("changes" : Str) " " = [("changes" : Str)] := split_one (x := ("changes" : Str)) (by decide +kernel)
  by_cases h0 : arity o.sign = 0
  · rw [if_pos h0, if_pos h0, e1, e2]
    have e : ("make" : Str) ++ (" " : Str) ++ o.sign ++ ((" " : Str) ++ ("by" : Str) ++ (" " : Str)) ++ o.maker = ("make" : Str) ++ (" " : Str) ++ (o.sign ++ (" " : Str) ++ (("by" : Str) ++ (" " : Str) ++ o.maker)) := by
      simp only [app_assoc]
    rw [e, split_app, split_app, split_app, m, b, split_one h.1]
    rfl
  · rw [if_neg h0, if_neg h0]
    by_cases h1 : o.changed = []
    · rw [if_pos h1, if_pos h1, e2]
      have e : o.sign ++ ((" " : Str) ++ ("by" : Str) ++ (" " : Str)) ++ o.maker = o.sign ++ (" " : Str) ++ (("by" : Str) ++ (" " : Str) ++ o.maker) := by simp only [app_assoc]
      rw [e, split_app, split_app, b, split_one h.1]
      rfl
    · rw [if_neg h1, if_neg h1, e2, e3]
      have e : o.sign ++ ((" " : Str) ++ ("changes" : Str) ++ (" " : Str)) ++ Str.join " " o.changed ++ ((" " : Str) ++ ("by" : Str) ++ (" " : Str)) ++ o.maker
          = o.sign ++ (" " : Str) ++ (("changes" : Str) ++ (" " : Str) ++ (Str.join " " o.changed ++ (" " : Str) ++ (("by" : Str) ++ (" " : Str) ++ o.maker))) := by simp only [app_assoc]
      rw [e, split_app, split_app, split_app, split_app, b, c, split_one h.1, split_joinP h1 hc]
      simp only [List.append_assoc, List.cons_append, List.nil_append]
theorem lines_rows {L : Lib} (C : Clean L) : (linesM L).map (fun l => Txt.split l " ") = rowsOf L := by
  unfold linesM rowsOf rootLines rootRows
  have k2 : ∀ {w : Str} (x : Str), Plain w → Plain x → Txt.split (w ++ (" " : Str) ++ x) " " = [w, x] := fun x hw hx => split_two hw hx
  have e1 : ("library " : Str) = ("library" : Str) ++ (" " : Str) := by decide +kernel
  have e2 : ("needs " : Str) = ("needs" : Str) ++ (" " : Str) := by decide +kernel
  have e3 : ("keeps " : Str) = ("keeps" : Str) ++ (" " : Str) := by decide +kernel
  have e4 : (" of " : Str) = (" " : Str) ++ ("of" : Str) ++ (" " : Str) := by decide +kernel
  have e5 : ("hook " : Str) = ("hook" : Str) ++ (" " : Str) := by decide +kernel
  simp only [List.map_append, List.map_map]
  congr 1
  · congr 1
    · congr 1
      · congr 1
        · show [Txt.split (("library " : Str) ++ L.name) " "] = _
          rw [e1, k2 _ (by decide +kernel) C.name]
        · refine List.map_congr_left fun p hp => ?_
          show Txt.split (("needs " : Str) ++ p) " " = _
          rw [e2, k2 _ (by decide +kernel) (C.ps p hp)]
      · refine List.map_congr_left fun p hp => ?_
        show Txt.split (("keeps " : Str) ++ p.1 ++ (" of " : Str) ++ p.2) " " = _
        have e : ("keeps" : Str) ++ (" " : Str) ++ p.1 ++ ((" " : Str) ++ ("of" : Str) ++ (" " : Str)) ++ p.2 = ("keeps" : Str) ++ (" " : Str) ++ (p.1 ++ (" " : Str) ++ (("of" : Str) ++ (" " : Str) ++ p.2)) := by simp only [app_assoc]
        rw [e3, e4, e, split_app, split_app, split_app, split_one (by decide +kernel), split_one (C.kept p hp).1.1, split_one (by decide +kernel), split_one (C.kept p hp).2.1]
        rfl
    · cases e : L.hook with
      | none => rfl
      | some h =>
        show [Txt.split (("hook " : Str) ++ h) " "] = _
        rw [e5, k2 _ (by decide +kernel) (C.hook h e)]
  · refine List.map_congr_left fun o ho => ?_
    exact opLine_row (C.ops o ho).1 (C.ops o ho).2.1
theorem lines_ne (L : Lib) : linesM L ≠ [] := by
  unfold linesM rootLines
  simp
theorem nonl_lit {z : Str} (h : (tl z).contains 10 = false) : NoNl z := fun k => by
  rw [List.contains_iff_mem.mpr k] at h
  cases h
theorem lines_nl {L : Lib} (C : Clean L) : ∀ l ∈ linesM L, NoNl l := by
  intro l hl
  unfold linesM rootLines at hl
  simp only [List.mem_append, List.mem_map] at hl
  have a1 : NoNl ("library " : Str) := nonl_lit (by decide +kernel)
  have a2 : NoNl ("needs " : Str) := nonl_lit (by decide +kernel)
  have a3 : NoNl ("keeps " : Str) := nonl_lit (by decide +kernel)
  have a4 : NoNl (" of " : Str) := nonl_lit (by decide +kernel)
  have a5 : NoNl ("hook " : Str) := nonl_lit (by decide +kernel)
  have a6 : NoNl ("make " : Str) := nonl_lit (by decide +kernel)
  have a7 : NoNl (" by " : Str) := nonl_lit (by decide +kernel)
  have a8 : NoNl (" changes " : Str) := nonl_lit (by decide +kernel)
  have a9 : NoNl (" " : Str) := nonl_lit (by decide +kernel)
  rcases hl with (((hl | ⟨p, hp, rfl⟩) | ⟨p, hp, rfl⟩) | hl) | ⟨o, ho, rfl⟩
  · rw [List.mem_singleton.mp hl]
    exact a1.app C.name.2
  · exact a2.app (C.ps p hp).2
  · exact ((a3.app (C.kept p hp).1.2).app a4).app (C.kept p hp).2.2
  · cases e : L.hook with
    | none => rw [e] at hl; cases hl
    | some h =>
      rw [e] at hl
      rw [List.mem_singleton.mp hl]
      exact a5.app (C.hook h e).2
  · obtain ⟨h1, h2, h3⟩ := C.ops o ho
    unfold opLine
    split
    · exact ((a6.app h1.2).app a7).app h3
    · split
      · exact (NoNl.app (x := o.sign) h1.2 a7).app h3
      · exact (((NoNl.app (x := o.sign) h1.2 a8).app (nonl_join a9 fun w hw => (h2 w hw).2)).app a7).app h3
theorem rows_text {L : Lib} (C : Clean L) : rowsM (textM L) = rowsOf L := by
  unfold rowsM textM
  have := split_join (y := ("\n" : Str)) (s := 10) (S := []) tl_nl nl_all (lines_ne L) (fun p hp => lines_nl C p hp)
  rw [join_eq] at this
  rw [this]
  exact lines_rows C
end LM

/-! the rows of a right library, read -/
namespace LM
open PySem TL L2
def KeptOk : List Str → List (Str × Str) → Prop
  | _, [] => True
  | known, p :: r => fieldName p.1 = true ∧ p.1 ∉ known ∧ p.2 ∈ known ∧ KeptOk (known ++ [p.1]) r
structure RootOk (n : Str) (ps : List Str) (kept : List (Str × Str)) (hook : Option Str) : Prop where
  name : className n = true
  ps0 : ps ≠ []
  ps3 : ps.length ≤ 3
  pf : ∀ p ∈ ps, fieldName p = true
  nd : ps.Nodup
  kept2 : kept.length ≤ 2
  ko : KeptOk ps kept
  hk : ∀ h, hook = some h → h ∈ rootHooks
def needsR (p : Str) : Rw := [("needs" : Str), p]
def keepsR (p : Str × Str) : Rw := [("keeps" : Str), p.1, ("of" : Str), p.2]
theorem needs_none {a : Str} {t : List Str} {found : List Str} (h : a ≠ "needs") : needsRow (a :: t) found = none := by
  unfold needsRow
  split
  · rename_i x f e
    have e1 : a = x := by injection e
    have : (x == ("needs" : Str)) = false := by rw [← e1]; simpa using h
    rw [this]
    rfl
  · rfl
theorem keeps_none {a : Str} {t : List Str} {known : List Str} (h : a ≠ "keeps") : keepsRow (a :: t) known = none := by
  unfold keepsRow
  split
  · rename_i x f o s e
    have e1 : a = x := by injection e
    have : (x == ("keeps" : Str)) = false := by rw [← e1]; simpa using h
    rw [this]
    rfl
  · rfl
theorem hook_none {a : Str} {t : List Str} (h : a ≠ "hook") : hookRow (a :: t) = false := by
  unfold hookRow
  split
  · rename_i x f e
    have e1 : a = x := by injection e
    have : (x == ("hook" : Str)) = false := by rw [← e1]; simpa using h
    rw [this]
    rfl
  · rfl
theorem params_stop {rest : List Rw} {found : List Str} (h : ∀ r ∈ rest.head?, needsRow r found = none) : paramsM rest found = found := by
  cases rest with
  | nil => rfl
  | cons r rs =>
    unfold paramsM
    rw [h r rfl]
theorem params_run : ∀ (ps found : List Str) (rest : List Rw), (∀ p ∈ ps, fieldName p = true) → (found ++ ps).Nodup → (∀ r ∈ rest.head?, needsRow r (found ++ ps) = none) → paramsM (ps.map needsR ++ rest) found = found ++ ps
  | [], found, rest, _, _, h => by
    rw [List.append_nil] at h ⊢
    exact params_stop h
  | p :: ps, found, rest, hf, nd, h => by
    have e : found ++ p :: ps = (found ++ [p]) ++ ps := by rw [List.append_assoc]; rfl
    have np : p ∉ found := by
      intro hm
      rw [List.nodup_append] at nd
      exact nd.2.2 p hm p (List.mem_cons_self ..) rfl
    have q : needsRow (needsR p) found = some p := by
      show (if (("needs" : Str) == "needs") && fieldName p && !found.contains p then some p else none) = some p
      rw [hf p (List.mem_cons_self ..), show found.contains p = false by simpa using np]
      rfl
    show paramsM (needsR p :: (ps.map needsR ++ rest)) found = _
    unfold paramsM
    rw [q]
    rw [e] at nd h ⊢
    exact params_run ps (found ++ [p]) rest (fun z hz => hf z (List.mem_cons_of_mem _ hz)) nd h
theorem kept_stop {rest : List Rw} {known : List Str} {found : List (Str × Str)} (h : ∀ r ∈ rest.head?, ∀ kn, keepsRow r kn = none) : keptM rest known found = found := by
  cases rest with
  | nil => rfl
  | cons r rs =>
    unfold keptM
    rw [h r rfl]
theorem kept_run : ∀ (kept : List (Str × Str)) (known : List Str) (found : List (Str × Str)) (rest : List Rw), KeptOk known kept → (∀ r ∈ rest.head?, ∀ kn, keepsRow r kn = none) → keptM (kept.map keepsR ++ rest) known found = found ++ kept
  | [], known, found, rest, _, h => by
    rw [List.append_nil]
    exact kept_stop h
  | p :: r, known, found, rest, ko, h => by
    obtain ⟨k1, k2, k3, k4⟩ := ko
    have q : keepsRow (keepsR p) known = some p := by
      show (if (("keeps" : Str) == "keeps") && (("of" : Str) == "of") && fieldName p.1 && !known.contains p.1 && known.contains p.2 then some (p.1, p.2) else none) = some p
      rw [k1, show known.contains p.1 = false by simpa using k2, show known.contains p.2 = true by simpa using k3]
      rfl
    show keptM (keepsR p :: (r.map keepsR ++ rest)) known found = _
    unfold keptM
    rw [q]
    have e : found ++ p :: r = (found ++ [p]) ++ r := by rw [List.append_assoc]; rfl
    rw [e]
    exact kept_run r _ _ rest k4 h
/-- rows that begin no root line -/
def Free (R : List Rw) : Prop := ∀ r ∈ R, ∃ a t, r = a :: t ∧ a ≠ ("needs" : Str) ∧ a ≠ ("keeps" : Str) ∧ a ≠ ("hook" : Str)
def hookRows (hook : Option Str) : List Rw := match hook with | some h => [[("hook" : Str), h]] | none => []
theorem read_root {n : Str} {ps : List Str} {kept : List (Str × Str)} {hook : Option Str} {R : List Rw} (C : RootOk n ps kept hook) (F : Free R) :
    readRows (rootRows n ps kept hook ++ R) = match opsOf (rootRows n ps kept hook ++ R) (rootRows n ps kept hook).length ps hook with
      | .error k => .error k
      | .ok ops => .ok ⟨n, ps, kept, hook, ops⟩ := by
  have er : rootRows n ps kept hook ++ R = [("library" : Str), n] :: (ps.map needsR ++ (kept.map keepsR ++ (hookRows hook ++ R))) := by
    unfold rootRows hookRows
    simp only [List.append_assoc, List.cons_append, List.nil_append]
    rfl
  have el : (rootRows n ps kept hook).length = 1 + ps.length + kept.length + (hookRows hook).length := by
    unfold rootRows hookRows
    first
      | (simp only [List.length_append, List.length_map, List.length_cons, List.length_nil, Nat.zero_add]; cases hook <;> rfl)
      | simp only [List.length_append, List.length_map, List.length_cons, List.length_nil, Nat.zero_add]
  rw [er, el]
  generalize hrows : [("library" : Str), n] :: (ps.map needsR ++ (kept.map keepsR ++ (hookRows hook ++ R))) = rows
  have h1 : rows.headD [] = [("library" : Str), n] := by rw [← hrows]; rfl
  have d1 : rows.drop 1 = ps.map needsR ++ (kept.map keepsR ++ (hookRows hook ++ R)) := by rw [← hrows]; rfl
  have hdF : ∀ r ∈ (hookRows hook ++ R).head?, (∀ kn, keepsRow r kn = none) ∧ ∀ f, needsRow r f = none := by
    intro r hr
    cases hook with
    | some h =>
      obtain rfl : [("hook" : Str), h] = r := by simpa [hookRows] using hr
      exact ⟨fun kn => keeps_none (by decide +kernel), fun f => needs_none (by decide +kernel)⟩
    | none =>
      cases R with
      | nil => cases hr
      | cons x xs =>
        obtain rfl : x = r := by simpa [hookRows] using hr
        obtain ⟨a, t, rfl, a1, a2, a3⟩ := F _ (List.mem_cons_self ..)
        exact ⟨fun kn => keeps_none a2, fun f => needs_none a1⟩
  have hP : paramsM ((rows.drop 1).take 3) [] = ps := by
    rw [d1, List.take_append, List.take_of_length_le (by rw [List.length_map]; exact C.ps3)]
    rw [params_run ps [] _ C.pf (by simpa using C.nd) ?_]
    · rfl
    · intro r hr
      have hr2 : r ∈ (kept.map keepsR ++ (hookRows hook ++ R)).head? := by
        rw [List.length_map] at hr
        cases e : 3 - ps.length with
        | zero => rw [e, List.take_zero] at hr; cases hr
        | succ j =>
          rw [e] at hr
          cases z : kept.map keepsR ++ (hookRows hook ++ R) with
          | nil => rw [z] at hr; cases hr
          | cons x xs => rw [z] at hr; exact hr
      cases kept with
      | nil => exact (hdF r hr2).2 _
      | cons p q =>
        obtain rfl : keepsR p = r := by simpa using hr2
        exact needs_none (by decide +kernel)
  have d2 : rows.drop (1 + ps.length) = kept.map keepsR ++ (hookRows hook ++ R) := by
    rw [← List.drop_drop, d1]
    exact List.drop_left' (by rw [List.length_map])
  have hK : keptM ((rows.drop (1 + ps.length)).take 2) ps [] = kept := by
    rw [d2, List.take_append, List.take_of_length_le (by rw [List.length_map]; exact C.kept2)]
    rw [kept_run kept ps [] _ C.ko ?_]
    · rfl
    · intro r hr
      have hr2 : r ∈ (hookRows hook ++ R).head? := by
        rw [List.length_map] at hr
        cases e : 2 - kept.length with
        | zero => rw [e, List.take_zero] at hr; cases hr
        | succ j =>
          rw [e] at hr
          cases z : hookRows hook ++ R with
          | nil => rw [z] at hr; cases hr
          | cons x xs => rw [z] at hr; exact hr
      exact (hdF r hr2).1
  have d3 : rows.drop (1 + ps.length + kept.length) = hookRows hook ++ R := by
    rw [← List.drop_drop, d2]
    exact List.drop_left' (by rw [List.length_map])
  have g3 : rows[1 + ps.length + kept.length]? = (hookRows hook ++ R).head? := by
    rw [← d3, List.head?_drop]
  have hH : hookAt rows (1 + ps.length + kept.length) = hook := by
    unfold hookAt
    rw [g3]
    cases hook with
    | some h =>
      have q : hookRow [("hook" : Str), h] = true := by
        show ((("hook" : Str) == "hook") && rootHooks.contains h) = true
        rw [show rootHooks.contains h = true by simpa using C.hk h rfl]
        rfl
      show (if hookRow [("hook" : Str), h] then some h else none) = some h
      rw [q]
      rfl
    | none =>
      cases R with
      | nil => rfl
      | cons x xs =>
        obtain ⟨a, t, rfl, a1, a2, a3⟩ := F _ (List.mem_cons_self ..)
        show (if hookRow (a :: t) then some ((a :: t).getD 1 "") else none) = none
        rw [hook_none a3]
        rfl
  have hE : ps.isEmpty = false := by
    cases ps with
    | nil => exact absurd rfl C.ps0
    | cons _ _ => rfl
  have hF : firstRow [("library" : Str), n] = true := by
    show ((("library" : Str) == "library") && className n) = true
    rw [C.name]
    rfl
  unfold readRows
  simp only [h1, hF, hP, hE, hK, hH, Bool.not_true, Bool.false_eq_true, if_false]
  have h3 : (if hook.isSome = true then 1 + ps.length + kept.length + 1 else 1 + ps.length + kept.length) = 1 + ps.length + kept.length + (hookRows hook).length := by
    cases hook <;> rfl
  rw [h3]
  rfl
theorem opsOf_root {n : Str} {ps : List Str} {kept : List (Str × Str)} {hook : Option Str} {R : List Rw} (h : R ≠ []) :
    opsOf (rootRows n ps kept hook ++ R) (rootRows n ps kept hook).length ps hook = opsM ps hook (rootRows n ps kept hook).length R [] := by
  unfold opsOf
  rw [if_neg ?_, List.drop_left]
  rw [List.length_append]
  have := List.length_pos_iff.mpr h
  omega
/-! ### operations -/
/-- sign and changed parameters are right; a request changes all -/
structure OpForm (ps : List Str) (o : Op) : Prop where
  sg : binary.contains o.sign = true ∨ unary.contains o.sign = true ∨ (request o.sign = true ∧ o.changed = ps)
  ch : o.changed = ps.filter fun f => o.changed.contains f
  nb : ∀ p ∈ o.changed, p ≠ ("by" : Str)
theorem free_op {ps : List Str} {o : Op} (h : OpForm ps o) (hr : arity o.sign = 0 ∨ binary.contains o.sign = true ∨ unary.contains o.sign = true) : ∃ a t, opRow o = a :: t ∧ a ≠ ("needs" : Str) ∧ a ≠ ("keeps" : Str) ∧ a ≠ ("hook" : Str) := by
  unfold opRow
  by_cases h0 : arity o.sign = 0
  · rw [if_pos h0]
    exact ⟨("make" : Str), _, rfl, by decide +kernel, by decide +kernel, by decide +kernel⟩
  · rw [if_neg h0]
    have hb : o.sign ∈ binary ∨ o.sign ∈ unary := by
      rcases hr with hr | hr | hr
      · exact absurd hr h0
      · exact .inl (List.contains_iff_mem.mp hr)
      · exact .inr (List.contains_iff_mem.mp hr)
    have key : ∀ s ∈ binary ++ unary, s ≠ ("needs" : Str) ∧ s ≠ ("keeps" : Str) ∧ s ≠ ("hook" : Str) := by decide +kernel
    have k := key o.sign (List.mem_append.mpr hb)
    split
    · exact ⟨o.sign, _, rfl, k.1, k.2.1, k.2.2⟩
    · exact ⟨o.sign, _, rfl, k.1, k.2.1, k.2.2⟩
theorem arity_bin {s : Str} (h : binary.contains s = true) : arity s = 2 := by
  unfold arity
  rw [if_pos h]
theorem arity_un {s : Str} (h : binary.contains s = false) (h2 : unary.contains s = true) : arity s = 1 := by
  unfold arity
  rw [h, h2]
  rfl
theorem bin_not_small : ∀ s ∈ binary, small s = false := by decide +kernel
theorem arity_req {s : Str} (h : request s = true) : arity s = 0 ∧ binary.contains s = false ∧ unary.contains s = false := by
  unfold request at h
  rw [Bool.and_eq_true, Bool.not_eq_true'] at h
  have hb : binary.contains s = false := by
    cases e : binary.contains s with
    | false => rfl
    | true =>
      have z := bin_not_small s (List.contains_iff_mem.mp e)
      rw [h.1] at z
      cases z
  refine ⟨?_, hb, h.2⟩
  unfold arity
  rw [hb, h.2]
  rfl
theorem findIdx_by {pre : List Str} {rest : List Str} (h : ∀ p ∈ pre, p ≠ ("by" : Str)) : (pre ++ ("by" : Str) :: rest).findIdx (· == ("by" : Str)) = pre.length := by
  rw [List.findIdx_append]
  have : pre.findIdx (· == ("by" : Str)) = pre.length := List.findIdx_eq_length.mpr fun x hx => by simpa using h x hx
  rw [this]
  simp [List.findIdx_cons]
theorem opM_row {ps : List Str} {o : Op} (h : OpForm ps o) (hps : ps ≠ []) : opM (opRow o) ps = if (makersOf (arity o.sign)).contains o.maker then some o else none := by
  by_cases hr : request o.sign = true ∧ binary.contains o.sign = false ∧ unary.contains o.sign = false
  · obtain ⟨hq, hb, hu⟩ := hr
    have ec : o.changed = ps := by
      rcases h.sg with z | z | z
      · rw [z] at hb; cases hb
      · rw [z] at hu; cases hu
      · exact z.2
    obtain ⟨a0, _, _⟩ := arity_req hq
    have e : opRow o = ("make" : Str) :: o.sign :: ("by" : Str) :: Txt.split o.maker " " := by
      unfold opRow
      rw [if_pos a0]
      rfl
    rw [e, a0]
    show requestM (("make" : Str) :: o.sign :: ("by" : Str) :: Txt.split o.maker " ") ps = _
    unfold requestM
    simp only [join_split]
    show (if (("by" : Str) == "by") && request o.sign && makers0.contains o.maker then some (⟨o.sign, ps, o.maker⟩ : Op) else none) = if makers0.contains o.maker then some o else none
    rw [hq, ← ec]
    rfl
  · have hs : binary.contains o.sign = true ∨ unary.contains o.sign = true := by
      rcases h.sg with z | z | z
      · exact .inl z
      · exact .inr z
      · exact absurd ⟨z.1, (arity_req z.1).2⟩ hr
    have a0 : arity o.sign ≠ 0 := by
      rcases hs with z | z
      · rw [arity_bin z]; decide
      · cases e : binary.contains o.sign with
        | true => rw [arity_bin e]; decide
        | false => rw [arity_un e z]; decide
    have nm : o.sign ≠ ("make" : Str) := by
      have key : ∀ s ∈ binary ++ unary, s ≠ ("make" : Str) := by decide +kernel
      exact key o.sign (List.mem_append.mpr (hs.imp (fun z => List.contains_iff_mem.mp z) fun z => List.contains_iff_mem.mp z))
    have hpre : ∃ pre : List Str, opRow o = o.sign :: (pre ++ ("by" : Str) :: Txt.split o.maker " ") ∧ (∀ p ∈ pre, p ≠ ("by" : Str)) ∧ selection pre ps = true ∧ pre.drop 1 = o.changed := by
      unfold opRow
      rw [if_neg a0]
      by_cases hc : o.changed = []
      · rw [if_pos hc]
        exact ⟨[], rfl, (fun p hp => by cases hp), rfl, by rw [hc]; rfl⟩
      · rw [if_neg hc]
        refine ⟨("changes" : Str) :: o.changed, by simp, ?_, ?_, rfl⟩
        · intro p hp
          rcases List.mem_cons.mp hp with rfl | hp
          · decide +kernel
          · exact h.nb p hp
        · have e1 : o.changed.isEmpty = false := by
            cases e : o.changed with
            | nil => exact absurd e hc
            | cons _ _ => rfl
          show ((("changes" : Str) == "changes") && !o.changed.isEmpty && decide (o.changed = ps.filter fun f => o.changed.contains f)) = true
          rw [e1, decide_eq_true h.ch]
          rfl
    obtain ⟨pre, e, hb, hsel, hd⟩ := hpre
    rw [e]
    unfold opM
    have n1 : (o.sign == ("make" : Str)) = false := by simpa using nm
    have n2 : (!binary.contains o.sign && !unary.contains o.sign) = false := by
      rcases hs with z | z <;> rw [z] <;> simp
    have n3 : (pre ++ ("by" : Str) :: Txt.split o.maker " ").contains "by" = true := by simp
    have ft : (pre ++ ("by" : Str) :: Txt.split o.maker " ").take pre.length = pre := List.take_left
    have fd : (pre ++ ("by" : Str) :: Txt.split o.maker " ").drop (pre.length + 1) = Txt.split o.maker " " := by
      rw [← List.drop_drop, List.drop_left]
      rfl
    simp only [n1, n2, n3, findIdx_by hb, ft, fd, join_split, hsel, hd, Bool.not_true, Bool.or_false, Bool.false_eq_true, if_false]
    cases (makersOf (arity o.sign)).contains o.maker <;> rfl
/-- the maker is allowed -/
def mkOk (hook : Option Str) (o : Op) : Bool := (makersOf (arity o.sign)).contains o.maker && !(o.maker == "hook" && hook.isNone)
theorem ops_run {ps : List Str} {hook : Option Str} (hps : ps ≠ []) : ∀ (ops : List Op) (k : Nat) (found : List Op), (∀ o ∈ ops, OpForm ps o) → found.length + ops.length ≤ 6 → ((found ++ ops).map (·.sign)).Nodup →
    (ops.all (mkOk hook) = true → opsM ps hook k (ops.map opRow) found = .ok (found ++ ops)) ∧ (ops.all (mkOk hook) = false → ∃ i, opsM ps hook k (ops.map opRow) found = .error i)
  | [], k, found, _, _, _ => ⟨fun _ => by rw [List.append_nil]; rfl, fun h => by cases h⟩
  | o :: ops, k, found, hf, hl, nd => by
    have e : found ++ o :: ops = (found ++ [o]) ++ ops := by rw [List.append_assoc]; rfl
    have hl' : found.length + 1 + ops.length ≤ 6 := by
      rw [List.length_cons] at hl
      omega
    have nn : (found.map (·.sign)).contains o.sign = false := by
      rw [List.map_append, List.nodup_append] at nd
      cases z : (found.map (·.sign)).contains o.sign with
      | false => rfl
      | true => exact absurd rfl (nd.2.2 o.sign (List.contains_iff_mem.mp z) o.sign (List.mem_cons_self ..))
    have ih := ops_run (hook := hook) hps ops (k + 1) (found ++ [o]) (fun z hz => hf z (List.mem_cons_of_mem _ hz)) (by rw [List.length_append]; exact hl') (by rw [← e]; exact nd)
    have step : opsM ps hook k (opRow o :: ops.map opRow) found = if mkOk hook o = true then opsM ps hook (k + 1) (ops.map opRow) (found ++ [o]) else .error k := by
      show (match opM (opRow o) ps with
        | none => Except.error k
        | some (o : Op) => if found.length = 6 || (found.map (fun z : Op => z.sign)).contains o.sign || (o.maker == "hook" && hook.isNone) then .error k else opsM ps hook (k + 1) (ops.map opRow) (found ++ [o])) = _
      rw [opM_row (hf o (List.mem_cons_self ..)) hps]
      unfold mkOk
      cases (makersOf (arity o.sign)).contains o.maker with
      | false => rfl
      | true =>
        show (if decide (found.length = 6) || (found.map (fun z : Op => z.sign)).contains o.sign || (o.maker == "hook" && hook.isNone) then Except.error k else opsM ps hook (k + 1) (ops.map opRow) (found ++ [o])) = _
        rw [nn, show decide (found.length = 6) = false from decide_eq_false (by omega)]
        cases (o.maker == ("hook" : Str) && hook.isNone) <;> rfl
    show (_ → opsM ps hook k (opRow o :: ops.map opRow) found = _) ∧ (_ → ∃ i, opsM ps hook k (opRow o :: ops.map opRow) found = _)
    rw [step, e]
    cases hm : mkOk hook o with
    | true =>
      refine ⟨fun h => ?_, fun h => ?_⟩
      · rw [if_pos rfl]
        rw [List.all_cons, hm, Bool.true_and] at h
        exact ih.1 h
      · rw [if_pos rfl]
        rw [List.all_cons, hm, Bool.true_and] at h
        exact ih.2 h
    | false =>
      refine ⟨fun h => ?_, fun _ => ⟨k, rfl⟩⟩
      rw [List.all_cons, hm] at h
      cases h
/-- a library whose makers may be any words -/
structure LibOk (L : Lib) : Prop where
  root : RootOk L.name L.ps L.kept L.hook
  ops0 : L.ops ≠ []
  ops6 : L.ops.length ≤ 6
  nd : (L.ops.map (·.sign)).Nodup
  form : ∀ o ∈ L.ops, OpForm L.ps o
  nl : ∀ o ∈ L.ops, NoNl o.maker
theorem kept_plain : ∀ {kept : List (Str × Str)} {known : List Str}, KeptOk known kept → (∀ p ∈ known, Plain p) → ∀ p ∈ kept, Plain p.1 ∧ Plain p.2
  | [], _, _, _, p, hp => by cases hp
  | q :: r, known, ko, hk, p, hp => by
    obtain ⟨k1, k2, k3, k4⟩ := ko
    rcases List.mem_cons.mp hp with rfl | hp
    · exact ⟨plain_field k1, hk _ k3⟩
    · refine kept_plain k4 (fun z hz => ?_) p hp
      rcases List.mem_append.mp hz with hz | hz
      · exact hk z hz
      · rw [List.mem_singleton.mp hz]
        exact plain_field k1
theorem LibOk.clean {L : Lib} (h : LibOk L) : Clean L := by
  have hp : ∀ p ∈ L.ps, Plain p := fun p hp => plain_field (h.root.pf p hp)
  refine ⟨plain_class h.root.name, hp, kept_plain h.root.ko hp, fun w hw => ?_, fun o ho => ⟨?_, fun p hq => ?_, h.nl o ho⟩⟩
  · have key : ∀ s ∈ rootHooks, Plain s := by decide +kernel
    exact key w (h.root.hk w hw)
  · have key : ∀ s ∈ binary ++ unary, Plain s := by decide +kernel
    rcases (h.form o ho).sg with z | z | z
    · exact key _ (List.mem_append.mpr (.inl (List.contains_iff_mem.mp z)))
    · exact key _ (List.mem_append.mpr (.inr (List.contains_iff_mem.mp z)))
    · unfold request at z
      rw [Bool.and_eq_true] at z
      exact plain_small z.1.1
  · rw [(h.form o ho).ch] at hq
    exact hp p (List.mem_filter.mp hq).1
theorem LibOk.free {L : Lib} (h : LibOk L) : Free (L.ops.map opRow) := by
  intro r hr
  obtain ⟨o, ho, rfl⟩ := List.mem_map.mp hr
  refine free_op (h.form o ho) ?_
  rcases (h.form o ho).sg with z | z | z
  · exact .inr (.inl z)
  · exact .inr (.inr z)
  · exact .inl (arity_req z.1).1
/-- THE TEXT IS READ BACK, if and only if its makers are allowed -/
theorem read_text {L : Lib} (h : LibOk L) : (L.ops.all (mkOk L.hook) = true → readM (textM L) = .ok L) ∧ (L.ops.all (mkOk L.hook) = false → ∃ i, readM (textM L) = .error i) := by
  have hne : L.ops.map opRow ≠ [] := fun e => h.ops0 (List.map_eq_nil_iff.mp e)
  have e : readM (textM L) = match opsM L.ps L.hook (rootRows L.name L.ps L.kept L.hook).length (L.ops.map opRow) [] with
      | .error k => .error k
      | .ok ops => .ok ⟨L.name, L.ps, L.kept, L.hook, ops⟩ := by
    unfold readM
    rw [rows_text h.clean]
    unfold rowsOf
    rw [read_root h.root h.free, opsOf_root hne]
  have r := ops_run (hook := L.hook) h.root.ps0 L.ops (rootRows L.name L.ps L.kept L.hook).length [] h.form (by simpa using h.ops6) (by simpa using h.nd)
  refine ⟨fun k => ?_, fun k => ?_⟩
  · rw [e, r.1 k]
    rfl
  · obtain ⟨i, hi⟩ := r.2 k
    exact ⟨i, by rw [e, hi]⟩
end LM

/-! what a library that was read is like: short names, few of them, signs unlike -/
namespace LM
open PySem TL L2
def Sh (w : Str) : Prop := w.length ≤ 1000
theorem sh_small {w : Str} (h : small w = true) : Sh w := by
  unfold small at h
  rw [Bool.and_eq_true, Bool.and_eq_true] at h
  have := of_decide_eq_true h.1.2
  show w.length ≤ 1000
  omega
theorem sh_field {w : Str} (h : fieldName w = true) : Sh w := by
  unfold fieldName at h
  rw [Bool.and_eq_true] at h
  exact sh_small h.1
theorem sh_class {w : Str} (h : className w = true) : Sh w := by
  unfold className at h
  rw [Bool.and_eq_true, Bool.and_eq_true, Bool.and_eq_true] at h
  have := of_decide_eq_true h.1.1.2
  show w.length ≤ 1000
  omega
instance (w : Str) : Decidable (Sh w) := inferInstanceAs (Decidable (_ ≤ _))
theorem sh_hooks : ∀ w ∈ rootHooks, Sh w := by decide +kernel
theorem sh_signs : ∀ w ∈ binary ++ unary, Sh w := by decide +kernel
theorem sh_makers : ∀ w ∈ makers0 ++ makers1 ++ makers2, Sh w := by decide +kernel
theorem sh_maker {n : Nat} {w : Str} (h : (makersOf n).contains w = true) : Sh w := by
  have hm := List.contains_iff_mem.mp h
  refine sh_makers w ?_
  match n, hm with
  | 0, hm => exact List.mem_append_left _ (List.mem_append_left _ hm)
  | 1, hm => exact List.mem_append_left _ (List.mem_append_right _ hm)
  | _ + 2, hm => exact List.mem_append_right _ hm
theorem strOk_small {w : Str} (h : small w = true) : PySem.PyData.strOk w = true := by
  unfold small at h
  rw [Bool.and_eq_true] at h
  unfold PySem.PyData.strOk
  rw [Array.all_eq_true_iff_forall_mem]
  intro c hc
  have := List.all_eq_true.mp h.2 c (Array.mem_toList_iff.mpr hc)
  simp only [Bool.and_eq_true, decide_eq_true_eq] at this
  exact decide_eq_true (by omega)
theorem strOk_field {w : Str} (h : fieldName w = true) : PySem.PyData.strOk w = true := by
  unfold fieldName at h
  rw [Bool.and_eq_true] at h
  exact strOk_small h.1
theorem needs_some {r : Rw} {found : List Str} {f : Str} (h : needsRow r found = some f) : fieldName f = true := by
  unfold needsRow at h
  split at h
  · split at h
    · rename_i c
      injection h with h
      subst h
      simp only [Bool.and_eq_true] at c
      exact c.1.2
    · cases h
  · cases h
theorem params_good : ∀ (rs : List Rw) (found : List Str), (∀ f ∈ found, fieldName f = true) → (∀ f ∈ paramsM rs found, fieldName f = true) ∧ (paramsM rs found).length ≤ found.length + rs.length
  | [], found, h => ⟨h, Nat.le_refl _⟩
  | r :: rs, found, h => by
    unfold paramsM
    cases e : needsRow r found with
    | none => exact ⟨h, by show found.length ≤ _; omega⟩
    | some f =>
      have ih := params_good rs (found ++ [f]) fun z hz => by
        rcases List.mem_append.mp hz with hz | hz
        · exact h z hz
        · rw [List.mem_singleton.mp hz]
          exact needs_some e
      refine ⟨ih.1, ?_⟩
      have := ih.2
      rw [List.length_append] at this
      show (paramsM rs (found ++ [f])).length ≤ found.length + (rs.length + 1)
      simp at this
      omega
theorem keeps_some {r : Rw} {known : List Str} {p : Str × Str} (h : keepsRow r known = some p) : fieldName p.1 = true ∧ p.2 ∈ known := by
  unfold keepsRow at h
  split at h
  · split at h
    · rename_i c
      injection h with h
      subst h
      simp only [Bool.and_eq_true] at c
      exact ⟨c.1.1.2, List.contains_iff_mem.mp c.2⟩
    · cases h
  · cases h
theorem kept_good : ∀ (rs : List Rw) (known : List Str) (found : List (Str × Str)), (∀ f ∈ known, Sh f) → (∀ p ∈ found, Sh p.1 ∧ Sh p.2) → (∀ p ∈ keptM rs known found, Sh p.1 ∧ Sh p.2) ∧ (keptM rs known found).length ≤ found.length + rs.length
  | [], known, found, _, h => ⟨h, Nat.le_refl _⟩
  | r :: rs, known, found, hk, h => by
    unfold keptM
    cases e : keepsRow r known with
    | none => exact ⟨h, by show found.length ≤ _; omega⟩
    | some p =>
      obtain ⟨e1, e2⟩ := keeps_some e
      have ih := kept_good rs (known ++ [p.1]) (found ++ [p]) (fun z hz => by
        rcases List.mem_append.mp hz with hz | hz
        · exact hk z hz
        · rw [List.mem_singleton.mp hz]
          exact sh_field e1) fun z hz => by
        rcases List.mem_append.mp hz with hz | hz
        · exact h z hz
        · rw [List.mem_singleton.mp hz]
          exact ⟨sh_field e1, hk _ e2⟩
      refine ⟨ih.1, ?_⟩
      have := ih.2
      rw [List.length_append] at this
      show (keptM rs (known ++ [p.1]) (found ++ [p])).length ≤ found.length + (rs.length + 1)
      simp at this
      omega
structure OpGood (ps : List Str) (o : Op) : Prop where
  sign : Sh o.sign
  maker : Sh o.maker
  sub : ∀ p ∈ o.changed, p ∈ ps
  len : o.changed.length ≤ ps.length
theorem op_good {r : Rw} {ps : List Str} {o : Op} (h : opM r ps = some o) : OpGood ps o := by
  unfold opM at h
  split at h
  · cases h
  · rename_i s rest
    split at h
    · unfold requestM at h
      split at h
      · split at h
        · rename_i c
          injection h with h
          subst h
          simp only [Bool.and_eq_true] at c
          refine ⟨?_, sh_maker (n := 0) c.2, fun p hp => hp, Nat.le_refl _⟩
          have q := c.1.2
          unfold request at q
          rw [Bool.and_eq_true] at q
          exact sh_small q.1
        · cases h
      · cases h
    · split at h
      · cases h
      · rename_i c1
        dsimp only at h
        split at h
        · cases h
        · rename_i c2
          injection h with h
          subst h
          rw [Bool.or_eq_true, not_or] at c1 c2
          have hs : s ∈ binary ++ unary := by
            cases hb : binary.contains s with
            | true => exact List.mem_append_left _ (List.contains_iff_mem.mp hb)
            | false =>
              cases hu : unary.contains s with
              | true => exact List.mem_append_right _ (List.contains_iff_mem.mp hu)
              | false => exact absurd (by rw [hb, hu]; rfl) c1.1
          have hm := c2.1
          have hsel := c2.2
          rw [Bool.not_eq_true', Bool.not_eq_false] at hm hsel
          refine ⟨sh_signs s hs, sh_maker hm, ?_, ?_⟩
          · show ∀ p ∈ (rest.take _).drop 1, _
            generalize rest.take _ = ws at hsel
            cases ws with
            | nil => intro p hp; cases hp
            | cons a ch =>
              intro p hp
              unfold selection at hsel
              simp only [Bool.and_eq_true] at hsel
              have e := of_decide_eq_true hsel.2
              have hp' : p ∈ ch := hp
              rw [e] at hp'
              exact (List.mem_filter.mp hp').1
          · show ((rest.take _).drop 1).length ≤ _
            generalize rest.take _ = ws at hsel
            cases ws with
            | nil => exact Nat.zero_le _
            | cons a ch =>
              unfold selection at hsel
              simp only [Bool.and_eq_true] at hsel
              have e := of_decide_eq_true hsel.2
              show ch.length ≤ _
              rw [e]
              exact List.length_filter_le _ _
theorem ops_good {ps : List Str} {hk : Option Str} : ∀ (rs : List Rw) (k : Nat) (found ops : List Op), opsM ps hk k rs found = .ok ops → (∀ o ∈ found, OpGood ps o) → (found.map (·.sign)).Nodup → found.length ≤ 6 →
    (∀ o ∈ ops, OpGood ps o) ∧ (ops.map (·.sign)).Nodup ∧ ops.length ≤ 6
  | [], k, found, ops, h, g, nd, l => by
    injection h with h
    subst h
    exact ⟨g, nd, l⟩
  | r :: rs, k, found, ops, h, g, nd, l => by
    unfold opsM at h
    cases e : opM r ps with
    | none => rw [e] at h; cases h
    | some o =>
      rw [e] at h
      dsimp only at h
      split at h
      · cases h
      · rename_i c
        rw [Bool.or_eq_true, not_or, Bool.or_eq_true, not_or] at c
        have n6 : found.length ≠ 6 := fun z => c.1.1 (decide_eq_true z)
        have ns : o.sign ∉ found.map (·.sign) := fun z => c.1.2 (List.contains_iff_mem.mpr z)
        refine ops_good rs (k + 1) (found ++ [o]) ops h (fun z hz => ?_) ?_ ?_
        · rcases List.mem_append.mp hz with hz | hz
          · exact g z hz
          · rw [List.mem_singleton.mp hz]
            exact op_good e
        · rw [List.map_append, List.nodup_append]
          refine ⟨nd, by simp, fun a ha b hb => ?_⟩
          rw [List.mem_singleton.mp hb]
          exact fun e => ns (by have e' : a = o.sign := e; rw [← e']; exact ha)
        · rw [List.length_append]
          show found.length + 1 ≤ 6
          omega
end LM

/-! sizes of the parts of a text -/
namespace LM
open PySem TL L2
theorem len_joinL (s : Nat) : ∀ ps : List (List Nat), ps ≠ [] → (joinL [s] ps).length + 1 = (ps.map List.length).sum + ps.length
  | [], h => absurd rfl h
  | [p], _ => by simp [joinL]
  | p :: q :: r, _ => by
    have ih := len_joinL s (q :: r) (by simp)
    show (p ++ ([s] ++ joinL [s] (q :: r))).length + 1 = _
    simp only [List.length_append, List.map_cons, List.sum_cons, List.length_cons, List.length_nil] at ih ⊢
    omega
theorem mem_joinL (s : Nat) : ∀ (ps : List (List Nat)) (p : List Nat) (c : Nat), p ∈ ps → c ∈ p → c ∈ joinL [s] ps
  | [], _, _, h, _ => by cases h
  | [q], p, c, h, hc => by
    rw [List.mem_singleton.mp h] at hc
    exact hc
  | q :: q' :: r, p, c, h, hc => by
    show c ∈ q ++ ([s] ++ joinL [s] (q' :: r))
    rcases List.mem_cons.mp h with rfl | h
    · exact List.mem_append_left _ hc
    · exact List.mem_append_right _ (List.mem_append_right _ (mem_joinL s (q' :: r) p c h hc))
theorem split_by {y : Str} {s : Nat} (ey : tl y = [s]) (hy : y.cps.all (· < 256) = true) (x : Str) : (Txt.split x y).map tl = spl [s] 0 [] (tl x) := by
  rw [split_spl x y (by rw [ey]; simp) (kind_ok hy), ey]
theorem split_len {y : Str} {s : Nat} (ey : tl y = [s]) (hy : y.cps.all (· < 256) = true) (x : Str) : ((Txt.split x y).map (·.length)).sum + (Txt.split x y).length = x.length + 1 := by
  have e := split_by ey hy x
  have q := len_joinL s (spl [s] 0 [] (tl x)) (spl1_ne s _ _)
  rw [spl1_join, List.nil_append, ← e, List.map_map, List.length_map, ← len_tl] at q
  have e2 : ((Txt.split x y).map (List.length ∘ tl)) = (Txt.split x y).map (·.length) := List.map_congr_left fun w _ => (len_tl w).symm
  rw [e2] at q
  exact q.symm
theorem split_mem {y : Str} {s : Nat} (ey : tl y = [s]) (hy : y.cps.all (· < 256) = true) {x w : Str} (h : w ∈ Txt.split x y) {c : Nat} (hc : c ∈ tl w) : c ∈ tl x := by
  have e := split_by ey hy x
  have q := mem_joinL s (spl [s] 0 [] (tl x)) (tl w) c (by rw [← e]; exact List.mem_map_of_mem h) hc
  rw [spl1_join, List.nil_append] at q
  exact q
theorem le_sum : ∀ (ws : List Str) (w : Str), w ∈ ws → w.length ≤ (ws.map (·.length)).sum
  | [], _, h => by cases h
  | x :: ws, w, h => by
    rw [List.map_cons, List.sum_cons]
    rcases List.mem_cons.mp h with rfl | h
    · omega
    · have := le_sum ws w h
      omega
theorem strOk_iff (x : Str) : PySem.PyData.strOk x = true ↔ ∀ c ∈ tl x, c < 0x110000 := by
  unfold PySem.PyData.strOk
  rw [Array.all_eq_true_iff_forall_mem]
  constructor
  · intro h c hc
    exact of_decide_eq_true (h c (Array.mem_toList_iff.mp hc))
  · intro h c hc
    exact decide_eq_true (h c (Array.mem_toList_iff.mpr hc))
/-- every row of a text: its words short and fine, few of them -/
theorem rows_ok {z : Str} (hz : z.length ≤ 1000000) (ho : PySem.PyData.strOk z = true) : (∀ r ∈ rowsM z, (∀ w ∈ r, w.length ≤ 1000000 ∧ PySem.PyData.strOk w = true) ∧ (r.map (·.length)).sum + r.length ≤ 2000000 ∧ r ≠ []) ∧ (rowsM z).length ≤ 1000001 ∧ rowsM z ≠ [] := by
  have q1 := split_len tl_nl nl_all z
  refine ⟨fun r hr => ?_, ?_, ?_⟩
  · obtain ⟨l, hl, rfl⟩ := List.mem_map.mp hr
    have q2 := split_len tl_sp sp_all l
    have q3 := le_sum _ l hl
    refine ⟨fun w hw => ⟨?_, ?_⟩, by omega, split_ne l⟩
    · have q4 := le_sum _ w hw
      have c1 := List.length_pos_iff.mpr (split_ne l)
      have c2 := List.length_pos_iff.mpr (split_nl_ne z)
      omega
    · rw [strOk_iff] at ho ⊢
      exact fun c hc => ho c (split_mem tl_nl nl_all hl (split_mem tl_sp sp_all hw hc))
  · unfold rowsM
    rw [List.length_map]
    omega
  · unfold rowsM
    exact fun e => split_nl_ne z (List.map_eq_nil_iff.mp e)
end LM

/-! sizes and signs of a right library's text; its makers exchanged -/
namespace LM
open PySem TL L2
/-- signs below 128 -/
def Asc (w : Str) : Prop := ∀ c ∈ tl w, c < 128
instance (w : Str) : Decidable (Asc w) := inferInstanceAs (Decidable (∀ c ∈ tl w, c < 128))
theorem Asc.ok {w : Str} (h : Asc w) : PySem.PyData.strOk w = true := (strOk_iff w).mpr fun c hc => Nat.lt_trans (h c hc) (by decide)
theorem Asc.app {x y : Str} (h : Asc x) (k : Asc y) : Asc (x ++ y) := fun c hc => by
  rw [tl_append, List.mem_append] at hc
  exact hc.elim (h c) (k c)
theorem asc_join {s : Str} (hs : Asc s) : ∀ {ws : List Str}, (∀ w ∈ ws, Asc w) → Asc (Str.join s ws)
  | [], _ => fun c hc => by cases hc
  | [x], h => h x (List.mem_singleton.mpr rfl)
  | x :: y :: r, h => by
    rw [join_cons2]
    exact ((h x (List.mem_cons_self ..)).app hs).app (asc_join hs fun w hw => h w (List.mem_cons_of_mem _ hw))
theorem asc_within {lo hi : Nat} {l : List Nat} (h : within lo hi l = true) (hh : hi < 128) : ∀ c ∈ l, c < 128 := fun c hc => by
  have := List.all_eq_true.mp h c hc
  simp only [Bool.and_eq_true, decide_eq_true_eq] at this
  omega
theorem asc_small {w : Str} (h : small w = true) : Asc w := by
  unfold small at h
  rw [Bool.and_eq_true] at h
  exact asc_within h.2 (by decide)
theorem asc_field {w : Str} (h : fieldName w = true) : Asc w := by
  unfold fieldName at h
  rw [Bool.and_eq_true] at h
  exact asc_small h.1
theorem asc_class {w : Str} (h : className w = true) : Asc w := by
  unfold className at h
  rw [Bool.and_eq_true, Bool.and_eq_true] at h
  have e : tl w = (tl w).take 1 ++ (tl w).drop 1 := (List.take_append_drop 1 _).symm
  intro c hc
  rw [e, List.mem_append] at hc
  exact hc.elim (asc_within h.1.2 (by decide) c) (asc_within h.2 (by decide) c)
theorem le8_small {w : Str} (h : small w = true) : w.length ≤ 8 := by
  unfold small at h
  rw [Bool.and_eq_true, Bool.and_eq_true] at h
  exact of_decide_eq_true h.1.2
theorem le8_field {w : Str} (h : fieldName w = true) : w.length ≤ 8 := by
  unfold fieldName at h
  rw [Bool.and_eq_true] at h
  exact le8_small h.1
theorem le8_class {w : Str} (h : className w = true) : w.length ≤ 8 := by
  unfold className at h
  rw [Bool.and_eq_true, Bool.and_eq_true, Bool.and_eq_true] at h
  exact of_decide_eq_true h.1.1.2
theorem len_cat (x y : Str) : (x ++ y).length = x.length + y.length := by rw [len_tl, len_tl, len_tl, tl_append, List.length_append]
theorem len_joined (s : Str) : ∀ (ws : List Str) (b : Nat), (∀ w ∈ ws, w.length ≤ b) → (Str.join s ws).length ≤ ws.length * (b + s.length)
  | [], _, _ => by show 0 ≤ _; omega
  | [x], b, h => by
    have := h x (List.mem_singleton.mpr rfl)
    show x.length ≤ 1 * _
    omega
  | x :: y :: r, b, h => by
    have q := len_joined s (y :: r) b fun w hw => h w (List.mem_cons_of_mem _ hw)
    have h1 := h x (List.mem_cons_self ..)
    rw [join_cons2, len_cat, len_cat]
    rw [List.length_cons, Nat.add_mul]
    omega
/-- what a maker in a text may be -/
structure MkFine (m : Str) : Prop where
  len : m.length ≤ 100
  asc : Asc m
  nl : NoNl m
theorem mk_fine : ∀ m ∈ makers0 ++ makers1 ++ makers2, m.length ≤ 100 ∧ Asc m ∧ 10 ∉ tl m := by decide +kernel
theorem maker_fine {n : Nat} {m : Str} (h : m ∈ makersOf n) : MkFine m := by
  have : m ∈ makers0 ++ makers1 ++ makers2 := by
    match n with
    | 0 => exact List.mem_append_left _ (List.mem_append_left _ h)
    | 1 => exact List.mem_append_left _ (List.mem_append_right _ h)
    | _ + 2 => exact List.mem_append_right _ h
  obtain ⟨h1, h2, h3⟩ := mk_fine m this
  exact ⟨h1, h2, h3⟩
theorem hook_fine : ∀ h ∈ rootHooks, h.length ≤ 8 ∧ Asc h := by decide +kernel
theorem sign_fine : ∀ s ∈ binary ++ unary, s.length ≤ 8 ∧ Asc s ∧ PySem.PyData.strOk s = true := by decide +kernel
theorem n_lib : ("library " : Str).length = 8 ∧ ("needs " : Str).length = 6 ∧ ("keeps " : Str).length = 6 ∧ (" of " : Str).length = 4 ∧ ("hook " : Str).length = 5 ∧ ("make " : Str).length = 5 ∧ (" by " : Str).length = 4 ∧ (" changes " : Str).length = 9 ∧ (" " : Str).length = 1 ∧ ("\n" : Str).length = 1 := by decide +kernel
theorem a_lib : Asc "library " ∧ Asc "needs " ∧ Asc "keeps " ∧ Asc " of " ∧ Asc "hook " ∧ Asc "make " ∧ Asc " by " ∧ Asc " changes " ∧ Asc " " ∧ Asc "\n" := by decide +kernel
theorem kept_fields : ∀ {kept : List (Str × Str)} {known : List Str}, KeptOk known kept → (∀ p ∈ known, fieldName p = true) → ∀ p ∈ kept, fieldName p.1 = true ∧ fieldName p.2 = true
  | [], _, _, _, p, hp => by cases hp
  | q :: r, known, ko, hk, p, hp => by
    obtain ⟨k1, k2, k3, k4⟩ := ko
    rcases List.mem_cons.mp hp with e | hp
    · subst e
      exact ⟨k1, hk _ k3⟩
    · refine kept_fields k4 (fun z hz => ?_) p hp
      rcases List.mem_append.mp hz with hz | hz
      · exact hk z hz
      · rw [List.mem_singleton.mp hz]
        exact k1
theorem LibOk.sign {L : Lib} (h : LibOk L) {o : Op} (ho : o ∈ L.ops) : o.sign.length ≤ 8 ∧ Asc o.sign := by
  rcases (h.form o ho).sg with z | z | z
  · have := sign_fine o.sign (List.mem_append_left _ (List.contains_iff_mem.mp z))
    exact ⟨this.1, this.2.1⟩
  · have := sign_fine o.sign (List.mem_append_right _ (List.contains_iff_mem.mp z))
    exact ⟨this.1, this.2.1⟩
  · have q := z.1
    unfold request at q
    rw [Bool.and_eq_true] at q
    exact ⟨le8_small q.1, asc_small q.1⟩
theorem LibOk.sub {L : Lib} (h : LibOk L) {o : Op} (ho : o ∈ L.ops) : (∀ p ∈ o.changed, p ∈ L.ps) ∧ o.changed.length ≤ 3 := by
  have e := (h.form o ho).ch
  constructor
  · intro p hp
    rw [e] at hp
    exact (List.mem_filter.mp hp).1
  · rw [e]
    exact Nat.le_trans (List.length_filter_le ..) h.root.ps3
theorem LibOk.line {L : Lib} (h : LibOk L) {o : Op} (ho : o ∈ L.ops) (hm : MkFine o.maker) : (opLine o).length ≤ 200 ∧ Asc (opLine o) := by
  obtain ⟨s1, s2⟩ := h.sign ho
  obtain ⟨c1, c2⟩ := h.sub ho
  obtain ⟨n1, n2, n3, n4, n5, n6, n7, n8, n9, n10⟩ := n_lib
  obtain ⟨a1, a2, a3, a4, a5, a6, a7, a8, a9, a10⟩ := a_lib
  have m1 := hm.len
  have q := len_joined " " o.changed 8 fun w hw => le8_field (h.root.pf w (c1 w hw))
  rw [n9] at q
  have q2 : o.changed.length * (8 + 1) ≤ 3 * (8 + 1) := Nat.mul_le_mul_right _ c2
  have aj : Asc (Str.join " " o.changed) := asc_join a9 fun w hw => asc_field (h.root.pf w (c1 w hw))
  unfold opLine
  split
  · exact ⟨by simp only [len_cat, n6, n7]; omega, ((a6.app s2).app a7).app hm.asc⟩
  · split
    · exact ⟨by simp only [len_cat, n7]; omega, (s2.app a7).app hm.asc⟩
    · exact ⟨by simp only [len_cat, n7, n8]; omega, (((s2.app a8).app aj).app a7).app hm.asc⟩
theorem LibOk.rootLine {L : Lib} (h : LibOk L) : (∀ l ∈ rootLines L.name L.ps L.kept L.hook, l.length ≤ 200 ∧ Asc l) ∧ (rootLines L.name L.ps L.kept L.hook).length ≤ 7 := by
  obtain ⟨n1, n2, n3, n4, n5, n6, n7, n8, n9, n10⟩ := n_lib
  obtain ⟨a1, a2, a3, a4, a5, a6, a7, a8, a9, a10⟩ := a_lib
  have kf := kept_fields h.root.ko h.root.pf
  constructor
  · intro l hl
    unfold rootLines at hl
    simp only [List.mem_append, List.mem_map] at hl
    rcases hl with ((hl | ⟨p, hp, rfl⟩) | ⟨p, hp, rfl⟩) | hl
    · rw [List.mem_singleton.mp hl, len_cat, n1]
      have := le8_class h.root.name
      exact ⟨by omega, a1.app (asc_class h.root.name)⟩
    · have := le8_field (h.root.pf p hp)
      rw [len_cat, n2]
      exact ⟨by omega, a2.app (asc_field (h.root.pf p hp))⟩
    · obtain ⟨f1, f2⟩ := kf p hp
      have := le8_field f1
      have := le8_field f2
      rw [len_cat, len_cat, len_cat, n3, n4]
      exact ⟨by omega, ((a3.app (asc_field f1)).app a4).app (asc_field f2)⟩
    · cases e : L.hook with
      | none => rw [e] at hl; cases hl
      | some z =>
        have := hook_fine z (h.root.hk z e)
        rw [e] at hl
        rw [List.mem_singleton.mp hl, len_cat, n5]
        exact ⟨by omega, a5.app this.2⟩
  · have := h.root.ps3
    have := h.root.kept2
    unfold rootLines
    simp only [List.length_append, List.length_map, List.length_cons, List.length_nil]
    cases L.hook <;> simp <;> omega
theorem LibOk.lines {L : Lib} (h : LibOk L) (hm : ∀ o ∈ L.ops, MkFine o.maker) : (∀ l ∈ linesM L, l.length ≤ 200 ∧ Asc l) ∧ (linesM L).length ≤ 13 := by
  obtain ⟨r1, r2⟩ := h.rootLine
  constructor
  · intro l hl
    unfold linesM at hl
    rcases List.mem_append.mp hl with hl | hl
    · exact r1 l hl
    · obtain ⟨o, ho, rfl⟩ := List.mem_map.mp hl
      exact h.line ho (hm o ho)
  · have := h.ops6
    unfold linesM
    rw [List.length_append, List.length_map]
    omega
theorem LibOk.text {L : Lib} (h : LibOk L) (hm : ∀ o ∈ L.ops, MkFine o.maker) : (textM L).length ≤ 1000000 ∧ PySem.PyData.strOk (textM L) = true := by
  obtain ⟨r1, r2⟩ := h.lines hm
  have q := len_joined "\n" (linesM L) 200 fun w hw => (r1 w hw).1
  rw [n_lib.2.2.2.2.2.2.2.2.2] at q
  have : (linesM L).length * (200 + 1) ≤ 13 * (200 + 1) := Nat.mul_le_mul_right _ r2
  refine ⟨?_, (asc_join a_lib.2.2.2.2.2.2.2.2.2 fun w hw => (r1 w hw).2).ok⟩
  show (Str.join "\n" (linesM L)).length ≤ _
  omega
/-- the makers of an operation, with or without the hook -/
def allow (n : Nat) (hk : Bool) : List Str := (makersOf n).filter fun m => hk || !(m == ("hook" : Str))
theorem allow_mk (hk : Option Str) (o : Op) : (allow (arity o.sign) hk.isSome).contains o.maker = mkOk hk o := by
  unfold allow mkOk
  have key : ∀ (l : List Str) (p : Str → Bool) (m : Str), (l.filter p).contains m = (l.contains m && p m) := fun l p m => by
    rw [Bool.eq_iff_iff, List.contains_iff_mem, List.mem_filter, Bool.and_eq_true, List.contains_iff_mem]
  rw [key]
  cases hk <;> simp
/-- operation j has another maker -/
def setMk (L : Lib) (j : Nat) (m : Str) : Lib := ⟨L.name, L.ps, L.kept, L.hook, L.ops.set j ⟨(L.ops.getD j ⟨"", [], ""⟩).sign, (L.ops.getD j ⟨"", [], ""⟩).changed, m⟩⟩
theorem set_ops {L : Lib} {j : Nat} {m : Str} {o : Op} (e : L.ops[j]? = some o) : (setMk L j m).ops = L.ops.set j ⟨o.sign, o.changed, m⟩ := by
  unfold setMk
  rw [List.getD_eq_getElem?_getD, e]
  rfl
theorem set_ok {L : Lib} (h : LibOk L) {j : Nat} {m : Str} {o : Op} (e : L.ops[j]? = some o) (hm : NoNl m) : LibOk (setMk L j m) := by
  have eo := set_ops (m := m) e
  have hj : j < L.ops.length := (List.getElem?_eq_some_iff.mp e).1
  have ho := List.mem_of_getElem? e
  have hs : (setMk L j m).ops.map (·.sign) = L.ops.map (·.sign) := by
    rw [eo, List.map_set]
    refine List.ext_getElem? fun i => ?_
    rw [List.getElem?_set]
    split
    · rename_i hi
      subst hi
      rw [List.length_map, if_pos hj, List.getElem?_map, e]
      rfl
    · rfl
  refine ⟨h.root, fun q => ?_, ?_, by rw [hs]; exact h.nd, fun z hz => ?_, fun z hz => ?_⟩
  · rw [eo] at q
    have := congrArg List.length q
    rw [List.length_set] at this
    exact h.ops0 (List.length_eq_zero_iff.mp this)
  · rw [eo, List.length_set]
    exact h.ops6
  · rw [eo] at hz
    rcases List.mem_or_eq_of_mem_set hz with hz | hz
    · exact h.form z hz
    · subst hz
      exact ⟨(h.form o ho).sg, (h.form o ho).ch, (h.form o ho).nb⟩
  · rw [eo] at hz
    rcases List.mem_or_eq_of_mem_set hz with hz | hz
    · exact h.nl z hz
    · subst hz
      exact hm
theorem set_all {L : Lib} {j : Nat} {m : Str} {o : Op} (e : L.ops[j]? = some o) (hall : L.ops.all (mkOk L.hook) = true) : (setMk L j m).ops.all (mkOk (setMk L j m).hook) = mkOk L.hook ⟨o.sign, o.changed, m⟩ := by
  have hj : j < L.ops.length := (List.getElem?_eq_some_iff.mp e).1
  show (setMk L j m).ops.all (mkOk L.hook) = _
  rw [set_ops e, Bool.eq_iff_iff, List.all_eq_true]
  constructor
  · intro k
    exact k _ (List.mem_set hj _)
  · intro k z hz
    rcases List.mem_or_eq_of_mem_set hz with hz | hz
    · exact List.all_eq_true.mp hall z hz
    · rw [hz]
      exact k
end LM

/-! lines of libraries in any order: where reading stops -/
namespace LM
open PySem TL L2
/-- a line that is well formed by itself -/
inductive KRow where
  | lib (t : Str)
  | needs (p : Str)
  | keeps (n s : Str)
  | hook
  | by_ (s : Str) (ch : List Str) (m : Str)
def sgn14 : List Str := ["+", "-", "*", "//", "&", "|", "^", "<<", ">>", "neg", "pos", "abs", "invert", "make zero"]
def mk5 : List Str := ["named", "call own", "names own", "bare own", "hook"]
/-- the sign as the reader tells it -/
def sgN (s : Str) : Str := if s = "make zero" then "zero" else s
structure ByOk (s : Str) (ch : List Str) (m : Str) : Prop where
  sg : s ∈ sgn14
  chf : ∀ p ∈ ch, fieldName p = true
  len : ch.length ≤ 3
  mkr : m ∈ mk5
  zero : s = "make zero" → ch = [] ∧ m ≠ "hook"
def RowOk : KRow → Prop
  | .lib t => className t = true
  | .needs p => fieldName p = true
  | .keeps n s => fieldName n = true ∧ fieldName s = true
  | .hook => True
  | .by_ s ch m => ByOk s ch m
/-- its words -/
def rowW : KRow → Rw
  | .lib t => ["library", t]
  | .needs p => needsR p
  | .keeps n s => keepsR (n, s)
  | .hook => ["hook", "call"]
  | .by_ s ch m => (if s = "make zero" then [("make" : Str), "zero"] else [s]) ++ (if ch = [] then [] else ("changes" : Str) :: ch) ++ ("by" : Str) :: Txt.split m " "
/-- its text -/
def rowL : KRow → Str
  | .lib t => ("library " : Str) ++ t
  | .needs p => ("needs " : Str) ++ p
  | .keeps n s => ("keeps " : Str) ++ n ++ (" of " : Str) ++ s
  | .hook => "hook call"
  | .by_ s ch m => s ++ (if ch = [] then ("" : Str) else (" changes " : Str) ++ Str.join " " ch) ++ (" by " : Str) ++ m
/-- the operation that it tells, over these parameters -/
def opK (ps : List Str) : KRow → Option Op
  | .by_ s ch m => some ⟨sgN s, if s = "make zero" then ps else ch, m⟩
  | _ => none
def partsK (l : List KRow) : List Str := l.filterMap fun r => match r with | .needs p => some p | _ => none
def keptK (l : List KRow) : List Str := l.filterMap fun r => match r with | .keeps n _ => some n | _ => none
def signsK (l : List KRow) : List Str := l.filterMap fun r => match r with | .by_ s _ _ => some s | _ => none
def hookK (l : List KRow) : Bool := l.any fun r => match r with | .hook => true | _ => false
def isBy : KRow → Bool
  | .by_ .. => true
  | _ => false
/-- the last line: 0 library, 1 needs, 2 keeps, 3 another -/
def lastK (l : List KRow) : Nat := match l.getLast? with
  | some (.lib _) => 0
  | some (.needs _) => 1
  | some (.keeps ..) => 2
  | _ => 3
/-- whether a line is right behind others -/
def rightK (r : KRow) (above : List KRow) : Bool :=
  match r with
  | .lib _ => above.isEmpty
  | .needs p => !above.isEmpty && decide (lastK above ≤ 1) && decide ((partsK above).length < 3) && !(partsK above).contains p
  | .keeps n s => !above.isEmpty && !(partsK above).isEmpty && (decide (1 ≤ lastK above) && decide (lastK above ≤ 2)) && decide ((keptK above).length ≠ 2) && !(partsK above ++ keptK above).contains n && (partsK above ++ keptK above).contains s
  | .hook => !above.isEmpty && !(partsK above).isEmpty && (decide (1 ≤ lastK above) && decide (lastK above ≤ 2))
  | .by_ s ch m => !above.isEmpty && !(partsK above).isEmpty && !(signsK above).contains s && decide ((signsK above).length ≠ 6) && !(m == "hook" && !hookK above) && decide (ch = (partsK above).filter fun f => ch.contains f)
/-- where reading stops -/
def dueK (above : List KRow) : List KRow → Nat
  | [] => above.length
  | r :: rs => if rightK r above then dueK (above ++ [r]) rs else above.length
theorem due_run : ∀ (xs above rest : List KRow), (∀ i (h : i < xs.length), rightK xs[i] (above ++ xs.take i) = true) → dueK above (xs ++ rest) = dueK (above ++ xs) rest
  | [], above, rest, _ => by rw [List.nil_append, List.append_nil]
  | x :: xs, above, rest, h => by
    have h0 : rightK x above = true := by
      have := h 0 (by simp)
      simpa using this
    show (if rightK x above = true then dueK (above ++ [x]) (xs ++ rest) else above.length) = _
    rw [if_pos h0, due_run xs (above ++ [x]) rest fun i hi => ?_, List.append_assoc]
    · rfl
    · have := h (i + 1) (by simpa using hi)
      rw [List.append_assoc]
      simpa using this
theorem due_stop {above rest : List KRow} (h : ∀ r ∈ rest.head?, rightK r above = false) : dueK above rest = above.length := by
  cases rest with
  | nil => rfl
  | cons r rs =>
    show (if rightK r above = true then dueK (above ++ [r]) rs else above.length) = _
    rw [if_neg (by rw [h r rfl]; exact Bool.false_ne_true)]
/-! ### words of a line -/
theorem sgn_nl : ∀ s ∈ sgn14, s ≠ "make zero" → Plain s := by
  show ∀ s ∈ sgn14, s ≠ "make zero" → 32 ∉ tl s ∧ 10 ∉ tl s
  decide +kernel
theorem split_zero : Txt.split ("make zero" : Str) " " = [("make" : Str), "zero"] := by decide +kernel
theorem row_words {r : KRow} (h : RowOk r) : Txt.split (rowL r) " " = rowW r := by
  have pl : Plain "library" ∧ Plain "needs" ∧ Plain "keeps" ∧ Plain "of" ∧ Plain "by" ∧ Plain "changes" := by
    show (32 ∉ tl "library" ∧ 10 ∉ tl "library") ∧ (32 ∉ tl "needs" ∧ 10 ∉ tl "needs") ∧ (32 ∉ tl "keeps" ∧ 10 ∉ tl "keeps") ∧ (32 ∉ tl "of" ∧ 10 ∉ tl "of") ∧ (32 ∉ tl "by" ∧ 10 ∉ tl "by") ∧ (32 ∉ tl "changes" ∧ 10 ∉ tl "changes")
    decide +kernel
  obtain ⟨p1, p2, p3, p4, p5, p6⟩ := pl
  cases r with
  | lib t =>
    rw [show rowL (.lib t) = ("library" : Str) ++ (" " : Str) ++ t from ext_tl (by simp only [rowL, tl_append, ← List.append_assoc]; rw [show tl ("library " : Str) = tl "library" ++ tl " " by decide +kernel])]
    exact split_two p1 (plain_class h)
  | needs p =>
    rw [show rowL (.needs p) = ("needs" : Str) ++ (" " : Str) ++ p from ext_tl (by simp only [rowL, tl_append, ← List.append_assoc]; rw [show tl ("needs " : Str) = tl "needs" ++ tl " " by decide +kernel])]
    exact split_two p2 (plain_field h)
  | keeps n s =>
    rw [show rowL (.keeps n s) = ("keeps" : Str) ++ (" " : Str) ++ (n ++ (" " : Str) ++ (("of" : Str) ++ (" " : Str) ++ s)) from ext_tl (by
      simp only [rowL, tl_append, ← List.append_assoc]
      rw [show tl ("keeps " : Str) = tl "keeps" ++ tl " " by decide +kernel, show tl (" of " : Str) = tl " " ++ tl "of" ++ tl " " by decide +kernel]
      simp only [← List.append_assoc])]
    rw [split_app, split_app, split_two p4 (plain_field h.2), split_one p3.1, split_one (plain_field h.1).1]
    rfl
  | hook => exact (by decide +kernel : Txt.split ("hook call" : Str) " " = [("hook" : Str), "call"])
  | by_ s ch m =>
    have hb : ByOk s ch m := h
    have hs : Txt.split s " " = if s = "make zero" then [("make" : Str), "zero"] else [s] := by
      by_cases e : s = "make zero"
      · rw [if_pos e, e]
        exact split_zero
      · rw [if_neg e]
        exact split_one (sgn_nl s hb.sg e).1
    by_cases hc : ch = []
    · rw [show rowL (.by_ s ch m) = s ++ (" " : Str) ++ (("by" : Str) ++ (" " : Str) ++ m) from ext_tl (by
        simp only [rowL, if_pos hc, tl_append, ← List.append_assoc]
        rw [show tl (" by " : Str) = tl " " ++ tl "by" ++ tl " " by decide +kernel, show tl ("" : Str) = [] by decide +kernel]
        simp only [← List.append_assoc, List.append_nil])]
      rw [split_app, split_app, hs, split_one p5.1]
      show _ = (if s = "make zero" then [("make" : Str), "zero"] else [s]) ++ (if ch = [] then [] else ("changes" : Str) :: ch) ++ ("by" : Str) :: Txt.split m " "
      rw [if_pos hc, List.append_nil]
      rfl
    · rw [show rowL (.by_ s ch m) = s ++ (" " : Str) ++ (("changes" : Str) ++ (" " : Str) ++ (Str.join " " ch ++ (" " : Str) ++ (("by" : Str) ++ (" " : Str) ++ m))) from ext_tl (by
        simp only [rowL, if_neg hc, tl_append, ← List.append_assoc]
        rw [show tl (" by " : Str) = tl " " ++ tl "by" ++ tl " " by decide +kernel, show tl (" changes " : Str) = tl " " ++ tl "changes" ++ tl " " by decide +kernel]
        simp only [← List.append_assoc])]
      rw [split_app, split_app, split_app, split_app, hs, split_one p5.1, split_one p6.1, split_joinP hc fun w hw => plain_field (hb.chf w hw)]
      show _ = (if s = "make zero" then [("make" : Str), "zero"] else [s]) ++ (if ch = [] then [] else ("changes" : Str) :: ch) ++ ("by" : Str) :: Txt.split m " "
      rw [if_neg hc, List.append_assoc]
      rfl
/-! ### sizes and signs of the lines -/
theorem mk5_fine : ∀ m ∈ mk5, MkFine m := by
  have key : ∀ m ∈ mk5, m.length ≤ 100 ∧ Asc m ∧ 10 ∉ tl m := by decide +kernel
  exact fun m hm => ⟨(key m hm).1, (key m hm).2.1, (key m hm).2.2⟩
theorem sgn_fine : ∀ s ∈ sgn14, s.length ≤ 9 ∧ Asc s ∧ 10 ∉ tl s := by decide +kernel
theorem row_fine {r : KRow} (h : RowOk r) : (rowL r).length ≤ 200 ∧ Asc (rowL r) ∧ NoNl (rowL r) := by
  obtain ⟨n1, n2, n3, n4, n5, n6, n7, n8, n9, n10⟩ := n_lib
  obtain ⟨a1, a2, a3, a4, a5, a6, a7, a8, a9, a10⟩ := a_lib
  have nl : NoNl "library " ∧ NoNl "needs " ∧ NoNl "keeps " ∧ NoNl " of " ∧ NoNl " by " ∧ NoNl " changes " ∧ NoNl " " := by
    show 10 ∉ tl "library " ∧ 10 ∉ tl "needs " ∧ 10 ∉ tl "keeps " ∧ 10 ∉ tl " of " ∧ 10 ∉ tl " by " ∧ 10 ∉ tl " changes " ∧ 10 ∉ tl " "
    decide +kernel
  obtain ⟨l1, l2, l3, l4, l5, l6, l7⟩ := nl
  cases r with
  | lib t =>
    have := le8_class (w := t) h
    exact ⟨by simp only [rowL, len_cat, n1]; omega, a1.app (asc_class h), l1.app (plain_class h).2⟩
  | needs p =>
    have := le8_field (w := p) h
    exact ⟨by simp only [rowL, len_cat, n2]; omega, a2.app (asc_field h), l2.app (plain_field h).2⟩
  | keeps n s =>
    have := le8_field h.1
    have := le8_field h.2
    exact ⟨by simp only [rowL, len_cat, n3, n4]; omega, ((a3.app (asc_field h.1)).app a4).app (asc_field h.2), ((l3.app (plain_field h.1).2).app l4).app (plain_field h.2).2⟩
  | hook => exact (by decide +kernel : ("hook call" : Str).length ≤ 200 ∧ Asc "hook call" ∧ 10 ∉ tl "hook call")
  | by_ s ch m =>
    have hb : ByOk s ch m := h
    obtain ⟨s1, s2, s3⟩ := sgn_fine s hb.sg
    have mf := mk5_fine m hb.mkr
    have m1 := mf.len
    have q := len_joined " " ch 8 fun w hw => le8_field (hb.chf w hw)
    rw [n9] at q
    have q2 : ch.length * (8 + 1) ≤ 3 * (8 + 1) := Nat.mul_le_mul_right _ hb.len
    have e0 : ("" : Str).length = 0 ∧ Asc "" ∧ 10 ∉ tl "" := by decide +kernel
    by_cases hc : ch = []
    · refine ⟨by simp only [rowL, if_pos hc, len_cat, n7, e0.1]; omega, ?_, ?_⟩
      · simp only [rowL, if_pos hc]
        exact ((Asc.app s2 e0.2.1).app a7).app mf.asc
      · simp only [rowL, if_pos hc]
        exact ((NoNl.app s3 e0.2.2).app l5).app mf.nl
    · refine ⟨by simp only [rowL, if_neg hc, len_cat, n7, n8]; omega, ?_, ?_⟩
      · simp only [rowL, if_neg hc]
        exact ((s2.app (a8.app (asc_join a9 fun w hw => asc_field (hb.chf w hw)))).app a7).app mf.asc
      · simp only [rowL, if_neg hc]
        exact ((NoNl.app s3 (l6.app (nonl_join l7 fun w hw => (plain_field (hb.chf w hw)).2))).app l5).app mf.nl
/-- the text of the lines -/
def textK (rows : List KRow) : Str := Str.join "\n" (rows.map rowL)
theorem text_rows {rows : List KRow} (h : ∀ r ∈ rows, RowOk r) (hne : rows ≠ []) : rowsM (textK rows) = rows.map rowW := by
  have e := split_join (y := ("\n" : Str)) (s := 10) (S := []) tl_nl nl_all (parts := rows.map rowL) (fun z => hne (List.map_eq_nil_iff.mp z)) (fun p hp => by
    obtain ⟨r, hr, rfl⟩ := List.mem_map.mp hp
    exact (row_fine (h r hr)).2.2)
  rw [join_eq] at e
  have e' : Txt.split (textK rows) "\n" = rows.map rowL := e
  unfold rowsM
  rw [e', List.map_map]
  exact List.map_congr_left fun r hr => row_words (h r hr)
theorem text_ok {rows : List KRow} (h : ∀ r ∈ rows, RowOk r) (hl : rows.length ≤ 100) : (textK rows).length ≤ 1000000 ∧ PySem.PyData.strOk (textK rows) = true := by
  have q := len_joined "\n" (rows.map rowL) 200 fun w hw => by
    obtain ⟨r, hr, rfl⟩ := List.mem_map.mp hw
    exact (row_fine (h r hr)).1
  rw [n_lib.2.2.2.2.2.2.2.2.2, List.length_map] at q
  have : rows.length * (200 + 1) ≤ 100 * (200 + 1) := Nat.mul_le_mul_right _ hl
  refine ⟨?_, (asc_join a_lib.2.2.2.2.2.2.2.2.2 fun w hw => ?_).ok⟩
  · show (Str.join "\n" (rows.map rowL)).length ≤ _
    omega
  · obtain ⟨r, hr, rfl⟩ := List.mem_map.mp hw
    exact (row_fine (h r hr)).2.1
/-! ### operations -/
theorem not_t {b : Bool} (h : (!b) = true) : b = false := by cases b <;> first | rfl | cases h
theorem ch_by {ch : List Str} (h : ∀ p ∈ ch, fieldName p = true) : ∀ p ∈ (if ch = [] then [] else ("changes" : Str) :: ch), p ≠ ("by" : Str) := by
  intro p hp e
  subst e
  by_cases hc : ch = []
  · rw [if_pos hc] at hp
    cases hp
  · rw [if_neg hc] at hp
    rcases List.mem_cons.mp hp with q | q
    · exact absurd q (by decide +kernel)
    · exact absurd (h _ q) (by decide +kernel)
theorem sgn_facts : ∀ s ∈ sgn14, s ≠ "make zero" → (s == ("make" : Str)) = false ∧ ((!binary.contains s && !unary.contains s) = false) ∧ ∀ m ∈ mk5, (makersOf (arity s)).contains m = true := by decide +kernel
theorem zero_facts : (∀ m ∈ mk5, m ≠ "hook" → makers0.contains m = true) ∧ request "zero" = true := by decide +kernel
theorem opM_by {ps : List Str} {s : Str} {ch : List Str} {m : Str} (h : ByOk s ch m) : opM (rowW (.by_ s ch m)) ps = if ch = ps.filter (fun f => ch.contains f) then opK ps (.by_ s ch m) else none := by
  have hb := ch_by h.chf
  have hj := join_split m
  by_cases e : s = "make zero"
  · obtain ⟨h1, h2⟩ := h.zero e
    have ef : ch = ps.filter fun f => ch.contains f := by
      rw [h1]
      exact (List.filter_eq_nil_iff.mpr fun a _ => by simp).symm
    rw [if_pos ef]
    show opM ((if s = "make zero" then [("make" : Str), "zero"] else [s]) ++ (if ch = [] then [] else ("changes" : Str) :: ch) ++ ("by" : Str) :: Txt.split m " ") ps = some ⟨sgN s, if s = "make zero" then ps else ch, m⟩
    rw [if_pos e, if_pos h1, if_pos e, List.append_nil]
    have e1 : opM (("make" : Str) :: "zero" :: "by" :: Txt.split m " ") ps = requestM (("make" : Str) :: "zero" :: "by" :: Txt.split m " ") ps := by
      unfold opM
      dsimp only
      rw [if_pos (beq_self_eq_true _)]
    show opM (("make" : Str) :: "zero" :: "by" :: Txt.split m " ") ps = _
    rw [e1]
    show (if (("by" : Str) == "by" && request "zero" && makers0.contains (Str.join " " (Txt.split m " "))) = true then some (⟨"zero", ps, Str.join " " (Txt.split m " ")⟩ : Op) else none) = _
    rw [hj, zero_facts.2, zero_facts.1 m h.mkr h2]
    unfold sgN
    rw [if_pos e]
    rfl
  · obtain ⟨f1, f2, f3⟩ := sgn_facts s h.sg e
    show opM ((if s = "make zero" then [("make" : Str), "zero"] else [s]) ++ (if ch = [] then [] else ("changes" : Str) :: ch) ++ ("by" : Str) :: Txt.split m " ") ps = if ch = ps.filter (fun f => ch.contains f) then some ⟨sgN s, if s = "make zero" then ps else ch, m⟩ else none
    rw [if_neg e, if_neg e, show sgN s = s by unfold sgN; rw [if_neg e]]
    have hfi := findIdx_by (pre := if ch = [] then [] else ("changes" : Str) :: ch) (rest := Txt.split m " ") hb
    have hcon : ((if ch = [] then [] else ("changes" : Str) :: ch) ++ ("by" : Str) :: Txt.split m " ").contains ("by" : Str) = true := List.contains_iff_mem.mpr (List.mem_append_right _ (List.mem_cons_self ..))
    have htk : ((if ch = [] then [] else ("changes" : Str) :: ch) ++ ("by" : Str) :: Txt.split m " ").take (if ch = [] then [] else ("changes" : Str) :: ch).length = (if ch = [] then [] else ("changes" : Str) :: ch) := List.take_left' rfl
    have hdr : ((if ch = [] then [] else ("changes" : Str) :: ch) ++ ("by" : Str) :: Txt.split m " ").drop ((if ch = [] then [] else ("changes" : Str) :: ch).length + 1) = Txt.split m " " := by
      rw [show (if ch = [] then [] else ("changes" : Str) :: ch) ++ ("by" : Str) :: Txt.split m " " = ((if ch = [] then [] else ("changes" : Str) :: ch) ++ [("by" : Str)]) ++ Txt.split m " " by rw [List.append_assoc]; rfl]
      exact List.drop_left' (by rw [List.length_append]; rfl)
    rw [show [s] ++ (if ch = [] then [] else ("changes" : Str) :: ch) ++ ("by" : Str) :: Txt.split m " " = s :: ((if ch = [] then [] else ("changes" : Str) :: ch) ++ ("by" : Str) :: Txt.split m " ") by rw [List.append_assoc]; rfl]
    unfold opM
    dsimp only
    rw [if_neg (by rw [f1]; exact Bool.false_ne_true), f2, hcon, hfi, htk, hdr, hj, f3 m h.mkr]
    rw [if_neg (by decide)]
    by_cases hc : ch = []
    · subst hc
      rw [if_pos rfl, if_pos (List.filter_eq_nil_iff.mpr fun a _ => by simp).symm]
      rfl
    · rw [if_neg hc]
      show (if (!true || !(("changes" : Str) == "changes" && !ch.isEmpty && decide (ch = ps.filter fun f => ch.contains f))) = true then none else some (⟨s, ch, m⟩ : Op)) = _
      have hne : ch.isEmpty = false := by cases ch with
        | nil => exact absurd rfl hc
        | cons _ _ => rfl
      rw [hne]
      by_cases q : ch = ps.filter fun f => ch.contains f
      · rw [decide_eq_true q, if_pos q]
        rfl
      · rw [decide_eq_false q, if_neg q]
        rfl
theorem opM_no {r : KRow} (h : RowOk r) (n : isBy r = false) (ps : List Str) : opM (rowW r) ps = none := by
  have f : ∀ a ∈ (["library", "needs", "keeps", "hook"] : List Str), (a == ("make" : Str)) = false ∧ (!binary.contains a && !unary.contains a) = true := by decide +kernel
  have go : ∀ (a : Str) (t : List Str), a ∈ (["library", "needs", "keeps", "hook"] : List Str) → opM (a :: t) ps = none := fun a t ha => by
    obtain ⟨f1, f2⟩ := f a ha
    unfold opM
    dsimp only
    rw [if_neg (by rw [f1]; exact Bool.false_ne_true), f2, if_pos (by rfl)]
  cases r with
  | lib t => exact go _ _ (by simp)
  | needs p => exact go _ _ (by simp)
  | keeps a b => exact go _ _ (by simp)
  | hook => exact go _ _ (by simp)
  | by_ _ _ _ => cases n
theorem partsK_app (a b : List KRow) : partsK (a ++ b) = partsK a ++ partsK b := List.filterMap_append ..
theorem keptK_app (a b : List KRow) : keptK (a ++ b) = keptK a ++ keptK b := List.filterMap_append ..
theorem signsK_app (a b : List KRow) : signsK (a ++ b) = signsK a ++ signsK b := List.filterMap_append ..
theorem lastK_app (a : List KRow) (r : KRow) : lastK (a ++ [r]) = lastK [r] := by
  unfold lastK
  rw [List.getLast?_concat]
  rfl
theorem sgN_inj : ∀ a ∈ sgn14, ∀ b ∈ sgn14, sgN a = sgN b → a = b := by decide +kernel
theorem sgN_contains {l : List Str} {s : Str} (hl : ∀ a ∈ l, a ∈ sgn14) (hs : s ∈ sgn14) : (l.map sgN).contains (sgN s) = l.contains s := by
  rw [Bool.eq_iff_iff, List.contains_iff_mem, List.contains_iff_mem, List.mem_map]
  exact ⟨fun ⟨a, ha, e⟩ => sgN_inj a (hl a ha) s hs e ▸ ha, fun h => ⟨s, h, rfl⟩⟩
/-- behind an operation only operations are right -/
theorem stop_by {above : List KRow} {b r : KRow} (hb : isBy b = true) (n : isBy r = false) : rightK r (above ++ [b]) = false := by
  have hl : lastK (above ++ [b]) = 3 := by
    rw [lastK_app]
    cases b <;> first | rfl | cases hb
  cases r with
  | lib t => show (above ++ [b]).isEmpty = false; cases above <;> rfl
  | needs p =>
    show (_ && decide (lastK (above ++ [b]) ≤ 1) && _ && _) = false
    rw [hl]
    simp
  | keeps a c =>
    show (_ && _ && (_ && decide (lastK (above ++ [b]) ≤ 2)) && _ && _ && _) = false
    rw [hl]
    simp
  | hook =>
    show (_ && _ && (_ && decide (lastK (above ++ [b]) ≤ 2))) = false
    rw [hl]
    simp
  | by_ _ _ _ => cases n
/-- from the operations on: where reading stops -/
theorem ops_due {ps : List Str} {hk : Option Str} (hps : ps ≠ []) : ∀ (R root found : List KRow), (∀ r ∈ R, RowOk r) → partsK (root ++ found) = ps → root ≠ [] → (∀ r ∈ found, isBy r = true ∧ RowOk r) → signsK root = [] →
    hookK root = hk.isSome → (∀ r ∈ R.head?, isBy r = false → rightK r (root ++ found) = false) → found.length ≤ 6 →
    (dueK (root ++ found) R = (root ++ found).length + R.length ∧ (∀ r ∈ R, isBy r = true) ∧ opsM ps hk (root ++ found).length (R.map rowW) (found.filterMap (opK ps)) = .ok ((found ++ R).filterMap (opK ps)) ∧ (found ++ R).length ≤ 6) ∨
    (dueK (root ++ found) R < (root ++ found).length + R.length ∧ opsM ps hk (root ++ found).length (R.map rowW) (found.filterMap (opK ps)) = .error (dueK (root ++ found) R))
  | [], root, found, _, _, _, _, _, _, _, hl => .inl ⟨rfl, (fun r hr => by cases hr), by rw [List.append_nil]; rfl, by rw [List.append_nil]; exact hl⟩
  | r :: R, root, found, hR, hp, hroot, hf, hsr, hh, hst, hl => by
    have hr := hR r (List.mem_cons_self ..)
    have err : rightK r (root ++ found) = false → opM (rowW r) ps = none ∨ (∃ o, opM (rowW r) ps = some o ∧ ((found.filterMap (opK ps)).length = 6 || ((found.filterMap (opK ps)).map (·.sign)).contains o.sign || (o.maker == "hook" && hk.isNone)) = true) →
        dueK (root ++ found) (r :: R) < (root ++ found).length + (r :: R).length ∧ opsM ps hk (root ++ found).length ((r :: R).map rowW) (found.filterMap (opK ps)) = .error (dueK (root ++ found) (r :: R)) := fun h1 h2 => by
      have hd : dueK (root ++ found) (r :: R) = (root ++ found).length := due_stop fun x hx => by cases hx; exact h1
      refine ⟨by rw [hd, List.length_cons]; omega, ?_⟩
      rw [hd, List.map_cons]
      unfold opsM
      rcases h2 with h2 | ⟨o, h2, h3⟩
      · rw [h2]
      · rw [h2]
        dsimp only
        rw [if_pos h3]
    cases hby : isBy r with
    | false => exact .inr (err (hst r rfl hby) (.inl (opM_no hr hby ps)))
    | true =>
      cases r with
      | lib _ => cases hby
      | needs _ => cases hby
      | keeps _ _ => cases hby
      | hook => cases hby
      | by_ s ch m =>
        have hb : ByOk s ch m := hr
        have hne : (root ++ found).isEmpty = false := by cases root with
          | nil => exact absurd rfl hroot
          | cons _ _ => rfl
        have hpe : ps.isEmpty = false := by cases ps with
          | nil => exact absurd rfl hps
          | cons _ _ => rfl
        have hs14 : ∀ a ∈ signsK (root ++ found), a ∈ sgn14 := fun a ha => by
          rw [signsK_app, hsr, List.nil_append] at ha
          obtain ⟨b, hb1, hb2⟩ := List.mem_filterMap.mp ha
          obtain ⟨q1, q2⟩ := hf b hb1
          cases b with
          | by_ s' _ _ =>
            have : s' = a := by simpa using hb2
            rw [← this]
            exact (show ByOk _ _ _ from q2).sg
          | _ => cases q1
        have fm : ∀ l : List KRow, (∀ r ∈ l, isBy r = true ∧ RowOk r) → (l.filterMap (opK ps)).map (·.sign) = (signsK l).map sgN ∧ (l.filterMap (opK ps)).length = l.length ∧ (signsK l).length = l.length := by
          intro l
          induction l with
          | nil => exact fun _ => ⟨rfl, rfl, rfl⟩
          | cons x l ih =>
            intro h
            obtain ⟨i1, i2, i3⟩ := ih fun r hr => h r (List.mem_cons_of_mem _ hr)
            have hx := (h x (List.mem_cons_self ..)).1
            cases x with
            | by_ s' c' m' =>
              show ((⟨sgN s', _, m'⟩ : Op) :: l.filterMap (opK ps)).map (·.sign) = (s' :: signsK l).map sgN ∧ ((⟨sgN s', _, m'⟩ : Op) :: l.filterMap (opK ps)).length = _ ∧ (s' :: signsK l).length = _
              refine ⟨?_, ?_, ?_⟩
              · rw [List.map_cons, List.map_cons, i1]
              · rw [List.length_cons, List.length_cons, i2]
              · rw [List.length_cons, List.length_cons, i3]
            | _ => cases hx
        obtain ⟨fm1, fm2, fm3⟩ := fm found hf
        have eS : signsK (root ++ found) = signsK found := by rw [signsK_app, hsr, List.nil_append]
        have eH : hookK (root ++ found) = hk.isSome := by
          unfold hookK at hh ⊢
          rw [List.any_append, hh]
          have : (found.any fun r => match r with | .hook => true | _ => false) = false := by
            rw [List.any_eq_false]
            intro x hx
            have := (hf x hx).1
            cases x <;> first | exact Bool.false_ne_true | cases this
          rw [this, Bool.or_false]
        have er : rightK (.by_ s ch m) (root ++ found) = (!(signsK found).contains s && decide (found.length ≠ 6) && !(m == "hook" && hk.isNone) && decide (ch = ps.filter fun f => ch.contains f)) := by
          show (!(root ++ found).isEmpty && !(partsK (root ++ found)).isEmpty && !(signsK (root ++ found)).contains s && decide ((signsK (root ++ found)).length ≠ 6) && !(m == "hook" && !hookK (root ++ found)) && decide (ch = (partsK (root ++ found)).filter fun f => ch.contains f)) = _
          rw [hne, hp, hpe, eS, eH, fm3]
          cases hk <;> rfl
        have eo := opM_by (ps := ps) hb
        have ec : ((found.filterMap (opK ps)).map (·.sign)).contains (sgN s) = (signsK found).contains s := by
          rw [fm1, sgN_contains (by rw [← eS]; exact hs14) hb.sg]
        by_cases q : ch = ps.filter fun f => ch.contains f
        · rw [if_pos q] at eo
          by_cases q2 : rightK (.by_ s ch m) (root ++ found) = true
          · rw [er, decide_eq_true q, Bool.and_true, Bool.and_eq_true, Bool.and_eq_true] at q2
            obtain ⟨⟨q3, q4⟩, q5⟩ := q2
            have hl6 : found.length ≠ 6 := of_decide_eq_true q4
            have hcond : ((found.filterMap (opK ps)).length = 6 || ((found.filterMap (opK ps)).map (·.sign)).contains (sgN s) || (m == "hook" && hk.isNone)) = false := by
              rw [ec, fm2, decide_eq_false hl6, show (signsK found).contains s = false by simpa using q3, not_t q5]
              rfl
            have hstep : opsM ps hk (root ++ found).length ((KRow.by_ s ch m :: R).map rowW) (found.filterMap (opK ps)) = opsM ps hk ((root ++ found).length + 1) (R.map rowW) ((found ++ [KRow.by_ s ch m]).filterMap (opK ps)) := by
              rw [List.map_cons]
              show (match opM (rowW (.by_ s ch m)) ps with | none => _ | some o => _) = _
              rw [eo]
              show (if ((found.filterMap (opK ps)).length = 6 || ((found.filterMap (opK ps)).map (·.sign)).contains (sgN s) || (m == "hook" && hk.isNone)) = true then _ else _) = _
              rw [hcond, if_neg Bool.false_ne_true, List.filterMap_append]
              rfl
            have hdue : dueK (root ++ found) (KRow.by_ s ch m :: R) = dueK (root ++ (found ++ [KRow.by_ s ch m])) R := by
              show (if rightK (.by_ s ch m) (root ++ found) = true then dueK (root ++ found ++ [.by_ s ch m]) R else _) = _
              rw [er, decide_eq_true q, Bool.and_true, q3, q4, q5, if_pos (by rfl), List.append_assoc]
            have ih := ops_due (hk := hk) hps R root (found ++ [.by_ s ch m]) (fun r hr => hR r (List.mem_cons_of_mem _ hr)) (by rw [← List.append_assoc, partsK_app, hp]; show ps ++ [] = ps; rw [List.append_nil]) hroot
              (fun r hr => by
                rcases List.mem_append.mp hr with hr | hr
                · exact hf r hr
                · rw [List.mem_singleton.mp hr]
                  exact ⟨rfl, hb⟩) hsr hh (fun r _ n => by rw [← List.append_assoc]; exact stop_by rfl n) (by rw [List.length_append]; show found.length + 1 ≤ 6; omega)
            have elen : (root ++ (found ++ [KRow.by_ s ch m])).length = (root ++ found).length + 1 := by simp only [List.length_append, List.length_cons, List.length_nil]; omega
            have eapp : found ++ [KRow.by_ s ch m] ++ R = found ++ KRow.by_ s ch m :: R := by rw [List.append_assoc]; rfl
            rw [elen, eapp] at ih
            rw [hdue, hstep, List.length_cons]
            rcases ih with ⟨i1, i2, i3, i4⟩ | ⟨i1, i2⟩
            · exact .inl ⟨by omega, fun r hr => by rcases List.mem_cons.mp hr with e | hr; rw [e]; rfl; exact i2 r hr, i3, i4⟩
            · exact .inr ⟨by omega, i2⟩
          · have q2' := Bool.eq_false_iff.mpr q2
            refine .inr (err q2' (.inr ⟨_, eo, ?_⟩))
            rw [er, decide_eq_true q, Bool.and_true] at q2'
            show ((found.filterMap (opK ps)).length = 6 || ((found.filterMap (opK ps)).map (·.sign)).contains (sgN s) || (m == "hook" && hk.isNone)) = true
            rw [ec, fm2]
            cases c1 : (signsK found).contains s
            · cases c2 : (m == "hook" && hk.isNone)
              · rw [c1, c2] at q2'
                by_cases c3 : found.length = 6
                · rw [decide_eq_true c3]
                  rfl
                · rw [decide_eq_true c3] at q2'
                  cases q2'
              · simp
            · simp
        · rw [if_neg q] at eo
          refine .inr (err ?_ (.inl eo))
          rw [er, decide_eq_false q, Bool.and_false]
/-- what an operation's words begin with -/
theorem by_head {s : Str} {ch : List Str} {m : Str} (h : RowOk (.by_ s ch m)) : ∃ a t, rowW (.by_ s ch m) = a :: t ∧ a ≠ ("needs" : Str) ∧ a ≠ ("keeps" : Str) ∧ a ≠ ("hook" : Str) ∧ a ≠ ("library" : Str) := by
  have hb : ByOk s ch m := h
  have key : ∀ a ∈ sgn14, a ≠ ("needs" : Str) ∧ a ≠ ("keeps" : Str) ∧ a ≠ ("hook" : Str) ∧ a ≠ ("library" : Str) := by decide +kernel
  by_cases e : s = "make zero"
  · refine ⟨"make", ("zero" : Str) :: ((if ch = [] then [] else ("changes" : Str) :: ch) ++ ("by" : Str) :: Txt.split m " "), ?_, by decide +kernel⟩
    show (if s = "make zero" then [("make" : Str), "zero"] else [s]) ++ (if ch = [] then [] else ("changes" : Str) :: ch) ++ ("by" : Str) :: Txt.split m " " = _
    rw [if_pos e, List.append_assoc]
    rfl
  · refine ⟨s, (if ch = [] then [] else ("changes" : Str) :: ch) ++ ("by" : Str) :: Txt.split m " ", ?_, key s hb.sg⟩
    show (if s = "make zero" then [("make" : Str), "zero"] else [s]) ++ (if ch = [] then [] else ("changes" : Str) :: ch) ++ ("by" : Str) :: Txt.split m " " = _
    rw [if_neg e, List.append_assoc]
    rfl
/-! ### the root's lines -/
theorem params_ex : ∀ (n : Nat) (R : List KRow) (found : List Str), found.Nodup → (∀ r ∈ R, RowOk r) →
    ∃ (qs : List Str) (R1 : List KRow), R = qs.map KRow.needs ++ R1 ∧ paramsM ((R.map rowW).take n) found = found ++ qs ∧ qs.length ≤ n ∧ (found ++ qs).Nodup ∧ (∀ p rest, R1 = KRow.needs p :: rest → qs.length = n ∨ p ∈ found ++ qs)
  | 0, R, found, nd, _ => ⟨[], R, rfl, by rw [List.append_nil]; rfl, Nat.le_refl _, by rw [List.append_nil]; exact nd, fun p rest _ => .inl rfl⟩
  | n + 1, [], found, nd, _ => ⟨[], [], rfl, by rw [List.append_nil]; rfl, Nat.zero_le _, by rw [List.append_nil]; exact nd, fun p rest e => by cases e⟩
  | n + 1, r :: R, found, nd, hR => by
    have stop : needsRow (rowW r) found = none → (∀ p, r = .needs p → p ∈ found) →
        ∃ (qs : List Str) (R1 : List KRow), r :: R = qs.map KRow.needs ++ R1 ∧ paramsM (((r :: R).map rowW).take (n + 1)) found = found ++ qs ∧ qs.length ≤ n + 1 ∧ (found ++ qs).Nodup ∧ (∀ p rest, R1 = KRow.needs p :: rest → qs.length = n + 1 ∨ p ∈ found ++ qs) := fun h1 h2 => by
      refine ⟨[], r :: R, rfl, ?_, Nat.zero_le _, by rw [List.append_nil]; exact nd, fun p rest e => .inr ?_⟩
      · rw [List.append_nil]
        show paramsM (rowW r :: ((R.map rowW).take n)) found = found
        unfold paramsM
        rw [h1]
      · rw [List.append_nil]
        injection e with e _
        exact h2 p e
    cases r with
    | needs p =>
      have hp : fieldName p = true := hR _ (List.mem_cons_self ..)
      by_cases hm : p ∈ found
      · refine stop ?_ fun q e => by injection e with e; rw [← e]; exact hm
        show (if (("needs" : Str) == "needs" && fieldName p && !found.contains p) = true then some p else none) = none
        rw [List.contains_iff_mem.mpr hm]
        simp
      · have q : needsRow (rowW (.needs p)) found = some p := by
          show (if (("needs" : Str) == "needs" && fieldName p && !found.contains p) = true then some p else none) = some p
          rw [hp, show found.contains p = false by simpa using hm]
          rfl
        obtain ⟨qs, R1, e1, e2, e3, e4, e5⟩ := params_ex n R (found ++ [p]) (by
          rw [List.nodup_append]
          exact ⟨nd, by simp, fun a ha b hb e => hm (by rw [List.mem_singleton.mp hb] at e; exact e ▸ ha)⟩) fun r hr => hR r (List.mem_cons_of_mem _ hr)
        have ea : found ++ [p] ++ qs = found ++ p :: qs := by rw [List.append_assoc]; rfl
        rw [ea] at e2 e4 e5
        refine ⟨p :: qs, R1, by rw [e1]; rfl, ?_, by rw [List.length_cons]; omega, e4, fun z rest e => ?_⟩
        · show paramsM (rowW (.needs p) :: ((R.map rowW).take n)) found = _
          unfold paramsM
          rw [q]
          exact e2
        · rcases e5 z rest e with h | h
          · exact .inl (by rw [List.length_cons, h])
          · exact .inr h
    | lib t => exact stop (needs_none (by decide +kernel)) fun p e => by cases e
    | keeps a b => exact stop (needs_none (by decide +kernel)) fun p e => by cases e
    | hook => exact stop (needs_none (by decide +kernel)) fun p e => by cases e
    | by_ s ch m =>
      refine stop ?_ fun p e => by cases e
      obtain ⟨a, t, e, h1, _⟩ := by_head (hR _ (List.mem_cons_self ..))
      rw [e]
      exact needs_none h1
theorem kept_ex : ∀ (n : Nat) (R : List KRow) (known : List Str) (found : List (Str × Str)), (∀ r ∈ R, RowOk r) →
    ∃ (qs : List (Str × Str)) (R1 : List KRow), R = qs.map (fun q => KRow.keeps q.1 q.2) ++ R1 ∧ keptM ((R.map rowW).take n) known found = found ++ qs ∧ qs.length ≤ n ∧ KeptOk known qs ∧ (∀ a b rest, R1 = KRow.keeps a b :: rest → qs.length = n ∨ a ∈ known ++ qs.map (·.1) ∨ b ∉ known ++ qs.map (·.1))
  | 0, R, known, found, _ => ⟨[], R, rfl, by rw [List.append_nil]; rfl, Nat.le_refl _, trivial, fun a b rest _ => .inl rfl⟩
  | n + 1, [], known, found, _ => ⟨[], [], rfl, by rw [List.append_nil]; rfl, Nat.zero_le _, trivial, fun a b rest e => by cases e⟩
  | n + 1, r :: R, known, found, hR => by
    have stop : keepsRow (rowW r) known = none → (∀ a b, r = .keeps a b → a ∈ known ∨ b ∉ known) →
        ∃ (qs : List (Str × Str)) (R1 : List KRow), r :: R = qs.map (fun q => KRow.keeps q.1 q.2) ++ R1 ∧ keptM (((r :: R).map rowW).take (n + 1)) known found = found ++ qs ∧ qs.length ≤ n + 1 ∧ KeptOk known qs ∧ (∀ a b rest, R1 = KRow.keeps a b :: rest → qs.length = n + 1 ∨ a ∈ known ++ qs.map (·.1) ∨ b ∉ known ++ qs.map (·.1)) := fun h1 h2 => by
      refine ⟨[], r :: R, rfl, ?_, Nat.zero_le _, trivial, fun a b rest e => .inr ?_⟩
      · rw [List.append_nil]
        show keptM (rowW r :: ((R.map rowW).take n)) known found = found
        unfold keptM
        rw [h1]
      · rw [List.map_nil, List.append_nil]
        injection e with e _
        exact h2 a b e
    cases r with
    | keeps a b =>
      have hab : fieldName a = true ∧ fieldName b = true := hR _ (List.mem_cons_self ..)
      have eq : keepsRow (rowW (.keeps a b)) known = if (("keeps" : Str) == "keeps" && ("of" : Str) == "of" && fieldName a && !known.contains a && known.contains b) = true then some (a, b) else none := rfl
      by_cases hm : a ∈ known
      · refine stop ?_ fun x y e => by injection e with e1 e2; rw [← e1]; exact .inl hm
        rw [eq, List.contains_iff_mem.mpr hm]
        simp
      · by_cases hb : b ∈ known
        · have q : keepsRow (rowW (.keeps a b)) known = some (a, b) := by
            rw [eq, hab.1, show known.contains a = false by simpa using hm, List.contains_iff_mem.mpr hb]
            rfl
          obtain ⟨qs, R1, e1, e2, e3, e4, e5⟩ := kept_ex n R (known ++ [a]) (found ++ [(a, b)]) fun r hr => hR r (List.mem_cons_of_mem _ hr)
          have ea : known ++ [a] ++ qs.map (·.1) = known ++ ((a, b) :: qs).map (·.1) := by rw [List.append_assoc]; rfl
          rw [ea] at e5
          refine ⟨(a, b) :: qs, R1, by rw [e1]; rfl, ?_, by rw [List.length_cons]; omega, ⟨hab.1, hm, hb, e4⟩, fun x y rest e => ?_⟩
          · show keptM (rowW (.keeps a b) :: ((R.map rowW).take n)) known found = _
            unfold keptM
            rw [q]
            show keptM _ (known ++ [a]) (found ++ [(a, b)]) = _
            rw [e2, List.append_assoc]
            rfl
          · rcases e5 x y rest e with h | h
            · exact .inl (by rw [List.length_cons, h])
            · exact .inr h
        · refine stop ?_ fun x y e => by injection e with e1 e2; rw [← e2]; exact .inr hb
          rw [eq, show known.contains b = false by simpa using hb]
          simp
    | lib t => exact stop (keeps_none (by decide +kernel)) fun a b e => by cases e
    | needs p => exact stop (keeps_none (by decide +kernel)) fun a b e => by cases e
    | hook => exact stop (keeps_none (by decide +kernel)) fun a b e => by cases e
    | by_ s ch m =>
      refine stop ?_ fun a b e => by cases e
      obtain ⟨a, t, e, _, h1, _⟩ := by_head (hR _ (List.mem_cons_self ..))
      rw [e]
      exact keeps_none h1
theorem hook_iff {r : KRow} (h : RowOk r) : hookRow (rowW r) = true ↔ r = .hook := by
  have no : ∀ {a : Str} {t : List Str}, a ≠ "hook" → hookRow (a :: t) = true → r = .hook := fun h1 h2 => by
    rw [hook_none h1] at h2
    cases h2
  cases r with
  | hook => exact ⟨fun _ => rfl, fun _ => by decide +kernel⟩
  | lib t => exact ⟨no (by decide +kernel), fun e => by cases e⟩
  | needs p => exact ⟨no (by decide +kernel), fun e => by cases e⟩
  | keeps a b => exact ⟨no (by decide +kernel), fun e => by cases e⟩
  | by_ s ch m =>
    obtain ⟨a, t, e, _, _, h1, _⟩ := by_head h
    refine ⟨fun z => ?_, fun e => by cases e⟩
    rw [e] at z
    exact no h1 z
theorem first_iff {r : KRow} (h : RowOk r) : firstRow (rowW r) = true ↔ ∃ t, r = .lib t := by
  have no : ∀ {a : Str} {t : List Str}, a ≠ "library" → firstRow (a :: t) = false := fun {a t} h1 => by
    unfold firstRow
    split
    · rename_i x y e
      have e1 : a = x := by injection e
      have : (x == ("library" : Str)) = false := by rw [← e1]; simpa using h1
      rw [this]
      rfl
    · rfl
  cases r with
  | lib t => exact ⟨fun _ => ⟨t, rfl⟩, fun _ => by show (("library" : Str) == "library" && className t) = true; rw [show className t = true from h]; rfl⟩
  | needs p => exact ⟨fun z => (by rw [show firstRow (rowW (.needs p)) = false from no (by decide +kernel)] at z; cases z), fun ⟨_, e⟩ => by cases e⟩
  | keeps a b => exact ⟨fun z => (by rw [show firstRow (rowW (.keeps a b)) = false from no (by decide +kernel)] at z; cases z), fun ⟨_, e⟩ => by cases e⟩
  | hook => exact ⟨fun z => (by rw [show firstRow (rowW .hook) = false from no (by decide +kernel)] at z; cases z), fun ⟨_, e⟩ => by cases e⟩
  | by_ s ch m =>
    obtain ⟨a, t, e, _, _, _, h1⟩ := by_head h
    refine ⟨fun z => ?_, fun ⟨_, e⟩ => by cases e⟩
    rw [e, no h1] at z
    cases z
theorem due_needs : ∀ (qs : List Str) (above R1 : List KRow) (ps0 : List Str), partsK above = ps0 → above ≠ [] → lastK above ≤ 1 → (ps0 ++ qs).Nodup → ps0.length + qs.length ≤ 3 →
    dueK above (qs.map KRow.needs ++ R1) = dueK (above ++ qs.map KRow.needs) R1 ∧ partsK (above ++ qs.map KRow.needs) = ps0 ++ qs ∧ lastK (above ++ qs.map KRow.needs) ≤ 1 ∧ (qs ≠ [] → lastK (above ++ qs.map KRow.needs) = 1)
  | [], above, R1, ps0, h1, _, h3, _, _ => ⟨by rw [List.map_nil, List.append_nil]; rfl, by rw [List.map_nil, List.append_nil, List.append_nil]; exact h1, by rw [List.map_nil, List.append_nil]; exact h3, fun e => absurd rfl e⟩
  | p :: qs, above, R1, ps0, h1, h2, h3, h4, h5 => by
    have np : p ∉ ps0 := fun hm => by
      rw [List.nodup_append] at h4
      exact h4.2.2 p hm p (List.mem_cons_self ..) rfl
    have hr : rightK (.needs p) above = true := by
      show (!above.isEmpty && decide (lastK above ≤ 1) && decide ((partsK above).length < 3) && !(partsK above).contains p) = true
      rw [h1, decide_eq_true h3, decide_eq_true (by rw [List.length_cons] at h5; omega), show ps0.contains p = false by simpa using np, show above.isEmpty = false by cases above with
        | nil => exact absurd rfl h2
        | cons _ _ => rfl]
      rfl
    have hl : lastK (above ++ [KRow.needs p]) = 1 := lastK_app above _
    obtain ⟨i1, i2, i3, i4⟩ := due_needs qs (above ++ [.needs p]) R1 (ps0 ++ [p]) (by rw [partsK_app, h1]; rfl) (by simp) (by omega) (by rw [List.append_assoc]; exact h4) (by rw [List.length_append]; rw [List.length_cons] at h5; show ps0.length + 1 + _ ≤ 3; omega)
    have e : above ++ [KRow.needs p] ++ qs.map KRow.needs = above ++ (p :: qs).map KRow.needs := by rw [List.append_assoc]; rfl
    rw [e] at i1 i2 i3 i4
    refine ⟨?_, by rw [i2, List.append_assoc]; rfl, i3, fun _ => ?_⟩
    · show (if rightK (.needs p) above = true then dueK (above ++ [.needs p]) (qs.map KRow.needs ++ R1) else above.length) = _
      rw [if_pos hr, i1]
    · cases qs with
      | nil => exact hl
      | cons _ _ => exact i4 (by simp)
theorem due_kept : ∀ (qs : List (Str × Str)) (above R1 : List KRow) (ps ks0 : List Str), partsK above = ps → keptK above = ks0 → ps ≠ [] → above ≠ [] → 1 ≤ lastK above → lastK above ≤ 2 → KeptOk (ps ++ ks0) qs → ks0.length + qs.length ≤ 2 →
    dueK above (qs.map (fun q => KRow.keeps q.1 q.2) ++ R1) = dueK (above ++ qs.map fun q => KRow.keeps q.1 q.2) R1 ∧ partsK (above ++ qs.map fun q => KRow.keeps q.1 q.2) = ps ∧ keptK (above ++ qs.map fun q => KRow.keeps q.1 q.2) = ks0 ++ qs.map (·.1) ∧
      1 ≤ lastK (above ++ qs.map fun q => KRow.keeps q.1 q.2) ∧ lastK (above ++ qs.map fun q => KRow.keeps q.1 q.2) ≤ 2 ∧ (qs ≠ [] → lastK (above ++ qs.map fun q => KRow.keeps q.1 q.2) = 2)
  | [], above, R1, ps, ks0, h1, h2, _, _, h5, h6, _, _ => by
    simp only [List.map_nil, List.append_nil, List.nil_append]
    exact ⟨trivial, h1, h2, h5, h6, fun e => absurd rfl e⟩
  | q :: qs, above, R1, ps, ks0, h1, h2, h3, h4, h5, h6, ⟨k1, k2, k3, k4⟩, h8 => by
    have hr : rightK (.keeps q.1 q.2) above = true := by
      show (!above.isEmpty && !(partsK above).isEmpty && (decide (1 ≤ lastK above) && decide (lastK above ≤ 2)) && decide ((keptK above).length ≠ 2) && !(partsK above ++ keptK above).contains q.1 && (partsK above ++ keptK above).contains q.2) = true
      rw [h1, h2, decide_eq_true h5, decide_eq_true h6, decide_eq_true (by rw [List.length_cons] at h8; omega), show (ps ++ ks0).contains q.1 = false by simpa using k2, List.contains_iff_mem.mpr k3, show above.isEmpty = false by cases above with
        | nil => exact absurd rfl h4
        | cons _ _ => rfl, show ps.isEmpty = false by cases ps with
        | nil => exact absurd rfl h3
        | cons _ _ => rfl]
      rfl
    have hl : lastK (above ++ [KRow.keeps q.1 q.2]) = 2 := lastK_app above _
    obtain ⟨i1, i2, i3, i4, i5, i6⟩ := due_kept qs (above ++ [.keeps q.1 q.2]) R1 ps (ks0 ++ [q.1]) (by rw [partsK_app, h1]; exact List.append_nil _) (by rw [keptK_app, h2]; rfl) h3 (by simp) (by omega) (by omega) (by rw [← List.append_assoc]; exact k4) (by rw [List.length_append]; rw [List.length_cons] at h8; show ks0.length + 1 + _ ≤ 2; omega)
    have e : above ++ [KRow.keeps q.1 q.2] ++ qs.map (fun q => KRow.keeps q.1 q.2) = above ++ (q :: qs).map fun q => KRow.keeps q.1 q.2 := by rw [List.append_assoc]; rfl
    rw [e] at i1 i2 i3 i4 i5 i6
    refine ⟨?_, i2, by rw [i3, List.append_assoc]; rfl, i4, i5, fun _ => ?_⟩
    · show (if rightK (.keeps q.1 q.2) above = true then dueK (above ++ [.keeps q.1 q.2]) (qs.map (fun q => KRow.keeps q.1 q.2) ++ R1) else above.length) = _
      rw [if_pos hr, i1]
    · cases qs with
      | nil => exact hl
      | cons _ _ => exact i6 (by simp)
/-- the operations are told as their lines -/
theorem ops_lines {ps : List Str} : ∀ (R : List KRow), (∀ r ∈ R, RowOk r) → (∀ r ∈ R, isBy r = true) → (R.filterMap (opK ps)).map opLine = R.map rowL
  | [], _, _ => rfl
  | r :: R, hR, hb => by
    have ih := ops_lines (ps := ps) R (fun r hr => hR r (List.mem_cons_of_mem _ hr)) fun r hr => hb r (List.mem_cons_of_mem _ hr)
    have hr := hb r (List.mem_cons_self ..)
    cases r with
    | by_ s ch m =>
      have h : ByOk s ch m := hR _ (List.mem_cons_self ..)
      show opLine ⟨sgN s, if s = "make zero" then ps else ch, m⟩ :: (R.filterMap (opK ps)).map opLine = _ :: R.map rowL
      rw [ih]
      congr 1
      by_cases e : s = "make zero"
      · obtain ⟨h1, _⟩ := h.zero e
        unfold opLine sgN
        rw [if_pos e, if_pos e]
        rw [if_pos (show arity (⟨"zero", ps, m⟩ : Op).sign = 0 from (by decide +kernel : arity "zero" = 0))]
        show _ = s ++ (if ch = [] then ("" : Str) else _) ++ (" by " : Str) ++ m
        rw [if_pos h1, e]
        refine ext_tl ?_
        simp only [tl_append]
        rw [show tl ("make " : Str) ++ tl ("zero" : Str) = tl ("make zero" : Str) ++ tl ("" : Str) by decide +kernel]
      · have ha : arity s ≠ 0 := by
          have key : ∀ s ∈ sgn14, s ≠ "make zero" → arity s ≠ 0 := by decide +kernel
          exact key s h.sg e
        unfold opLine sgN
        rw [if_neg e]
        dsimp only
        rw [if_neg ha, if_neg e]
        show _ = s ++ (if ch = [] then ("" : Str) else (" changes " : Str) ++ Str.join " " ch) ++ (" by " : Str) ++ m
        by_cases hc : ch = []
        · rw [if_pos hc, if_pos hc]
          refine ext_tl ?_
          simp only [tl_append]
          rw [show tl ("" : Str) = [] by decide +kernel, List.append_nil]
        · rw [if_neg hc, if_neg hc]
          refine ext_tl ?_
          simp only [tl_append, List.append_assoc]
    | _ => cases hr
/-- THE WHOLE: the text is read, and told, if every line is right and there is an operation; otherwise reading stops at the first line that is not -/
theorem read_due {rows : List KRow} (hR : ∀ r ∈ rows, RowOk r) (hne : rows ≠ []) :
    (dueK [] rows = rows.length ∧ rows.any isBy = true → ∃ L, readM (textK rows) = .ok L ∧ textM L = textK rows) ∧
    (¬(dueK [] rows = rows.length ∧ rows.any isBy = true) → readM (textK rows) = .error (dueK [] rows)) := by
  have eW : readM (textK rows) = readRows (rows.map rowW) := by
    unfold readM
    rw [text_rows hR hne]
  rw [eW]
  cases rows with
  | nil => exact absurd rfl hne
  | cons r0 R =>
    have h0 := hR r0 (List.mem_cons_self ..)
    have hRR : ∀ r ∈ R, RowOk r := fun r hr => hR r (List.mem_cons_of_mem _ hr)
    by_cases hf : firstRow (rowW r0) = true
    · obtain ⟨t, rfl⟩ := (first_iff h0).mp hf
      obtain ⟨ps, R1, e1, e2, e3, e4, e5⟩ := params_ex 3 R [] List.nodup_nil hRR
      rw [List.nil_append] at e2 e4
      have hR1 : ∀ r ∈ R1, RowOk r := fun r hr => hRR r (by rw [e1]; exact List.mem_append_right _ hr)
      have d0 : dueK [] (KRow.lib t :: R) = dueK [KRow.lib t] R := rfl
      obtain ⟨n1, n2, n3, n4⟩ := due_needs ps [KRow.lib t] R1 [] rfl (by simp) (by show 0 ≤ 1; decide) (by rw [List.nil_append]; exact e4) (by rw [List.length_nil]; omega)
      rw [List.nil_append] at n2
      have hlib : className t = true := h0
      have ed1 : dueK [] (KRow.lib t :: R) = dueK ([KRow.lib t] ++ ps.map KRow.needs) R1 := by rw [d0, e1, n1]
      have rr : readRows ((KRow.lib t :: R).map rowW) = (if ps.isEmpty = true then .error 1 else
          (match opsOf ((KRow.lib t :: R).map rowW) (if (hookAt ((KRow.lib t :: R).map rowW) (1 + ps.length + (keptM ((((KRow.lib t :: R).map rowW).drop (1 + ps.length)).take 2) ps []).length)).isSome = true then 1 + ps.length + (keptM ((((KRow.lib t :: R).map rowW).drop (1 + ps.length)).take 2) ps []).length + 1 else 1 + ps.length + (keptM ((((KRow.lib t :: R).map rowW).drop (1 + ps.length)).take 2) ps []).length) ps (hookAt ((KRow.lib t :: R).map rowW) (1 + ps.length + (keptM ((((KRow.lib t :: R).map rowW).drop (1 + ps.length)).take 2) ps []).length)) with
            | .error k => .error k
            | .ok ops => .ok ⟨t, ps, keptM ((((KRow.lib t :: R).map rowW).drop (1 + ps.length)).take 2) ps [], hookAt ((KRow.lib t :: R).map rowW) (1 + ps.length + (keptM ((((KRow.lib t :: R).map rowW).drop (1 + ps.length)).take 2) ps []).length), ops⟩)) := by
        have ep : paramsM ((((KRow.lib t :: R).map rowW).drop 1).take 3) [] = ps := e2
        unfold readRows
        dsimp only
        rw [show (List.map rowW (KRow.lib t :: R)).headD [] = rowW (.lib t) from rfl, hf, ep]
        rfl
      rw [rr]
      cases hps : ps with
      | nil =>
        subst hps
        rw [if_pos (show ([] : List Str).isEmpty = true from rfl)]
        have hstop : ∀ r ∈ R1.head?, rightK r ([KRow.lib t] ++ ([] : List Str).map KRow.needs) = false := by
          intro r hr
          cases R1 with
          | nil => cases hr
          | cons x xs =>
            have : x = r := by simpa using hr
            subst this
            cases x with
            | lib _ => rfl
            | needs p =>
              rcases e5 p xs rfl with h | h <;> simp at h
            | keeps a b => rfl
            | hook => rfl
            | by_ a b c => rfl
        have ed : dueK [] (KRow.lib t :: R) = 1 := by rw [ed1, due_stop hstop]; rfl
        refine ⟨fun ⟨q1, q2⟩ => ?_, fun _ => by rw [ed]⟩
        rw [ed] at q1
        have : R = [] := List.length_eq_zero_iff.mp (by rw [List.length_cons] at q1; omega)
        rw [this] at q2
        cases q2
      | cons p0 pt =>
        rw [← hps]
        have hpne : ps ≠ [] := by rw [hps]; simp
        have hemp : ps.isEmpty = false := by rw [hps]; rfl
        rw [if_neg (by rw [hemp]; exact Bool.false_ne_true)]
        have dr : ((KRow.lib t :: R).map rowW).drop (1 + ps.length) = R1.map rowW := by
          rw [e1, List.map_cons, List.map_append, List.map_map, Nat.add_comm, List.drop_succ_cons]
          exact List.drop_left' (by rw [List.length_map])
        obtain ⟨ks, R2, k1, k2, k3, k4, k5⟩ := kept_ex 2 R1 ps [] hR1
        rw [List.nil_append] at k2
        rw [dr, k2]
        have hR2 : ∀ r ∈ R2, RowOk r := fun r hr => hR1 r (by rw [k1]; exact List.mem_append_right _ hr)
        have l1 : lastK ([KRow.lib t] ++ ps.map KRow.needs) = 1 := n4 hpne
        have kp0 : keptK ([KRow.lib t] ++ ps.map KRow.needs) = [] := by
          rw [keptK_app]
          show [] ++ keptK (ps.map KRow.needs) = []
          rw [List.nil_append]
          unfold keptK
          rw [List.filterMap_map]
          exact List.filterMap_eq_nil_iff.mpr fun a _ => rfl
        obtain ⟨m1, m2, m3, m4, m5, m6⟩ := due_kept ks ([KRow.lib t] ++ ps.map KRow.needs) R2 ps [] n2 kp0 hpne (by simp) (by omega) (by omega) (by rw [List.append_nil]; exact k4) (by rw [List.length_nil]; omega)
        rw [List.nil_append] at m3
        have ed2 : dueK [] (KRow.lib t :: R) = dueK ([KRow.lib t] ++ ps.map KRow.needs ++ ks.map fun q => KRow.keeps q.1 q.2) R2 := by rw [ed1, k1, m1]
        have eR : KRow.lib t :: R = ([KRow.lib t] ++ ps.map KRow.needs ++ ks.map fun q => KRow.keeps q.1 q.2) ++ R2 := by rw [e1, k1, List.append_assoc, List.append_assoc]; rfl
        have lroot : ([KRow.lib t] ++ ps.map KRow.needs ++ ks.map fun q => KRow.keeps q.1 q.2).length = 1 + ps.length + ks.length := by simp only [List.length_append, List.length_map, List.length_cons, List.length_nil, Nat.zero_add]
        have hat : ((KRow.lib t :: R).map rowW)[1 + ps.length + ks.length]? = R2.head?.map rowW := by
          rw [eR, List.map_append, List.getElem?_append_right (by rw [List.length_map, lroot]; exact Nat.le_refl _), List.length_map, lroot, Nat.sub_self, List.getElem?_map]
          cases R2 <;> rfl
        have sg0 : signsK ([KRow.lib t] ++ ps.map KRow.needs ++ ks.map fun q => KRow.keeps q.1 q.2) = [] := by
          have z1 : ∀ l : List Str, signsK (l.map KRow.needs) = [] := fun l => by
            unfold signsK
            rw [List.filterMap_map]
            exact List.filterMap_eq_nil_iff.mpr fun a _ => rfl
          have z2 : ∀ l : List (Str × Str), signsK (l.map fun q => KRow.keeps q.1 q.2) = [] := fun l => by
            unfold signsK
            rw [List.filterMap_map]
            exact List.filterMap_eq_nil_iff.mpr fun a _ => rfl
          rw [signsK_app, signsK_app, z1, z2]
          rfl
        have hk0 : hookK ([KRow.lib t] ++ ps.map KRow.needs ++ ks.map fun q => KRow.keeps q.1 q.2) = false := by
          unfold hookK
          rw [List.any_append, List.any_append, List.any_map, List.any_map]
          have z1 : ∀ l : List Str, l.any ((fun r => match r with | KRow.hook => true | _ => false) ∘ KRow.needs) = false := fun l => List.any_eq_false.mpr fun a _ => Bool.false_ne_true
          have z2 : ∀ l : List (Str × Str), l.any ((fun r => match r with | KRow.hook => true | _ => false) ∘ fun q => KRow.keeps q.1 q.2) = false := fun l => List.any_eq_false.mpr fun a _ => Bool.false_ne_true
          rw [z1, z2]
          rfl
        -- what comes behind: the operations
        have fin : ∀ (root R3 : List KRow) (hk : Option Str), KRow.lib t :: R = root ++ R3 → dueK [] (KRow.lib t :: R) = dueK root R3 → partsK root = ps → root ≠ [] → signsK root = [] → hookK root = hk.isSome → (∀ r ∈ R3.head?, isBy r = false → rightK r root = false) →
            rootLines t ps ks hk = root.map rowL → (root.any isBy = false) →
            ((dueK [] (KRow.lib t :: R) = (KRow.lib t :: R).length ∧ (KRow.lib t :: R).any isBy = true → ∃ L, (match opsOf ((KRow.lib t :: R).map rowW) root.length ps hk with | .error k => Except.error k | .ok ops => .ok (⟨t, ps, ks, hk, ops⟩ : Lib)) = .ok L ∧ textM L = textK (KRow.lib t :: R)) ∧
            (¬(dueK [] (KRow.lib t :: R) = (KRow.lib t :: R).length ∧ (KRow.lib t :: R).any isBy = true) → (match opsOf ((KRow.lib t :: R).map rowW) root.length ps hk with | .error k => Except.error k | .ok ops => .ok (⟨t, ps, ks, hk, ops⟩ : Lib)) = .error (dueK [] (KRow.lib t :: R)))) := by
          intro root R3 hk x1 x2 x3 x4 x5 x6 x7 x8 x9
          have hR3 : ∀ r ∈ R3, RowOk r := fun r hr => hR r (by rw [x1]; exact List.mem_append_right _ hr)
          have lW : ((KRow.lib t :: R).map rowW).length = root.length + R3.length := by rw [x1, List.length_map, List.length_append]
          have lK : (KRow.lib t :: R).length = root.length + R3.length := by rw [x1, List.length_append]
          have dW : ((KRow.lib t :: R).map rowW).drop root.length = R3.map rowW := by
            rw [x1, List.map_append]
            exact List.drop_left' (by rw [List.length_map])
          have aB : (KRow.lib t :: R).any isBy = R3.any isBy := by rw [x1, List.any_append, x9, Bool.false_or]
          rw [aB, x2, lK]
          unfold opsOf
          rw [lW, dW]
          cases hR3e : R3 with
          | nil =>
            refine ⟨(fun ⟨_, q⟩ => by cases q), fun _ => ?_⟩
            rw [if_pos (by rfl)]
            rfl
          | cons y ys =>
            rw [← hR3e]
            rw [if_neg (by rw [hR3e, List.length_cons]; omega)]
            have od := ops_due (hk := hk) hpne R3 root [] hR3 (by rw [List.append_nil]; exact x3) x4 (fun r hr => (by cases hr)) x5 x6 (fun r hr n => by rw [List.append_nil]; exact x7 r hr n) (by decide)
            rw [List.append_nil] at od
            rcases od with ⟨q1, q2, q3, _⟩ | ⟨q1, q2⟩
            · have q3' : opsM ps hk root.length (R3.map rowW) [] = .ok (R3.filterMap (opK ps)) := q3
              refine ⟨fun _ => ⟨⟨t, ps, ks, hk, R3.filterMap (opK ps)⟩, by rw [q3'], ?_⟩, fun n => absurd ⟨q1, ?_⟩ n⟩
              · show Str.join "\n" (linesM _) = Str.join "\n" ((KRow.lib t :: R).map rowL)
                congr 1
                unfold linesM
                rw [x8, x1, List.map_append]
                congr 1
                exact ops_lines R3 hR3 q2
              · rw [hR3e] at q2 ⊢
                rw [List.any_cons, q2 y (List.mem_cons_self ..)]
                rfl
            · have q2' : opsM ps hk root.length (R3.map rowW) [] = .error (dueK root R3) := q2
              refine ⟨(fun ⟨z, _⟩ => by omega), fun _ => by rw [q2']⟩
        have lines0 : ([KRow.lib t] ++ ps.map KRow.needs ++ ks.map fun q => KRow.keeps q.1 q.2).map rowL = [("library " : Str) ++ t] ++ ps.map (fun p => ("needs " : Str) ++ p) ++ ks.map fun p => ("keeps " : Str) ++ p.1 ++ (" of " : Str) ++ p.2 := by
          rw [List.map_append, List.map_append, List.map_map, List.map_map]
          rfl
        have nb0 : ([KRow.lib t] ++ ps.map KRow.needs ++ ks.map fun q => KRow.keeps q.1 q.2).any isBy = false := by
          rw [List.any_append, List.any_append, List.any_map, List.any_map]
          have z1 : ∀ l : List Str, l.any (isBy ∘ KRow.needs) = false := fun l => List.any_eq_false.mpr fun a _ => Bool.false_ne_true
          have z2 : ∀ l : List (Str × Str), l.any (isBy ∘ fun q => KRow.keeps q.1 q.2) = false := fun l => List.any_eq_false.mpr fun a _ => Bool.false_ne_true
          rw [z1, z2]
          rfl
        have hrne : ([KRow.lib t] ++ ps.map KRow.needs ++ ks.map fun q => KRow.keeps q.1 q.2) ≠ [] := by simp
        generalize hroot : ([KRow.lib t] ++ ps.map KRow.needs ++ ks.map fun q => KRow.keeps q.1 q.2) = root at *
        by_cases hh : ∃ R3, R2 = KRow.hook :: R3
        · obtain ⟨R3, rfl⟩ := hh
          have hA : hookAt ((KRow.lib t :: R).map rowW) (1 + ps.length + ks.length) = some ("call" : Str) := by
            unfold hookAt
            rw [hat]
            show (if hookRow (rowW .hook) = true then some ((rowW KRow.hook).getD 1 "") else none) = _
            rw [(hook_iff (r := .hook) trivial).mpr rfl]
            rfl
          rw [hA]
          have hrk : rightK .hook root = true := by
            show (!root.isEmpty && !(partsK root).isEmpty && (decide (1 ≤ lastK root) && decide (lastK root ≤ 2))) = true
            rw [m2, hemp, decide_eq_true m4, decide_eq_true m5, show root.isEmpty = false by cases root with
              | nil => exact absurd rfl hrne
              | cons _ _ => rfl]
            rfl
          have hl3 : lastK (root ++ [KRow.hook]) = 3 := lastK_app root _
          have := fin (root ++ [.hook]) R3 (some ("call" : Str)) (by rw [eR, List.append_assoc]; rfl) (by
              rw [ed2]
              show (if rightK .hook root = true then dueK (root ++ [.hook]) R3 else root.length) = _
              rw [if_pos hrk]) (by rw [partsK_app, m2]; exact List.append_nil _) (by simp) (by rw [signsK_app, sg0]; rfl) (by unfold hookK at hk0 ⊢; rw [List.any_append, hk0]; rfl) (fun r _ n => by
              cases r with
              | lib _ => show (root ++ [KRow.hook]).isEmpty = false; cases root <;> rfl
              | needs p =>
                show (_ && decide (lastK (root ++ [.hook]) ≤ 1) && _ && _) = false
                rw [hl3]
                simp
              | keeps a b =>
                show (_ && _ && (_ && decide (lastK (root ++ [.hook]) ≤ 2)) && _ && _ && _) = false
                rw [hl3]
                simp
              | hook =>
                show (_ && _ && (_ && decide (lastK (root ++ [.hook]) ≤ 2))) = false
                rw [hl3]
                simp
              | by_ _ _ _ => cases n) (by rw [List.map_append, lines0]; rfl) (by rw [List.any_append, nb0]; rfl)
          rw [show (root ++ [KRow.hook]).length = 1 + ps.length + ks.length + 1 by rw [List.length_append, lroot]; rfl] at this
          rw [show (some ("call" : Str)).isSome = true from rfl, if_pos rfl]
          exact this
        · have hA : hookAt ((KRow.lib t :: R).map rowW) (1 + ps.length + ks.length) = none := by
            unfold hookAt
            rw [hat]
            cases R2 with
            | nil => rfl
            | cons x xs =>
              show (if hookRow (rowW x) = true then some ((rowW x).getD 1 "") else none) = none
              rw [if_neg]
              intro z
              have := (hook_iff (hR2 x (List.mem_cons_self ..))).mp z
              exact hh ⟨xs, by rw [this]⟩
          rw [hA]
          have := fin root R2 none eR ed2 m2 hrne sg0 hk0 (fun r hr n => by
              cases hR2e : R2 with
              | nil => rw [hR2e] at hr; cases hr
              | cons x xs =>
                rw [hR2e] at hr
                have : x = r := by simpa using hr
                subst this
                have hne2 : root.isEmpty = false := by cases root with
                  | nil => exact absurd rfl hrne
                  | cons _ _ => rfl
                cases x with
                | lib _ => exact hne2
                | needs p =>
                  show (!root.isEmpty && decide (lastK root ≤ 1) && decide ((partsK root).length < 3) && !(partsK root).contains p) = false
                  rw [m2]
                  cases ks with
                  | nil =>
                    have k1' : R1 = R2 := k1
                    rcases e5 p xs (by rw [k1', hR2e]) with z | z
                    · rw [z]
                      simp
                    · rw [List.contains_iff_mem.mpr (by simpa using z)]
                      simp
                  | cons k kt =>
                    rw [m6 (by simp)]
                    simp
                | keeps a b =>
                  show (!root.isEmpty && !(partsK root).isEmpty && (decide (1 ≤ lastK root) && decide (lastK root ≤ 2)) && decide ((keptK root).length ≠ 2) && !(partsK root ++ keptK root).contains a && (partsK root ++ keptK root).contains b) = false
                  rw [m2, m3]
                  rcases k5 a b xs hR2e with z | z | z
                  · rw [List.length_map, z]
                    simp
                  · rw [List.contains_iff_mem.mpr z]
                    simp
                  · rw [show (ps ++ ks.map (·.1)).contains b = false by simpa using z]
                    simp
                | hook => exact absurd ⟨xs, hR2e⟩ hh
                | by_ _ _ _ => cases n) (by rw [lines0]; unfold rootLines; rw [List.append_nil]) nb0
          rw [lroot] at this
          rw [show (none : Option Str).isSome = false from rfl, if_neg Bool.false_ne_true]
          exact this
    · have hf' : firstRow (rowW r0) = false := Bool.eq_false_iff.mpr hf
      have er : readRows ((r0 :: R).map rowW) = .error 0 := by
        unfold readRows
        rw [show (List.map rowW (r0 :: R)).headD [] = rowW r0 from rfl, hf']
        rfl
      have hr0 : rightK r0 [] = false := by
        cases r0 with
        | lib t => exact absurd ((first_iff h0).mpr ⟨t, rfl⟩) hf
        | _ => rfl
      have ed : dueK [] (r0 :: R) = 0 := due_stop (rest := r0 :: R) fun r hr => by cases hr; exact hr0
      rw [er, ed]
      exact ⟨(fun ⟨z, _⟩ => by cases z), fun _ => rfl⟩
end LM

namespace K03
open PySem PySem.Spec PyProof.Rows L2 EV
def top (i : Nat) : Stmt := PySem.Challenge.pw_heirsback_k03_whole_libraries_in_any_ord.main.body.getD i (.Pass ⟨0, 0, 0, 0⟩)

abbrev s_own_copy : Stmt := top 2
theorem sc_own_copy : FnScope ["thing", "part"] ["thing"] (defScope s_own_copy) :=
  ⟨rfl, rfl, rfl, by decide +kernel, rfl, by decide +kernel, by decide +kernel⟩
abbrev s_BadLibrary___init__ : Stmt := inClass (top 4) 0
theorem sc_BadLibrary___init__ : FnScope ["self", "at"] ["self", "at"] (defScope s_BadLibrary___init__) :=
  ⟨rfl, rfl, rfl, by decide +kernel, rfl, by decide +kernel, by decide +kernel⟩
abbrev s_NoSign___init__ : Stmt := inClass (top 5) 0
theorem sc_NoSign___init__ : FnScope ["self", "sign"] ["self", "sign"] (defScope s_NoSign___init__) :=
  ⟨rfl, rfl, rfl, by decide +kernel, rfl, by decide +kernel, by decide +kernel⟩
abbrev s_is_within : Stmt := top 13
theorem sc_is_within : FnScope ["word", "low", "high", "letter"] ["word", "low", "high"] (defScope s_is_within) :=
  ⟨rfl, rfl, rfl, by decide +kernel, rfl, by decide +kernel, by decide +kernel⟩
abbrev s_is_small_word : Stmt := top 14
theorem sc_is_small_word : FnScope ["word"] ["word"] (defScope s_is_small_word) :=
  ⟨rfl, rfl, rfl, by decide +kernel, rfl, by decide +kernel, by decide +kernel⟩
abbrev s_is_class_name : Stmt := top 15
theorem sc_is_class_name : FnScope ["word"] ["word"] (defScope s_is_class_name) :=
  ⟨rfl, rfl, rfl, by decide +kernel, rfl, by decide +kernel, by decide +kernel⟩
abbrev s_is_field_name : Stmt := top 16
theorem sc_is_field_name : FnScope ["word"] ["word"] (defScope s_is_field_name) :=
  ⟨rfl, rfl, rfl, by decide +kernel, rfl, by decide +kernel, by decide +kernel⟩
abbrev s_is_request : Stmt := top 17
theorem sc_is_request : FnScope ["word"] ["word"] (defScope s_is_request) :=
  ⟨rfl, rfl, rfl, by decide +kernel, rfl, by decide +kernel, by decide +kernel⟩
abbrev s_arity_of : Stmt := top 18
theorem sc_arity_of : FnScope ["sign"] ["sign"] (defScope s_arity_of) :=
  ⟨rfl, rfl, rfl, by decide +kernel, rfl, by decide +kernel, by decide +kernel⟩
abbrev s_Library___init__ : Stmt := inClass (top 23) 0
theorem sc_Library___init__ : FnScope ["self", "name", "root_parameters", "kept", "root_hook", "operations", "lines", "operation", "sign", "changed", "_", "maker"] ["self", "name", "root_parameters", "kept", "root_hook", "operations"] (defScope s_Library___init__) :=
  ⟨rfl, rfl, rfl, by decide +kernel, rfl, by decide +kernel, by decide +kernel⟩
abbrev s_Library_read : Stmt := inClass (top 23) 1
theorem sc_Library_read : FnScope ["cls", "text", "rows", "parameters", "at", "kept", "root_hook", "line"] ["cls", "text"] (defScope s_Library_read) :=
  ⟨rfl, rfl, rfl, by decide +kernel, rfl, by decide +kernel, by decide +kernel⟩
abbrev s_Library_signs : Stmt := inClass (top 23) 3
theorem sc_Library_signs : FnScope ["self"] ["self"] (defScope s_Library_signs) :=
  ⟨rfl, rfl, rfl, by decide +kernel, rfl, by decide +kernel, by decide +kernel⟩
abbrev s_Library_changed : Stmt := inClass (top 23) 5
theorem sc_Library_changed : FnScope ["self", "sign"] ["self", "sign"] (defScope s_Library_changed) :=
  ⟨rfl, rfl, rfl, by decide +kernel, rfl, by decide +kernel, by decide +kernel⟩
abbrev s_Library__check : Stmt := inClass (top 23) 8
theorem sc_Library__check : FnScope ["self", "sign"] ["self", "sign"] (defScope s_Library__check) :=
  ⟨rfl, rfl, rfl, by decide +kernel, rfl, by decide +kernel, by decide +kernel⟩
abbrev s_Library___contains__ : Stmt := inClass (top 23) 9
theorem sc_Library___contains__ : FnScope ["self", "x"] ["self", "x"] (defScope s_Library___contains__) :=
  ⟨rfl, rfl, rfl, by decide +kernel, rfl, by decide +kernel, by decide +kernel⟩
abbrev s_Library___iter__ : Stmt := inClass (top 23) 10
theorem sc_Library___iter__ : FnScope ["self"] ["self"] (defScope s_Library___iter__) :=
  ⟨rfl, rfl, rfl, by decide +kernel, rfl, by decide +kernel, by decide +kernel⟩
abbrev s_Library___len__ : Stmt := inClass (top 23) 11
theorem sc_Library___len__ : FnScope ["self"] ["self"] (defScope s_Library___len__) :=
  ⟨rfl, rfl, rfl, by decide +kernel, rfl, by decide +kernel, by decide +kernel⟩
abbrev s_Library___str__ : Stmt := inClass (top 23) 12
theorem sc_Library___str__ : FnScope ["self"] ["self"] (defScope s_Library___str__) :=
  ⟨rfl, rfl, rfl, by decide +kernel, rfl, by decide +kernel, by decide +kernel⟩
abbrev s_Library___eq__ : Stmt := inClass (top 23) 13
theorem sc_Library___eq__ : FnScope ["self", "other"] ["self", "other"] (defScope s_Library___eq__) :=
  ⟨rfl, rfl, rfl, by decide +kernel, rfl, by decide +kernel, by decide +kernel⟩
abbrev s_root_lines : Stmt := top 24
theorem sc_root_lines : FnScope ["name", "parameters", "kept", "hook", "lines", "field", "source"] ["name", "parameters", "kept", "hook"] (defScope s_root_lines) :=
  ⟨rfl, rfl, rfl, by decide +kernel, rfl, by decide +kernel, by decide +kernel⟩
abbrev s_operation_line : Stmt := top 25
theorem sc_operation_line : FnScope ["sign", "changed", "maker", "words"] ["sign", "changed", "maker"] (defScope s_operation_line) :=
  ⟨rfl, rfl, rfl, by decide +kernel, rfl, by decide +kernel, by decide +kernel⟩
abbrev s_is_first_row : Stmt := top 26
theorem sc_is_first_row : FnScope ["row"] ["row"] (defScope s_is_first_row) :=
  ⟨rfl, rfl, rfl, by decide +kernel, rfl, by decide +kernel, by decide +kernel⟩
abbrev s_is_hook_row : Stmt := top 27
theorem sc_is_hook_row : FnScope ["row"] ["row"] (defScope s_is_hook_row) :=
  ⟨rfl, rfl, rfl, by decide +kernel, rfl, by decide +kernel, by decide +kernel⟩
abbrev s_parameters_of : Stmt := top 28
theorem sc_parameters_of : FnScope ["rows", "found", "row"] ["rows"] (defScope s_parameters_of) :=
  ⟨rfl, rfl, rfl, by decide +kernel, rfl, by decide +kernel, by decide +kernel⟩
abbrev s_kept_of : Stmt := top 29
theorem sc_kept_of : FnScope ["rows", "parameters", "known", "found", "row"] ["rows", "parameters"] (defScope s_kept_of) :=
  ⟨rfl, rfl, rfl, by decide +kernel, rfl, by decide +kernel, by decide +kernel⟩
abbrev s_operations_of : Stmt := top 30
theorem sc_operations_of : FnScope ["rows", "start", "parameters", "root_hook", "found", "at", "operation", "sign", "_", "maker", "known"] ["rows", "start", "parameters", "root_hook"] (defScope s_operations_of) :=
  ⟨rfl, rfl, rfl, by decide +kernel, rfl, by decide +kernel, by decide +kernel⟩
abbrev s_operation_of : Stmt := top 31
theorem sc_operation_of : FnScope ["row", "parameters", "end", "maker", "changed"] ["row", "parameters"] (defScope s_operation_of) :=
  ⟨rfl, rfl, rfl, by decide +kernel, rfl, by decide +kernel, by decide +kernel⟩
abbrev s_request_of : Stmt := top 32
theorem sc_request_of : FnScope ["row", "parameters", "maker"] ["row", "parameters"] (defScope s_request_of) :=
  ⟨rfl, rfl, rfl, by decide +kernel, rfl, by decide +kernel, by decide +kernel⟩
abbrev s_is_selection : Stmt := top 33
theorem sc_is_selection : FnScope ["words", "parameters", "chosen", "field"] ["words", "parameters"] (defScope s_is_selection) :=
  ⟨rfl, rfl, rfl, by decide +kernel, rfl, by decide +kernel, by decide +kernel⟩
abbrev s_law_bag : Stmt := top 35
theorem sc_law_bag : FnScope ["script", "at", "salt", "cell", "mixed", "k", "each"] ["script", "at", "salt"] (defScope s_law_bag) :=
  ⟨rfl, rfl, rfl, by decide +kernel, rfl, by decide +kernel, by decide +kernel⟩
abbrev s_law_take : Stmt := top 36
theorem sc_law_take : FnScope ["bag", "many", "digit"] ["bag", "many"] (defScope s_law_take) :=
  ⟨rfl, rfl, rfl, by decide +kernel, rfl, by decide +kernel, by decide +kernel⟩
abbrev s_law_of : Stmt := top 37
theorem sc_law_of : FnScope ["bag", "some"] ["bag", "some"] (defScope s_law_of) :=
  ⟨rfl, rfl, rfl, by decide +kernel, rfl, by decide +kernel, by decide +kernel⟩
abbrev s_law_words : Stmt := top 38
theorem sc_law_words : FnScope ["bag", "many", "left", "found", "stem", "turn", "is_ahead", "sign", "word"] ["bag", "many"] (defScope s_law_words) :=
  ⟨rfl, rfl, rfl, by decide +kernel, rfl, by decide +kernel, by decide +kernel⟩
abbrev s_law_titles : Stmt := top 39
theorem sc_law_titles : FnScope ["bag", "many", "left", "found", "stem", "turn", "is_ahead", "sign"] ["bag", "many"] (defScope s_law_titles) :=
  ⟨rfl, rfl, rfl, by decide +kernel, rfl, by decide +kernel, by decide +kernel⟩
abbrev s_law_operation : Stmt := top 40
theorem sc_law_operation : FnScope ["bag", "parts", "sign", "changed", "maker", "told", "part"] ["bag", "parts"] (defScope s_law_operation) :=
  ⟨rfl, rfl, rfl, by decide +kernel, rfl, by decide +kernel, by decide +kernel⟩
abbrev s_law_rows : Stmt := top 41
theorem sc_law_rows : FnScope ["bag", "fields", "title", "parts", "found", "turn", "name", "source", "one", "two", "part"] ["bag"] (defScope s_law_rows) :=
  ⟨rfl, rfl, rfl, by decide +kernel, rfl, by decide +kernel, by decide +kernel⟩
abbrev s_law_right : Stmt := top 42
theorem sc_law_right : FnScope ["row", "above", "kinds", "parts", "fields", "signs", "one", "part"] ["row", "above"] (defScope s_law_right) :=
  ⟨rfl, rfl, rfl, by decide +kernel, rfl, by decide +kernel, by decide +kernel⟩
abbrev s_law : Stmt := top 43
theorem sc_law : FnScope ["script", "at", "bag", "turn", "rows", "due", "lines", "is_whole", "text", "told", "row"] ["script"] (defScope s_law) :=
  ⟨rfl, rfl, rfl, by decide +kernel, rfl, by decide +kernel, by decide +kernel⟩
structure Txt (K : Fg) (mg : Str → Option Value) : Prop where
  n_isinstance : mg "isinstance" = none
  n_list : mg "list" = none
  n_tuple : mg "tuple" = none
  n_int : mg "int" = none
  n_str : mg "str" = none
  n_bool : mg "bool" = none
  n_len : mg "len" = none
  n_abs : mg "abs" = none
  n_max : mg "max" = none
  n_min : mg "min" = none
  n_range : mg "range" = none
  n_enumerate : mg "enumerate" = none
  n_all : mg "all" = none
  n_ValueError : mg "ValueError" = none
  n_LookupError : mg "LookupError" = none
  n_KeyError : mg "KeyError" = none
  n_IndexError : mg "IndexError" = none
end K03

namespace K03
open PySem PySem.Spec PyProof.Rows L2 EV TL LM
/-- a tuple of the written part -/
def TupK (K : Fg) (a : Addr) (xs : List V) : Prop := ∃ (o : Obj) (its : Array Value) (n : Nat), K.lookup a = some o ∧ o.cls = .type "tuple" ∧ o.data = .seq its n ∧ its.size ≤ sizeLine ∧ Vals xs its.toList
theorem TupK.sq {K : Fg} {a : Addr} {xs : List V} {H : Hp} (h : TupK K a xs) : SqT K H a xs := .inr h
/-- the constants of the modules -/
structure Cst (K : Fg) (mg : Str → Option Value) : Prop extends Txt K mg where
  g_LONGEST_NAME : ∃ u, mg "LONGEST_NAME" = some u ∧ RelV (.int 8) u
  g_MOST_PARAMETERS : ∃ u, mg "MOST_PARAMETERS" = some u ∧ RelV (.int 3) u
  g_MOST_KEPT : ∃ u, mg "MOST_KEPT" = some u ∧ RelV (.int 2) u
  g_MOST_OPERATIONS : ∃ u, mg "MOST_OPERATIONS" = some u ∧ RelV (.int 6) u
  g_NO_FIELDS : ∃ a, mg "NO_FIELDS" = some (.ref a) ∧ TupK K a (noFields.map V.str)
  g_BINARY_SIGNS : ∃ a, mg "BINARY_SIGNS" = some (.ref a) ∧ TupK K a (binary.map V.str)
  g_UNARY_SIGNS : ∃ a, mg "UNARY_SIGNS" = some (.ref a) ∧ TupK K a (unary.map V.str)
  g_ROOT_HOOKS : ∃ a, mg "ROOT_HOOKS" = some (.ref a) ∧ TupK K a (rootHooks.map V.str)
  g_MAKERS : ∃ a a0 a1 a2, mg "MAKERS" = some (.ref a) ∧ TupK K a [.ref a0, .ref a1, .ref a2] ∧ TupK K a0 (makers0.map V.str) ∧ TupK K a1 (makers1.map V.str) ∧ TupK K a2 (makers2.map V.str)
theorem inV_strs (w : Str) (l : List Str) : inV (.str w) (l.map V.str) = l.contains w := by
  unfold inV
  induction l with
  | nil => rfl
  | cons x l ih =>
    rw [List.map_cons, List.any_cons, ih, List.contains_cons]
    congr 1
    show (x == w) = (w == x)
    exact Bool.beq_comm
theorem flat_strs (l : List Str) : (l.map V.str).all flatV = true := by
  induction l with
  | nil => rfl
  | cons x l ih => rw [List.map_cons, List.all_cons, ih]; rfl
theorem lt_one (a b : Nat) : decide ([a] < [b]) = decide (a < b) := by
  by_cases h : a < b
  · rw [decide_eq_true h, decide_eq_true (List.cons_lt_cons_iff.mpr (.inl h))]
  · rw [decide_eq_false h, decide_eq_false]
    intro z
    rcases List.cons_lt_cons_iff.mp z with z | ⟨_, z⟩
    · exact h z
    · exact absurd z (by simp)
theorem le_one (a b : Nat) : (!decide ([b] < [a])) = decide (a ≤ b) := by
  rw [lt_one]
  by_cases h : a ≤ b
  · rw [decide_eq_true h, decide_eq_false (by omega)]
    rfl
  · rw [decide_eq_false h, decide_eq_true (by omega)]
    rfl
section
variable {P : Program} {w : World} {K : Fg} {mg : Str → Option Value} {base : Heap}
def spWithin : Sp := fun vs H Q _ => ∃ (z : Str) (lo hi : Nat), vs = [.str z, .str ⟨#[lo]⟩, .str ⟨#[hi]⟩] ∧ z.length ≤ 1000000 ∧ ∀ H', Same H H' → Q (.bl (within lo hi (tl z))) H'
theorem ok_is_within {f : Addr} {fd : FuncData} (F : Fun K "_is_within" "_is_within" s_is_within f fd) (T : Cst K mg) : FnOk P w K mg base CX0 1 f fd ["word", "low", "high"] spWithin := by
  refine F.ok sc_is_within (fun vs H Q E h => ?_) (fun cdv A outer s H vs Q E hr h => ?_)
  · obtain ⟨z, lo, hi, rfl, _⟩ := h
    rfl
  · obtain ⟨z, lo, hi, rfl, hz, k⟩ := h
    refine ⟨_, (pss_one (ps_ret (pe_callB (cr_all rfl) (by rfl) T.n_all (by decide +kernel) (pa_cons (pe_lc (own := [("letter", 3)]) rfl sc_is_within.nd (pi_str (pv 0)) (blkOk_by (own := [("letter", 3)]) (N := ["word", "low", "high", "letter"]) (sc := defScope s_is_within) (by decide +kernel)) (fun _ _ _ _ _ => (pg_name (i := 3) sc_is_within.nd rfl (Or.inl rfl))) (fun _ _ _ _ _ => pts_nil) (fun _ _ _ _ _ => (pe_chain op_le_str op_le_str (pv 1) (pv 3) (pv 2)))) pa_nil)))), ?_⟩
    refine ⟨_, rfl, z, rfl, fun D nD => ?_⟩
    refine lc_fm walk_str (fun i => (tl z)[i]?.map fun c => V.bl (decide (lo ≤ c) && decide (c ≤ hi))) nD hz (fun _ _ => trivial) ?_ ?_
    · rintro i x H1 H2 NT NE hi' s1 ⟨rfl, c, hc, rfl⟩ h0 h1
      have ec : (tl z)[i]? = some c := by rw [← hc]; exact (Array.getElem?_toList).symm ▸ rfl
      refine ⟨rfl, _, rfl, _, rfl, _, _, rfl, rfl, _, rfl, ite2 (fun hd => ?_) (fun hd => ?_)⟩
      · refine ⟨_, rfl, _, _, rfl, rfl, h1 _ _ ?_ (Same.refl _)⟩
        show (tl z)[i]?.map _ = _
        rw [ec]
        have hd' : decide (lo ≤ c) = true := by rw [← le_one]; exact hd
        show some (V.bl (decide (lo ≤ c) && decide (c ≤ hi))) = some (V.bl (!decide ([hi] < [c])))
        rw [hd', Bool.true_and, le_one]
      · refine h1 _ _ ?_ (Same.refl _)
        show (tl z)[i]?.map _ = _
        rw [ec]
        have hd' : decide (lo ≤ c) = false := by rw [← le_one]; exact Bool.eq_false_iff.mpr hd
        show some (V.bl (decide (lo ≤ c) && decide (c ≤ hi))) = some (V.bl false)
        rw [hd', Bool.false_and]
    · intro H1 s1 hD
      refine ⟨_, (tl z).map fun c => decide (lo ≤ c) && decide (c ≤ hi), rfl, SqL.of ?_, ?_⟩
      · rw [hD, gath_map (tl z) _ (by exact len_tl z), List.map_map]
        rfl
      · have q := k H1 s1
        unfold within at q
        rw [List.all_map]
        exact q
theorem s_a : ("a" : Str) = ⟨#[97]⟩ := by decide +kernel
theorem s_z : ("z" : Str) = ⟨#[122]⟩ := by decide +kernel
theorem s_A : ("A" : Str) = ⟨#[65]⟩ := by decide +kernel
theorem s_Z : ("Z" : Str) = ⟨#[90]⟩ := by decide +kernel
theorem s_0 : ("0" : Str) = ⟨#[48]⟩ := by decide +kernel
theorem s_9 : ("9" : Str) = ⟨#[57]⟩ := by decide +kernel
theorem dec_int_le {a b : Nat} : decide ((a : Int) ≤ (b : Int)) = decide (a ≤ b) := by
  by_cases h : a ≤ b
  · rw [decide_eq_true h, decide_eq_true (by omega)]
  · rw [decide_eq_false h, decide_eq_false (by omega)]
def spW1 (g : Str → Bool) : Sp := fun vs H Q _ => ∃ z : Str, vs = [.str z] ∧ z.length ≤ 1000000 ∧ ∀ H', Same H H' → Q (.bl (g z)) H'
theorem ok_is_small_word {f : Addr} {fd : FuncData} (F : Fun K "is_small_word" "is_small_word" s_is_small_word f fd) (T : Cst K mg) (O_is_within : Ok P w K mg base 1 "_is_within" ["word", "low", "high"] spWithin) :
    FnOk P w K mg base CX0 2 f fd ["word"] (spW1 small) := by
  refine F.ok sc_is_small_word (fun vs H Q E h => ?_) (fun cdv A outer s H vs Q E hr h => ?_)
  · obtain ⟨z, rfl, _⟩ := h
    rfl
  · obtain ⟨z, rfl, hz, k⟩ := h
    refine ⟨_, (pss_one (ps_ret (pe_and (pe_chain op_le op_le pe_int (pe_callB call_len_str (by rfl) T.n_len (by decide +kernel) (pa_cons (pv 0) pa_nil)) (pe_gv T.g_LONGEST_NAME)) (pe_one (pe_callO O_is_within (hr.mono (by decide)) (pa_cons (pv 0) (pa_cons pe_str (pa_cons pe_str pa_nil)))))))), ?_⟩
    have hz2 : z.length ≤ sizeLine := Nat.le_trans hz (by decide)
    refine ⟨_, rfl, z, rfl, hz2, _, _, rfl, rfl, _, rfl, ite2 (fun h1 => ?_) (fun h1 => ?_)⟩
    · have h1' : 1 ≤ z.length := by
        have := of_decide_eq_true h1
        omega
      refine ⟨_, _, rfl, rfl, _, rfl, ite2 (fun h2 => ?_) (fun h2 => ?_)⟩
      · have h2' : z.length ≤ 8 := by
          have := of_decide_eq_true h2
          omega
        refine ⟨_, rfl, z, 97, 122, by rw [s_a, s_z]; rfl, hz, fun H' s1 => ?_⟩
        have q := k H' s1
        unfold small at q
        rw [decide_eq_true h1', decide_eq_true h2'] at q
        exact q
      · have h2' : ¬ z.length ≤ 8 := fun z => h2 (decide_eq_true (by omega))
        have q := k H (Same.refl _)
        unfold small at q
        rw [decide_eq_false h2', Bool.and_false, Bool.false_and] at q
        exact q
    · have h1' : ¬ 1 ≤ z.length := fun z => h1 (decide_eq_true (by omega))
      have q := k H (Same.refl _)
      unfold small at q
      rw [decide_eq_false h1', Bool.false_and, Bool.false_and] at q
      exact ⟨_, rfl, iteF q⟩
theorem tl_cut1 (z : Str) : tl (cutS z (some 1) none) = (tl z).drop 1 := by
  show ((tl z).drop (HT.sIx z.length 0 (some 1))).take (HT.sIx z.length z.length none - HT.sIx z.length 0 (some 1)) = _
  have hz := len_tl z
  have e2 : HT.sIx z.length z.length none = z.length := rfl
  have e1 : HT.sIx z.length 0 (some 1) = min 1 z.length := by
    unfold HT.sIx
    simp
    try omega
  rw [e1, e2]
  rcases Nat.lt_or_ge z.length 1 with h | h
  · have : tl z = [] := List.length_eq_zero_iff.mp (by omega)
    rw [this]
    simp
  · rw [Nat.min_eq_left h, List.take_of_length_le (by rw [List.length_drop]; omega)]
theorem ok_is_class_name {f : Addr} {fd : FuncData} (F : Fun K "is_class_name" "is_class_name" s_is_class_name f fd) (T : Cst K mg) (O_is_within : Ok P w K mg base 1 "_is_within" ["word", "low", "high"] spWithin) :
    FnOk P w K mg base CX0 2 f fd ["word"] (spW1 className) := by
  refine F.ok sc_is_class_name (fun vs H Q E h => ?_) (fun cdv A outer s H vs Q E hr h => ?_)
  · obtain ⟨z, rfl, _⟩ := h
    rfl
  · obtain ⟨z, rfl, hz, k⟩ := h
    refine ⟨_, (pss_one (ps_ret (pe_and (pe_chain op_le op_le pe_int (pe_callB call_len_str (by rfl) T.n_len (by decide +kernel) (pa_cons (pv 0) pa_nil)) (pe_gv T.g_LONGEST_NAME)) (pe_and (pe_chain op_le_str op_le_str pe_str (pe_ix ix_str (pv 0) pe_int (fun _ _ => rfl)) pe_str) (pe_one (pe_callO O_is_within (hr.mono (by decide)) (pa_cons (pe_slice sl_str (pv 0) (po_some pe_int) po_none) (pa_cons pe_str (pa_cons pe_str pa_nil))))))))), ?_⟩
    have hz2 : z.length ≤ sizeLine := Nat.le_trans hz (by decide)
    have hl := len_tl z
    refine ⟨_, rfl, z, rfl, hz2, _, _, rfl, rfl, _, rfl, ite2 (fun h1 => ?_) (fun h1 => ?_)⟩
    · have h1' : 1 ≤ z.length := by
        have := of_decide_eq_true h1
        omega
      refine ⟨_, _, rfl, rfl, _, rfl, ite2 (fun h2 => ?_) (fun h2 => ?_)⟩
      · have h2' : z.length ≤ 8 := by
          have := of_decide_eq_true h2
          omega
        obtain ⟨c, r, ez⟩ : ∃ c r, tl z = c :: r := by
          cases e : tl z with
          | nil => rw [e] at hl; simp at hl; omega
          | cons c r => exact ⟨c, r, rfl⟩
        have e0 : atI z.cps.toList 0 = some c := by
          show atI (tl z) 0 = _
          rw [ez]
          exact atI_nat (j := 0) rfl
        have ek : className z = (decide (65 ≤ c) && decide (c ≤ 90) && within 97 122 r) := by
          unfold className
          rw [decide_eq_true h1', decide_eq_true h2', ez]
          simp [within]
        rw [ek] at k
        refine ⟨_, rfl, z, 0, c, rfl, rfl, hz2, e0, _, _, rfl, rfl, _, rfl, ite2 (fun h3 => ?_) (fun h3 => ?_)⟩
        · rw [s_A] at h3
          have h3' : decide (65 ≤ c) = true := by rw [← le_one]; exact h3
          refine ⟨_, _, rfl, rfl, _, rfl, ite2 (fun h4 => ?_) (fun h4 => ?_)⟩
          · rw [s_Z] at h4
            have h4' : decide (c ≤ 90) = true := by rw [← le_one]; exact h4
            refine ⟨_, rfl, 1, rfl, z, rfl, hz2, cutS z (some 1) none, 97, 122, by rw [s_a, s_z]; rfl, ?_, fun H' s1 => ?_⟩
            · have e := tl_cut1 z
              have l2 := len_tl (cutS z (some 1) none)
              rw [e, List.length_drop] at l2
              omega
            · have q := k H' s1
              rw [h3', h4'] at q
              rw [tl_cut1, ez]
              exact q
          · rw [s_Z] at h4
            have h4' : decide (c ≤ 90) = false := by rw [← le_one]; exact Bool.eq_false_iff.mpr h4
            have q := k H (Same.refl _)
            rw [h4', Bool.and_false, Bool.false_and] at q
            exact q
        · rw [s_A] at h3
          have h3' : decide (65 ≤ c) = false := by rw [← le_one]; exact Bool.eq_false_iff.mpr h3
          have q := k H (Same.refl _)
          rw [h3', Bool.false_and, Bool.false_and] at q
          exact ⟨_, rfl, iteF q⟩
      · have h2' : ¬ z.length ≤ 8 := fun z => h2 (decide_eq_true (by omega))
        have q := k H (Same.refl _)
        unfold className at q
        rw [decide_eq_false h2', Bool.and_false, Bool.false_and, Bool.false_and] at q
        exact q
    · have h1' : ¬ 1 ≤ z.length := fun z => h1 (decide_eq_true (by omega))
      have q := k H (Same.refl _)
      unfold className at q
      rw [decide_eq_false h1', Bool.false_and, Bool.false_and, Bool.false_and] at q
      exact ⟨_, rfl, iteF q⟩
theorem ok_is_field_name {f : Addr} {fd : FuncData} (F : Fun K "is_field_name" "is_field_name" s_is_field_name f fd) (T : Cst K mg) (O_is_small_word : Ok P w K mg base 2 "is_small_word" ["word"] (spW1 small)) :
    FnOk P w K mg base CX0 3 f fd ["word"] (spW1 fieldName) := by
  obtain ⟨aN, m_NO_FIELDS, tN⟩ := T.g_NO_FIELDS
  refine F.ok sc_is_field_name (fun vs H Q E h => ?_) (fun cdv A outer s H vs Q E hr h => ?_)
  · obtain ⟨z, rfl, _⟩ := h
    rfl
  · obtain ⟨z, rfl, hz, k⟩ := h
    refine ⟨_, (pss_one (ps_ret (pe_and (pe_callO O_is_small_word (hr.mono (by decide)) (pa_cons (pv 0) pa_nil)) (pe_one (pe_cmpR op_notIn_seq (pv 0) (pe_glob (v := .ref _) rfl m_NO_FIELDS rfl) (by rfl)))))), ?_⟩
    refine ⟨_, rfl, z, rfl, hz, fun H' s1 => ⟨_, rfl, ?_⟩⟩
    have q := k H' s1
    unfold fieldName at q
    cases e : small z with
    | false =>
      rw [e, Bool.false_and] at q
      exact iteF q
    | true =>
      rw [e, Bool.true_and] at q
      refine iteT ⟨_, rfl, aN, _, rfl, .inr tN.sq, rfl, flat_strs _, ?_⟩
      rw [inV_strs]
      exact q
theorem ok_is_request {f : Addr} {fd : FuncData} (F : Fun K "is_request" "is_request" s_is_request f fd) (T : Cst K mg) (O_is_small_word : Ok P w K mg base 2 "is_small_word" ["word"] (spW1 small)) :
    FnOk P w K mg base CX0 3 f fd ["word"] (spW1 request) := by
  obtain ⟨aN, m_UNARY_SIGNS, tN⟩ := T.g_UNARY_SIGNS
  refine F.ok sc_is_request (fun vs H Q E h => ?_) (fun cdv A outer s H vs Q E hr h => ?_)
  · obtain ⟨z, rfl, _⟩ := h
    rfl
  · obtain ⟨z, rfl, hz, k⟩ := h
    refine ⟨_, (pss_one (ps_ret (pe_and (pe_callO O_is_small_word (hr.mono (by decide)) (pa_cons (pv 0) pa_nil)) (pe_one (pe_cmpR op_notIn_seq (pv 0) (pe_glob (v := .ref _) rfl m_UNARY_SIGNS rfl) (by rfl)))))), ?_⟩
    refine ⟨_, rfl, z, rfl, hz, fun H' s1 => ⟨_, rfl, ?_⟩⟩
    have q := k H' s1
    unfold request at q
    cases e : small z with
    | false =>
      rw [e, Bool.false_and] at q
      exact iteF q
    | true =>
      rw [e, Bool.true_and] at q
      refine iteT ⟨_, rfl, aN, _, rfl, .inr tN.sq, rfl, flat_strs _, ?_⟩
      rw [inV_strs]
      exact q
def spArity : Sp := fun vs H Q _ => ∃ z : Str, vs = [.str z] ∧ Q (.int (arity z : Nat)) H
theorem ok_arity_of {f : Addr} {fd : FuncData} (F : Fun K "arity_of" "arity_of" s_arity_of f fd) (T : Cst K mg) : FnOk P w K mg base CX0 1 f fd ["sign"] spArity := by
  obtain ⟨aB, m_BINARY_SIGNS, tB⟩ := T.g_BINARY_SIGNS
  obtain ⟨aU, m_UNARY_SIGNS, tU⟩ := T.g_UNARY_SIGNS
  refine F.ok sc_arity_of (fun vs H Q E h => ?_) (fun cdv A outer s H vs Q E hr h => ?_)
  · obtain ⟨z, rfl, _⟩ := h
    rfl
  · obtain ⟨z, rfl, q⟩ := h
    refine ⟨_, (pss_cons (ps_if (pt_cmpR op_in_seq (pv 0) (pe_glob (v := .ref _) rfl m_BINARY_SIGNS rfl) (by rfl)) (pss_one (ps_ret pe_int)) pss_nil)
    (pss_cons (ps_if (pt_cmpR op_in_seq (pv 0) (pe_glob (v := .ref _) rfl m_UNARY_SIGNS rfl) (by rfl)) (pss_one (ps_ret pe_int)) pss_nil)
    (pss_one (ps_ret pe_int)))), ?_⟩
    refine ⟨_, rfl, aB, _, rfl, .inr tB.sq, rfl, flat_strs _, _, rfl, ?_⟩
    rw [inV_strs]
    unfold arity at q
    cases e : binary.contains z with
    | true =>
      rw [e] at q
      exact iteT q
    | false =>
      rw [e] at q
      refine iteF ⟨_, rfl, aU, _, rfl, .inr tU.sq, rfl, flat_strs _, _, rfl, ?_⟩
      rw [inV_strs]
      cases e2 : unary.contains z with
      | true =>
        rw [e2] at q
        exact iteT q
      | false =>
        rw [e2] at q
        exact iteF q
end
end K03

namespace K03
open PySem PySem.Spec PyProof.Rows L2 EV TL LM
/-! ### rows in the heap -/
def RowB (r : Rw) : Prop := ∀ w ∈ r, w.length ≤ 1000000 ∧ PySem.PyData.strOk w = true
def StrsAt (H : Hp) (a : Addr) (r : List Str) : Prop := H a = some (.lst (r.map V.str))
structure RowsAt (H : Hp) (vs : List V) (rs : List Rw) : Prop where
  len : vs.length = rs.length
  row : ∀ (i : Nat) (r : Rw), rs[i]? = some r → ∃ a, vs[i]? = some (.ref a) ∧ StrsAt H a r
theorem RowsAt.same {H H' : Hp} {vs : List V} {rs : List Rw} (h : RowsAt H vs rs) (s : Same H H') : RowsAt H' vs rs :=
  ⟨h.len, fun i r e => let ⟨a, z1, z2⟩ := h.row i r e; ⟨a, z1, s _ _ z2⟩⟩
theorem RowsAt.drop {H : Hp} {vs : List V} {rs : List Rw} (h : RowsAt H vs rs) (k : Nat) : RowsAt H (vs.drop k) (rs.drop k) :=
  ⟨by rw [List.length_drop, List.length_drop, h.len], fun i r e => by
    rw [List.getElem?_drop] at e ⊢
    exact h.row _ r e⟩
theorem RowsAt.take {H : Hp} {vs : List V} {rs : List Rw} (h : RowsAt H vs rs) (k : Nat) : RowsAt H (vs.take k) (rs.take k) :=
  ⟨by rw [List.length_take, List.length_take, h.len], fun i r e => by
    by_cases hi : i < k
    · rw [List.getElem?_take_of_lt hi] at e ⊢
      exact h.row _ r e
    · rw [List.getElem?_take, if_neg hi] at e
      cases e⟩
theorem at_str {r : Rw} {i : Nat} {w : Str} (h : r[i]? = some w) : atI (r.map V.str) (i : Int) = some (V.str w) := atI_nat (by rw [List.getElem?_map, h]; rfl)
theorem eq_str {x y : Str} : decide (V.str x = V.str y) = (x == y) := by
  by_cases h : x = y
  · subst h
    simp
  · rw [decide_eq_false (fun z => h (by injection z))]
    exact (beq_eq_false_iff_ne.mpr h).symm
theorem len_is {n k : Nat} : decide (V.int (n : Nat) = V.int (k : Nat)) = decide (n = k) := by
  by_cases h : n = k
  · subst h
    simp
  · rw [decide_eq_false h, decide_eq_false]
    intro z
    injection z with z
    exact h (by omega)
section
variable {P : Program} {w : World} {K : Fg} {mg : Str → Option Value} {base : Heap}
def spRowB (g : Rw → Bool) : Sp := fun vs H Q _ => ∃ (a : Addr) (r : Rw), vs = [.ref a] ∧ StrsAt H a r ∧ RowB r ∧ ∀ H', Same H H' → Q (.bl (g r)) H'
theorem ok_is_first_row {f : Addr} {fd : FuncData} (F : Fun K "_is_first_row" "_is_first_row" s_is_first_row f fd) (T : Cst K mg) (O_is_class_name : Ok P w K mg base 2 "is_class_name" ["word"] (spW1 className)) :
    FnOk P w K mg base CX0 3 f fd ["row"] (spRowB firstRow) := by
  refine F.ok sc_is_first_row (fun vs H Q E h => ?_) (fun cdv A outer s H vs Q E hr h => ?_)
  · obtain ⟨a, r, rfl, _⟩ := h
    rfl
  · obtain ⟨a, r, rfl, ha, hb, k⟩ := h
    refine ⟨_, (pss_one (ps_ret (pe_and (pe_cmpR op_eq (pe_callB call_len_seq (by rfl) T.n_len (by decide +kernel) (pa_cons (pv 0) pa_nil)) pe_int (nomark _)) (pe_and (pe_cmpR op_eq (pe_ix ix_list (pv 0) pe_int (fun _ _ => rfl)) pe_str (nomark _)) (pe_one (pe_callO O_is_class_name (hr.mono (by decide)) (pa_cons (pe_ix ix_list (pv 0) pe_int (fun _ _ => rfl)) pa_nil))))))), ?_⟩
    refine ⟨_, rfl, a, _, rfl, .inl (SqL.of ha), rfl, _, rfl, ?_⟩
    rw [List.length_map, show (V.int 2 : V) = V.int ((2 : Nat) : Int) from rfl, len_is]
    refine ite2 (fun h2 => ?_) (fun h2 => ?_)
    · have h2' : r.length = 2 := of_decide_eq_true h2
      obtain ⟨x, y, rfl⟩ : ∃ x y, r = [x, y] := by
        match r, h2' with
        | [x, y], _ => exact ⟨x, y, rfl⟩
      refine ⟨_, rfl, a, _, ((0 : Nat) : Int), _, rfl, rfl, SqL.of ha, at_str (i := 0) rfl, rfl, _, rfl, ?_⟩
      rw [eq_str]
      have q : ∀ H', Same H H' → Q (.bl (x == ("library" : Str) && className y)) H' := k
      cases e : (x == ("library" : Str)) with
      | false =>
        rw [e] at q
        exact iteF (q H (Same.refl _))
      | true =>
        rw [e, Bool.true_and] at q
        exact iteT ⟨_, rfl, a, _, ((1 : Nat) : Int), _, rfl, rfl, SqL.of ha, at_str (i := 1) rfl, y, rfl, (hb y (by simp)).1, q⟩
    · have h2' : r.length ≠ 2 := fun z => h2 (decide_eq_true z)
      have e : firstRow r = false := by
        unfold firstRow
        split
        · exact absurd rfl h2'
        · rfl
      rw [e] at k
      exact k H (Same.refl _)
theorem ok_is_hook_row {f : Addr} {fd : FuncData} (F : Fun K "_is_hook_row" "_is_hook_row" s_is_hook_row f fd) (T : Cst K mg) :
    FnOk P w K mg base CX0 1 f fd ["row"] (spRowB hookRow) := by
  obtain ⟨aN, m_ROOT_HOOKS, tN⟩ := T.g_ROOT_HOOKS
  refine F.ok sc_is_hook_row (fun vs H Q E h => ?_) (fun cdv A outer s H vs Q E hr h => ?_)
  · obtain ⟨a, r, rfl, _⟩ := h
    rfl
  · obtain ⟨a, r, rfl, ha, hb, k⟩ := h
    refine ⟨_, (pss_one (ps_ret (pe_and (pe_cmpR op_eq (pe_callB call_len_seq (by rfl) T.n_len (by decide +kernel) (pa_cons (pv 0) pa_nil)) pe_int (nomark _)) (pe_and (pe_cmpR op_eq (pe_ix ix_list (pv 0) pe_int (fun _ _ => rfl)) pe_str (nomark _)) (pe_one (pe_cmpR op_in_seq (pe_ix ix_list (pv 0) pe_int (fun _ _ => rfl)) (pe_glob (v := .ref _) rfl m_ROOT_HOOKS rfl) (by rfl))))))), ?_⟩
    refine ⟨_, rfl, a, _, rfl, .inl (SqL.of ha), rfl, _, rfl, ?_⟩
    rw [List.length_map, show (V.int 2 : V) = V.int ((2 : Nat) : Int) from rfl, len_is]
    refine ite2 (fun h2 => ?_) (fun h2 => ?_)
    · have h2' : r.length = 2 := of_decide_eq_true h2
      obtain ⟨x, y, rfl⟩ : ∃ x y, r = [x, y] := by
        match r, h2' with
        | [x, y], _ => exact ⟨x, y, rfl⟩
      refine ⟨_, rfl, a, _, ((0 : Nat) : Int), _, rfl, rfl, SqL.of ha, at_str (i := 0) rfl, rfl, _, rfl, ?_⟩
      rw [eq_str]
      have q : ∀ H', Same H H' → Q (.bl (x == ("hook" : Str) && rootHooks.contains y)) H' := k
      cases e : (x == ("hook" : Str)) with
      | false =>
        rw [e] at q
        exact iteF (q H (Same.refl _))
      | true =>
        rw [e, Bool.true_and] at q
        refine iteT ⟨_, rfl, a, _, ((1 : Nat) : Int), _, rfl, rfl, SqL.of ha, at_str (i := 1) rfl, aN, _, rfl, .inr tN.sq, rfl, flat_strs _, ?_⟩
        rw [inV_strs]
        exact q H (Same.refl _)
    · have h2' : r.length ≠ 2 := fun z => h2 (decide_eq_true z)
      have e : hookRow r = false := by
        unfold hookRow
        split
        · exact absurd rfl h2'
        · rfl
      rw [e] at k
      exact k H (Same.refl _)
def spParams : Sp := fun vs H Q _ => ∃ (l : Addr) (us : List V) (rs : List Rw), vs = [.ref l] ∧ H l = some (.lst us) ∧ RowsAt H us rs ∧ (∀ r ∈ rs, RowB r) ∧ rs.length ≤ 1000 ∧
  ∀ (p : Addr) (H' : Hp), Same H H' → H p = none → StrsAt H' p (paramsM rs []) → Q (.ref p) H'
theorem ok_parameters_of {f : Addr} {fd : FuncData} (F : Fun K "_parameters_of" "_parameters_of" s_parameters_of f fd) (T : Cst K mg) (O_is_field_name : Ok P w K mg base 3 "is_field_name" ["word"] (spW1 fieldName)) :
    FnOk P w K mg base CX0 4 f fd ["rows"] spParams := by
  refine F.ok sc_parameters_of (fun vs H Q E h => ?_) (fun cdv A outer s H vs Q E hr h => ?_)
  · obtain ⟨l, us, rs, rfl, _⟩ := h
    rfl
  · obtain ⟨l, us, rs, rfl, hl, hR, hB, h1000, k⟩ := h
    refine ⟨_, (pss_cons (ps_set (i := 1) sc_parameters_of.nd rfl (Or.inl rfl) (pe_lst pa_nil))
    (pss_cons (ps_for PassesOwn.never rfl (pi_list (pv 0)) (pg_name (i := 2) sc_parameters_of.nd rfl (Or.inl rfl)) (pss_cons (ps_if (PW.pt (pw_or (pt_cmpR op_ne (pe_callB call_len_seq (by rfl) T.n_len (by decide +kernel) (pa_cons (pv 2) pa_nil)) pe_int (nomark _)) (pw_or (pt_cmpR op_ne (pe_ix ix_list (pv 2) pe_int (fun _ _ => rfl)) pe_str (nomark _)) (pw_or (pt_not (pt_val (pe_callO O_is_field_name (hr.mono (by decide)) (pa_cons (pe_ix ix_list (pv 2) pe_int (fun _ _ => rfl)) pa_nil)))) (pw_or1 (pt_cmpR op_in_seq (pe_ix ix_list (pv 2) pe_int (fun _ _ => rfl)) (pv 1) (by rfl))))))) (pss_one ps_break) pss_nil)
    (pss_one (ps_expr (pe_bm PySem.F.plainAttrs_list PySem.F.slot_list_append PySem.F.type_list_append mt_append (pv 1) (pa_cons (pe_ix ix_list (pv 2) pe_int (fun _ _ => rfl)) pa_nil))))))
    (pss_one (ps_ret (pv 1))))), ?_⟩
    refine ⟨by show 0 ≤ sizeLine; decide, fun p np => ?_⟩
    refine ⟨_, rfl, l, rfl, ⟨us, SqL.of (same_upd np _ _ hl)⟩, ?_⟩
    refine for_list (xs := us) (fun i σ G => ∃ (found : List Str) (u : Option V), σ = [some (.ref l), some (.ref p), u] ∧ Same H G ∧ StrsAt G p found ∧ found.length ≤ i ∧ paramsM rs [] = paramsM (rs.drop i) found)
      ⟨[], none, rfl, same_upd np, upd_same, Nat.le_refl _, rfl⟩ (fun i σ G _ q => by
        obtain ⟨_, _, _, s1, _⟩ := q
        exact SqL.of (s1 _ _ hl)) ?_ ?_
    · rintro i x σ G hx ⟨found, u, rfl, s1, hp, hf, hm⟩
      have hi : i < rs.length := by
        rw [← hR.len]
        exact (List.getElem?_eq_some_iff.mp hx).1
      have er : rs[i]? = some rs[i] := List.getElem?_eq_getElem hi
      obtain ⟨a, ha, hs⟩ := hR.row i _ er
      rw [hx] at ha
      cases ha
      have hs1 := s1 _ _ hs
      have hB1 : RowB rs[i] := hB _ (List.getElem_mem hi)
      have hd : rs.drop i = rs[i] :: rs.drop (i + 1) := List.drop_eq_getElem_cons hi
      rw [hd] at hm
      generalize hrow : rs[i] = r at hs hs1 hB1 hm
      have hbrk : needsRow r found = none → paramsM rs [] = found := fun e => by
        rw [hm]
        unfold paramsM
        rw [e]
      have brk : needsRow r found = none → ∀ G', Same G G' → Q (.ref p) G' := fun e G' s' => k p G' (s1.trans s') np (by rw [hbrk e]; exact s' _ _ hp)
      refine ⟨_, rfl, a, _, rfl, .inl (SqL.of hs1), rfl, _, rfl, ?_⟩
      rw [List.length_map, show (V.int 2 : V) = V.int ((2 : Nat) : Int) from rfl, len_is]
      refine ite2 (fun h2 => iteT ⟨_, rfl, brk ?_ G (Same.refl _)⟩) (fun h2 => ?_)
      · have h2' : r.length ≠ 2 := fun z => by rw [decide_eq_true z] at h2; cases h2
        unfold needsRow
        split
        · exact absurd rfl h2'
        · rfl
      · have h2' : r.length = 2 := by
          cases z : decide (r.length = 2) with
          | true => exact of_decide_eq_true z
          | false => exact absurd (by rw [z]; rfl) h2
        obtain ⟨x, y, rfl⟩ : ∃ x y, r = [x, y] := by
          match r, h2' with
          | [x, y], _ => exact ⟨x, y, rfl⟩
        have en : needsRow [x, y] found = if (x == ("needs" : Str)) && fieldName y && !found.contains y then some y else none := rfl
        refine ⟨_, rfl, a, _, ((0 : Nat) : Int), _, rfl, rfl, SqL.of hs1, at_str (i := 0) rfl, rfl, _, rfl, ?_⟩
        rw [eq_str]
        cases e1 : (x == ("needs" : Str)) with
        | false => exact iteT (iteT ⟨_, rfl, brk (by rw [en, e1]; rfl) G (Same.refl _)⟩)
        | true =>
          refine iteF ⟨_, rfl, a, _, ((1 : Nat) : Int), _, rfl, rfl, SqL.of hs1, at_str (i := 1) rfl, y, rfl, (hB1 y (by simp)).1, fun G2 s2 => ⟨_, rfl, ?_⟩⟩
          cases e2 : fieldName y with
          | false => exact iteT (iteT ⟨_, rfl, brk (by rw [en, e1, e2]; rfl) G2 s2⟩)
          | true =>
            refine iteF ⟨_, rfl, a, _, ((1 : Nat) : Int), _, rfl, rfl, SqL.of (s2 _ _ hs1), at_str (i := 1) rfl, _, rfl, p, _, rfl, .inl (SqL.of (s2 _ _ hp)), rfl, flat_strs _, _, rfl, ?_⟩
            rw [inV_strs]
            cases e3 : found.contains y with
            | true => exact iteT ⟨_, rfl, brk (by rw [en, e1, e2, e3]; rfl) G2 s2⟩
            | false =>
              refine iteF ⟨_, rfl, .inl ⟨rfl, _, SqL.of (s2 _ _ hp)⟩, _, rfl, a, _, ((1 : Nat) : Int), _, rfl, rfl, SqL.of (s2 _ _ hs1), at_str (i := 1) rfl, p, _, _, rfl, rfl, s2 _ _ hp, ?_, found ++ [y], _, rfl, same_upd' (s1.trans s2) np, ?_, ?_, ?_⟩
              · rw [List.length_map, sizeLine_eq]
                omega
              · show upd G2 p _ p = _
                rw [upd_same, List.map_append]
                rfl
              · rw [List.length_append]
                exact Nat.succ_le_succ hf
              · rw [hm]
                show (match needsRow [x, y] found with
                  | some f => paramsM (rs.drop (i + 1)) (found ++ [f])
                  | none => found) = _
                rw [en, e1, e2, e3]
                rfl
    · rintro σ G ⟨found, u, rfl, s1, hp, hf, hm⟩
      refine ⟨_, rfl, k p G s1 np ?_⟩
      have e : rs.drop us.length = [] := List.drop_of_length_le (by rw [hR.len]; exact Nat.le_refl _)
      rw [hm, e]
      exact hp
end
end K03

namespace K03
open PySem PySem.Spec PyProof.Rows L2 EV TL LM
/-! ### pairs in the heap -/
structure PairsAt (H : Hp) (us : List V) (ks : List (Str × Str)) : Prop where
  len : us.length = ks.length
  pair : ∀ (i : Nat) (k : Str × Str), ks[i]? = some k → ∃ t, us[i]? = some (.ref t) ∧ H t = some (.tup [.str k.1, .str k.2])
theorem PairsAt.same {H H' : Hp} {us : List V} {ks : List (Str × Str)} (h : PairsAt H us ks) (s : Same H H') : PairsAt H' us ks :=
  ⟨h.len, fun i r e => let ⟨a, z1, z2⟩ := h.pair i r e; ⟨a, z1, s _ _ z2⟩⟩
theorem PairsAt.tups {H H' : Hp} {us : List V} {ks : List (Str × Str)} (h : PairsAt H us ks) (s : ∀ t xs, H t = some (.tup xs) → H' t = some (.tup xs)) : PairsAt H' us ks :=
  ⟨h.len, fun i r e => let ⟨a, z1, z2⟩ := h.pair i r e; ⟨a, z1, s _ _ z2⟩⟩
theorem PairsAt.nil {H : Hp} : PairsAt H [] [] := ⟨rfl, fun i k e => by simp at e⟩
theorem PairsAt.snoc {H : Hp} {us : List V} {ks : List (Str × Str)} {t : Addr} {k : Str × Str} (h : PairsAt H us ks) (ht : H t = some (.tup [.str k.1, .str k.2])) : PairsAt H (us ++ [.ref t]) (ks ++ [k]) := by
  refine ⟨by rw [List.length_append, List.length_append, h.len]; rfl, fun i z e => ?_⟩
  by_cases hi : i < ks.length
  · rw [List.getElem?_append_left hi] at e
    rw [List.getElem?_append_left (by rw [h.len]; exact hi)]
    exact h.pair i z e
  · rw [List.getElem?_append_right (Nat.le_of_not_lt hi)] at e
    have e0 : i - ks.length = 0 := by
      cases q : i - ks.length with
      | zero => rfl
      | succ j => rw [q] at e; simp at e
    rw [e0] at e
    obtain rfl : k = z := by simpa using e
    rw [List.getElem?_append_right (by rw [h.len]; exact Nat.le_of_not_lt hi), h.len, e0]
    exact ⟨t, rfl, ht⟩
section
variable {P : Program} {w : World} {K : Fg} {mg : Str → Option Value} {base : Heap}
def spKept (K : Fg) : Sp := fun vs H Q _ => ∃ (l q : Addr) (us : List V) (rs : List Rw) (ps : List Str), vs = [.ref l, .ref q] ∧ H l = some (.lst us) ∧ RowsAt H us rs ∧ (∀ r ∈ rs, RowB r) ∧ rs.length ≤ 1000 ∧ SqL K H q (ps.map V.str) ∧ ps.length ≤ 1000 ∧
  ∀ (p : Addr) (ts : List V) (H' : Hp), Same H H' → H p = none → H' p = some (.lst ts) → PairsAt H' ts (keptM rs ps []) → Q (.ref p) H'
theorem ok_kept_of {f : Addr} {fd : FuncData} (F : Fun K "_kept_of" "_kept_of" s_kept_of f fd) (T : Cst K mg) (O_is_field_name : Ok P w K mg base 3 "is_field_name" ["word"] (spW1 fieldName)) :
    FnOk P w K mg base CX0 4 f fd ["rows", "parameters"] (spKept K) := by
  refine F.ok sc_kept_of (fun vs H Q E h => ?_) (fun cdv A outer s H vs Q E hr h => ?_)
  · obtain ⟨l, q, us, rs, ps, rfl, _⟩ := h
    rfl
  · obtain ⟨l, q, us, rs, ps, rfl, hl, hR, hB, h1000, hq, hps, k⟩ := h
    refine ⟨_, (pss_cons (ps_set (i := 2) sc_kept_of.nd rfl (Or.inl rfl) (pe_callTy call_list_of (by rfl) T.n_list (by decide +kernel) (pa_cons (pv 1) pa_nil)))
    (pss_cons (ps_set (i := 3) sc_kept_of.nd rfl (Or.inl rfl) (pe_lst pa_nil))
    (pss_cons (ps_for PassesOwn.never rfl (pi_list (pv 0)) (pg_name (i := 4) sc_kept_of.nd rfl (Or.inl rfl)) (pss_cons (ps_if (PW.pt (pw_or (pt_cmpR op_ne (pe_callB call_len_seq (by rfl) T.n_len (by decide +kernel) (pa_cons (pv 4) pa_nil)) pe_int (nomark _)) (pw_or (pt_cmpR op_ne (pe_ix ix_list (pv 4) pe_int (fun _ _ => rfl)) pe_str (nomark _)) (pw_or1 (pt_cmpR op_ne (pe_ix ix_list (pv 4) pe_int (fun _ _ => rfl)) pe_str (nomark _)))))) (pss_one ps_break) pss_nil)
    (pss_cons (ps_if (PW.pt (pw_or (pt_not (pt_val (pe_callO O_is_field_name (hr.mono (by decide)) (pa_cons (pe_ix ix_list (pv 4) pe_int (fun _ _ => rfl)) pa_nil)))) (pw_or (pt_cmpR op_in_seq (pe_ix ix_list (pv 4) pe_int (fun _ _ => rfl)) (pv 2) (by rfl)) (pw_or1 (pt_cmpR op_notIn_seq (pe_ix ix_list (pv 4) pe_int (fun _ _ => rfl)) (pv 2) (by rfl)))))) (pss_one ps_break) pss_nil)
    (pss_cons (ps_expr (pe_bm PySem.F.plainAttrs_list PySem.F.slot_list_append PySem.F.type_list_append mt_append (pv 2) (pa_cons (pe_ix ix_list (pv 4) pe_int (fun _ _ => rfl)) pa_nil)))
    (pss_one (ps_expr (pe_bm PySem.F.plainAttrs_list PySem.F.slot_list_append PySem.F.type_list_append mt_append (pv 3) (pa_cons (pe_tup (pa_cons (pe_ix ix_list (pv 4) pe_int (fun _ _ => rfl)) (pa_cons (pe_ix ix_list (pv 4) pe_int (fun _ _ => rfl)) pa_nil))) pa_nil))))))))
    (pss_one (ps_ret (pv 3)))))), ?_⟩
    refine ⟨_, rfl, q, _, rfl, .inl hq, fun c nc => ?_⟩
    refine ⟨by show 0 ≤ sizeLine; decide, fun p np => ?_⟩
    have np0 : H p = none := same_upd nc |>.free np
    have pc : p ≠ c := fun e => by rw [e, upd_same] at np; cases np
    refine ⟨_, rfl, l, rfl, ⟨us, SqL.of (same_upd np _ _ (same_upd nc _ _ hl))⟩, ?_⟩
    refine for_list (xs := us) (fun i σ G => ∃ (known : List Str) (found : List (Str × Str)) (ts : List V) (u : Option V), σ = [some (.ref l), some (.ref q), some (.ref c), some (.ref p), u] ∧ Same H G ∧ StrsAt G c known ∧ known.length ≤ ps.length + i ∧
        G p = some (.lst ts) ∧ PairsAt G ts found ∧ found.length ≤ i ∧ keptM rs ps [] = keptM (rs.drop i) known found)
      ⟨ps, [], [], none, rfl, (same_upd nc).trans (same_upd np), same_upd np _ _ upd_same, Nat.le_refl _, upd_same, PairsAt.nil, Nat.le_refl _, rfl⟩ (fun i σ G _ q => by
        obtain ⟨_, _, _, _, _, s1, _⟩ := q
        exact SqL.of (s1 _ _ hl)) ?_ ?_
    · rintro i x σ G hx ⟨known, found, ts, u, rfl, s1, hc, hkn, hp, hP, hf, hm⟩
      have hi : i < rs.length := by
        rw [← hR.len]
        exact (List.getElem?_eq_some_iff.mp hx).1
      obtain ⟨a, ha, hs⟩ := hR.row i _ (List.getElem?_eq_getElem hi)
      rw [hx] at ha
      cases ha
      have hs1 := s1 _ _ hs
      have hB1 : RowB rs[i] := hB _ (List.getElem_mem hi)
      have hd : rs.drop i = rs[i] :: rs.drop (i + 1) := List.drop_eq_getElem_cons hi
      rw [hd] at hm
      generalize hrow : rs[i] = r at hs hs1 hB1 hm
      have brk : keepsRow r known = none → ∀ G', Same G G' → Q (.ref p) G' := fun e G' s' => k p ts G' (s1.trans s') np0 (s' _ _ hp) (by
        have : keptM rs ps [] = found := by
          rw [hm]
          unfold keptM
          rw [e]
        rw [this]
        exact hP.same s')
      refine ⟨_, rfl, a, _, rfl, .inl (SqL.of hs1), rfl, _, rfl, ?_⟩
      rw [List.length_map, show (V.int 4 : V) = V.int ((4 : Nat) : Int) from rfl, len_is]
      refine ite2 (fun h2 => iteT ⟨_, rfl, brk ?_ G (Same.refl _)⟩) (fun h2 => ?_)
      · have h2' : r.length ≠ 4 := fun z => by rw [decide_eq_true z] at h2; cases h2
        unfold keepsRow
        split
        · exact absurd rfl h2'
        · rfl
      · have h2' : r.length = 4 := by
          cases z : decide (r.length = 4) with
          | true => exact of_decide_eq_true z
          | false => exact absurd (by rw [z]; rfl) h2
        obtain ⟨x, y, o, sr, rfl⟩ : ∃ x y o s, r = [x, y, o, s] := by
          match r, h2' with
          | [x, y, o, s], _ => exact ⟨x, y, o, s, rfl⟩
        have en : keepsRow [x, y, o, sr] known = if x == ("keeps" : Str) && o == ("of" : Str) && fieldName y && !known.contains y && known.contains sr then some (y, sr) else none := rfl
        refine ⟨_, rfl, a, _, ((0 : Nat) : Int), _, rfl, rfl, SqL.of hs1, at_str (i := 0) rfl, rfl, _, rfl, ?_⟩
        rw [eq_str]
        cases e1 : (x == ("keeps" : Str)) with
        | false => exact iteT (iteT ⟨_, rfl, brk (by rw [en, e1]; rfl) G (Same.refl _)⟩)
        | true =>
          refine iteF ⟨_, rfl, a, _, ((2 : Nat) : Int), _, rfl, rfl, SqL.of hs1, at_str (i := 2) rfl, rfl, _, rfl, ?_⟩
          rw [eq_str]
          cases e1' : (o == ("of" : Str)) with
          | false => exact iteT ⟨_, rfl, brk (by rw [en, e1, e1']; rfl) G (Same.refl _)⟩
          | true =>
            refine iteF ⟨_, rfl, a, _, ((1 : Nat) : Int), _, rfl, rfl, SqL.of hs1, at_str (i := 1) rfl, y, rfl, (hB1 y (by simp)).1, fun G2 s2 => ⟨_, rfl, ?_⟩⟩
            cases e2 : fieldName y with
            | false => exact iteT (iteT ⟨_, rfl, brk (by rw [en, e1, e1', e2]; rfl) G2 s2⟩)
            | true =>
              refine iteF ⟨_, rfl, a, _, ((1 : Nat) : Int), _, rfl, rfl, SqL.of (s2 _ _ hs1), at_str (i := 1) rfl, _, rfl, c, _, rfl, .inl (SqL.of (s2 _ _ hc)), rfl, flat_strs _, _, rfl, ?_⟩
              rw [inV_strs]
              cases e3 : known.contains y with
              | true => exact iteT (iteT ⟨_, rfl, brk (by rw [en, e1, e1', e2, e3]; rfl) G2 s2⟩)
              | false =>
                refine iteF ⟨_, rfl, a, _, ((3 : Nat) : Int), _, rfl, rfl, SqL.of (s2 _ _ hs1), at_str (i := 3) rfl, _, rfl, c, _, rfl, .inl (SqL.of (s2 _ _ hc)), rfl, flat_strs _, _, rfl, ?_⟩
                rw [inV_strs]
                cases e4 : known.contains sr with
                | false => exact iteT ⟨_, rfl, brk (by rw [en, e1, e1', e2, e3, e4]; rfl) G2 s2⟩
                | true =>
                  refine iteF ⟨_, rfl, .inl ⟨rfl, _, SqL.of (s2 _ _ hc)⟩, _, rfl, a, _, ((1 : Nat) : Int), _, rfl, rfl, SqL.of (s2 _ _ hs1), at_str (i := 1) rfl, c, _, _, rfl, rfl, s2 _ _ hc, by rw [List.length_map, sizeLine_eq]; omega, ?_⟩
                  have sH3 : Same H (upd G2 c (.lst (known.map V.str ++ [V.str y]))) := same_upd' (s1.trans s2) nc
                  have hs3 := sH3 _ _ hs
                  have hp3 : upd G2 c (.lst (known.map V.str ++ [V.str y])) p = some (.lst ts) := by
                    rw [upd_ne pc]
                    exact s2 _ _ hp
                  refine ⟨_, rfl, .inl ⟨rfl, _, SqL.of hp3⟩, _, rfl, a, _, ((1 : Nat) : Int), _, rfl, rfl, SqL.of hs3, at_str (i := 1) rfl, _, rfl, a, _, ((3 : Nat) : Int), _, rfl, rfl, SqL.of hs3, at_str (i := 3) rfl, by show 2 ≤ sizeLine; decide, fun t nt => ?_⟩
                  have ntH : H t = none := sH3.free nt
                  have pt : p ≠ t := fun e => by rw [← e, hp3] at nt; cases nt
                  have ct : c ≠ t := fun e => by rw [← e, upd_same] at nt; cases nt
                  refine ⟨p, _, _, rfl, rfl, by rw [upd_ne pt]; exact hp3, by rw [hP.len, sizeLine_eq]; omega, known ++ [y], found ++ [(y, sr)], _, _, rfl, same_upd' (same_upd' sH3 ntH) np0, ?_, ?_, upd_same, ?_, ?_, ?_⟩
                  · show upd (upd (upd G2 c _) t _) p _ c = _
                    rw [upd_ne (Ne.symm pc), upd_ne ct, upd_same, List.map_append]
                    rfl
                  · rw [List.length_append]
                    show known.length + 1 ≤ _
                    omega
                  · refine PairsAt.snoc (k := (y, sr)) ((hP.same s2).tups fun t' xs z => ?_) ?_
                    · have n1 : t' ≠ c := fun e => by rw [e, s2 _ _ hc] at z; cases z
                      have n2 : t' ≠ t := fun e => by
                        rw [e] at z n1
                        rw [upd_ne n1, z] at nt
                        cases nt
                      have n3 : t' ≠ p := fun e => by rw [e, s2 _ _ hp] at z; cases z
                      rw [upd_ne n3, upd_ne n2, upd_ne n1]
                      exact z
                    · rw [upd_ne (Ne.symm pt), upd_same]
                  · rw [List.length_append]
                    exact Nat.succ_le_succ hf
                  · rw [hm]
                    show (match keepsRow [x, y, o, sr] known with
                      | some p => keptM (rs.drop (i + 1)) (known ++ [p.1]) (found ++ [p])
                      | none => found) = _
                    rw [en, e1, e1', e2, e3, e4]
                    rfl
    · rintro σ G ⟨known, found, ts, u, rfl, s1, hc, hkn, hp, hP, hf, hm⟩
      refine ⟨_, rfl, k p ts G s1 np0 hp ?_⟩
      have e : rs.drop us.length = [] := List.drop_of_length_le (by rw [hR.len]; exact Nat.le_refl _)
      rw [hm, e]
      exact hP
end
end K03

namespace K03
open PySem PySem.Spec PyProof.Rows L2 EV TL LM
/-! ### lists of texts, compared -/
theorem dp_strs {K : Fg} {H : Hp} {a : Addr} {ws : List Str} (h : SqL K H a (ws.map V.str)) : Dp K H (.ref a) (.list (ws.map PyData.str)) := by
  refine .lst h ?_
  clear h
  induction ws with
  | nil => exact .nil
  | cons w ws ih => exact .cons (.str w) ih
theorem can_strs : ∀ (ws : List Str), (∀ w ∈ ws, PyData.strOk w = true) → PyData.canLayAll0 (ws.map PyData.str) = true
  | [], _ => rfl
  | w :: ws, h => by
    show (PyData.strOk w && PyData.canLayAll0 (ws.map PyData.str)) = true
    rw [h w (List.mem_cons_self ..), can_strs ws fun z hz => h z (List.mem_cons_of_mem _ hz)]
    rfl
theorem depth_strs : ∀ (ws : List Str), PyData.depthAll (ws.map PyData.str) ≤ 1
  | [] => by simp [PyData.depthAll]
  | w :: ws => by
    have := depth_strs ws
    simp only [List.map_cons, PyData.depthAll, PyData.depth]
    omega
theorem shaped_strs (ws : List Str) (h : ∀ w ∈ ws, PyData.strOk w = true) : SeqAt.shaped (.list (ws.map PyData.str)) = true := by
  unfold SeqAt.shaped
  rw [show PyData.canLay0 (.list (ws.map PyData.str)) = true from can_strs ws h, Bool.true_and]
  refine decide_eq_true ?_
  have q := depth_strs ws
  rw [PyData.depth]
  omega
theorem eqv_strs : ∀ (ws zs : List Str), PyData.eqvAll (ws.map PyData.str) (zs.map PyData.str) = decide (ws = zs)
  | [], [] => rfl
  | [], _ :: _ => rfl
  | _ :: _, [] => rfl
  | w :: ws, z :: zs => by
    show ((w == z) && PyData.eqvAll (ws.map PyData.str) (zs.map PyData.str)) = _
    rw [eqv_strs ws zs]
    by_cases h : w = z
    · subst h
      by_cases k : ws = zs
      · subst k; simp
      · simp [k]
    · simp [h]
theorem eq_lists {K : Fg} {H : Hp} {p q : Addr} {ws zs : List Str} {Q : VK} (h1 : SqL K H p (ws.map V.str)) (h2 : SqL K H q (zs.map V.str)) (o1 : ∀ w ∈ ws, PyData.strOk w = true) (o2 : ∀ w ∈ zs, PyData.strOk w = true)
    (k : Q (.bl (decide (ws = zs))) H) : rEqD K (.ref p) (.ref q) H Q := by
  refine ⟨_, _, dp_strs h1, dp_strs h2, shaped_strs ws o1, shaped_strs zs o2, ?_⟩
  show Q (.bl (PyData.eqvAll (ws.map PyData.str) (zs.map PyData.str))) H
  rw [eqv_strs]
  exact k
theorem cut_from (xs : List V) (k : Nat) : cutV xs (some (k : Int)) none = xs.drop k := by
  unfold cutV
  rw [HT.sIx_nat, HT.sIx_none]
  rcases Nat.lt_or_ge xs.length k with h | h
  · rw [Nat.min_eq_right (Nat.le_of_lt h), List.drop_length, List.take_nil, List.drop_of_length_le (Nat.le_of_lt h)]
  · rw [Nat.min_eq_left h, List.take_of_length_le (by rw [List.length_drop]; exact Nat.le_refl _)]
theorem cut_to (xs : List V) (j k : Nat) : cutV xs (some (j : Int)) (some (k : Int)) = (xs.take k).drop j := by
  unfold cutV
  rw [HT.sIx_nat, HT.sIx_nat, List.drop_take]
  rcases Nat.lt_or_ge xs.length j with h | h
  · rw [Nat.min_eq_right (Nat.le_of_lt h), List.drop_length, List.take_nil, List.drop_of_length_le (Nat.le_of_lt h), List.take_nil]
  · rw [Nat.min_eq_left h]
    rcases Nat.lt_or_ge xs.length k with h2 | h2
    · rw [Nat.min_eq_right (Nat.le_of_lt h2), List.take_of_length_le (by rw [List.length_drop]; exact Nat.le_refl _), List.take_of_length_le (by rw [List.length_drop]; omega)]
    · rw [Nat.min_eq_left h2]
section
variable {P : Program} {w : World} {K : Fg} {mg : Str → Option Value} {base : Heap}
def OkW (ws : List Str) : Prop := ∀ w ∈ ws, PyData.strOk w = true
def spSel (K : Fg) : Sp := fun vs H Q _ => ∃ (a q : Addr) (ws ps : List Str), vs = [.ref a, .ref q] ∧ StrsAt H a ws ∧ SqL K H q (ps.map V.str) ∧ ps.length ≤ 1000 ∧ OkW ws ∧ OkW ps ∧ ∀ H', Same H H' → Q (.bl (selection ws ps)) H'
theorem ok_is_selection {f : Addr} {fd : FuncData} (F : Fun K "_is_selection" "_is_selection" s_is_selection f fd) (T : Cst K mg) :
    FnOk P w K mg base CX0 1 f fd ["words", "parameters"] (spSel K) := by
  refine F.ok sc_is_selection (fun vs H Q E h => ?_) (fun cdv A outer s H vs Q E hr h => ?_)
  · obtain ⟨a, q, ws, ps, rfl, _⟩ := h
    rfl
  · obtain ⟨a, q, ws, ps, rfl, ha, hq, hps, o1, o2, k⟩ := h
    refine ⟨_, (pss_cons (ps_if (pt_not (pt_truth (pv 0) (by intro _; rfl))) (pss_one (ps_ret pe_bl)) pss_nil)
    (pss_cons (ps_set (i := 2) sc_is_selection.nd rfl (Or.inr rfl) (pe_slice sl_list (pv 0) (po_some pe_int) po_none))
    (pss_cons (ps_if (PW.pt (pw_or (pt_cmpR op_ne (pe_ix ix_list (pv 0) pe_int (fun _ _ => rfl)) pe_str (nomark _)) (pw_or1 (pt_not (pt_truth (pv 2) (by intro _; rfl)))))) (pss_one (ps_ret pe_bl)) pss_nil)
    (pss_one (ps_ret (pe_cmpR (op_eqD hr.units) (pv 2) (pe_lc (own := [("field", 3)]) rfl sc_is_selection.nd (pi_list (pv 1)) (blkOk_by (own := [("field", 3)]) (N := ["words", "parameters", "chosen", "field"]) (sc := defScope s_is_selection) (by decide +kernel)) (fun _ _ _ _ _ => (pg_name (i := 3) sc_is_selection.nd rfl (Or.inl rfl))) (fun _ _ _ _ _ => (pts_one (pt_cmpR (show OpR _ (compareOp .In) (rIn K false) from op_in_seq) (pv 3) (pv 2) (by rfl)))) (fun _ _ _ _ _ => (pv 3))) (nomark _))))))), ?_⟩
    refine ⟨_, rfl, _, .inl ⟨_, SqL.of ha, rfl⟩, ?_⟩
    cases ws with
    | nil => exact iteT (k H (Same.refl _))
    | cons x chosen =>
      refine iteF ⟨_, rfl, 1, rfl, a, _, rfl, SqL.of ha, fun c nc => ?_⟩
      rw [show cutV ((x :: chosen).map V.str) (some 1) none = chosen.map V.str from cut_from _ 1]
      have s1 : Same H (upd H c (.lst (chosen.map V.str))) := same_upd nc
      have hc : upd H c (.lst (chosen.map V.str)) c = some (.lst (chosen.map V.str)) := upd_same
      have kk : ∀ H', Same H H' → Q (.bl (x == ("changes" : Str) && !chosen.isEmpty && decide (chosen = ps.filter fun f => chosen.contains f))) H' := k
      generalize upd H c (.lst (chosen.map V.str)) = G at s1 hc
      refine ⟨_, rfl, a, _, ((0 : Nat) : Int), _, rfl, rfl, SqL.of (s1 _ _ ha), at_str (i := 0) rfl, rfl, _, rfl, ?_⟩
      rw [eq_str]
      cases e1 : (x == ("changes" : Str)) with
      | false =>
        have q := kk G s1
        rw [e1] at q
        exact iteT (iteT q)
      | true =>
        refine iteF ⟨_, rfl, _, .inl ⟨_, SqL.of hc, rfl⟩, ?_⟩
        cases e2 : chosen with
        | nil =>
          have q := kk G s1
          rw [e1, e2] at q
          exact iteT q
        | cons y r =>
          rw [← e2]
          have e3 : chosen.isEmpty = false := by rw [e2]; rfl
          have hqG : SqL K G q (ps.map V.str) := s1.seq hq
          rw [show (!!(List.map V.str chosen).isEmpty) = false by rw [e2]; rfl]
          refine iteF ⟨_, rfl, _, rfl, q, rfl, ⟨_, hqG⟩, fun D nD => ?_⟩
          refine lc_fm (walk_list (xs := ps.map V.str)) (fun i => ps[i]?.bind fun p => if chosen.contains p = true then some (V.str p) else none) nD (by rw [List.length_map]; omega) (fun _ s => s.seq hqG) ?_ ?_
          · rintro i x G1 G2 NT NE hi s2 ⟨rfl, hx⟩ h0 h1
            obtain ⟨p, hp, rfl⟩ : ∃ p, ps[i]? = some p ∧ V.str p = x := by
              rw [List.getElem?_map] at hx
              cases e : ps[i]? with
              | none => rw [e] at hx; cases hx
              | some p => rw [e] at hx; exact ⟨p, rfl, by injection hx⟩
            refine ⟨rfl, _, rfl, _, rfl, c, _, rfl, .inl (SqL.of (s2 _ _ hc)), rfl, flat_strs _, _, rfl, ?_⟩
            rw [inV_strs]
            cases e4 : chosen.contains p with
            | true => exact iteT ⟨_, rfl, h1 _ _ (by show (ps[i]?.bind _) = _; rw [hp]; show (if chosen.contains p = true then some (V.str p) else none) = _; rw [if_pos e4]) (Same.refl _)⟩
            | false => exact iteF (h0 (by show (ps[i]?.bind _) = _; rw [hp]; show (if chosen.contains p = true then some (V.str p) else none) = _; rw [if_neg (by rw [e4]; exact Bool.false_ne_true)]) _ (Same.refl _))
          · intro G1 s2 hD
            rw [gath_filter ps _ V.str (by rw [List.length_map])] at hD
            refine eq_lists (SqL.of (s2 _ _ hc)) (SqL.of hD) (fun w hw => o1 w (List.mem_cons_of_mem _ hw)) (fun w hw => o2 w (List.mem_filter.mp hw).1) ?_
            have q := kk G1 (s1.trans s2)
            rw [e1, e3] at q
            exact q
end
end K03

namespace K03
open PySem PySem.Spec PyProof.Rows L2 EV TL LM
def RowZ (r : Rw) : Prop := (r.map (·.length)).sum + r.length ≤ 2000000
theorem sum_drop : ∀ (r : Rw) (k : Nat), ((r.drop k).map (·.length)).sum + (r.drop k).length ≤ (r.map (·.length)).sum + r.length
  | _, 0 => Nat.le_refl _
  | [], _ + 1 => Nat.le_refl _
  | x :: r, k + 1 => by
    have := sum_drop r k
    show ((r.drop k).map (·.length)).sum + (r.drop k).length ≤ _
    simp only [List.map_cons, List.sum_cons, List.length_cons]
    omega
theorem drop_strs (r : Rw) (k : Nat) : (r.map V.str).drop k = (r.drop k).map V.str := by rw [List.map_drop]
/-- an operation as a tuple -/
def OpAt (H : Hp) (t : Addr) (o : Op) : Prop := ∃ c, H t = some (.tup [.str o.sign, .ref c, .str o.maker]) ∧ H c = some (.tup (o.changed.map V.str))
theorem OpAt.same {H H' : Hp} {t : Addr} {o : Op} (h : OpAt H t o) (s : Same H H') : OpAt H' t o := let ⟨c, z1, z2⟩ := h; ⟨c, s _ _ z1, s _ _ z2⟩
theorem makers_at {K : Fg} {a0 a1 a2 : Addr} {n : Nat} (h : n ≤ 2) (t0 : TupK K a0 (makers0.map V.str)) (t1 : TupK K a1 (makers1.map V.str)) (t2 : TupK K a2 (makers2.map V.str)) :
    ∃ b, atI [V.ref a0, V.ref a1, V.ref a2] (n : Int) = some (.ref b) ∧ TupK K b ((makersOf n).map V.str) := by
  match n, h with
  | 0, _ => exact ⟨a0, rfl, t0⟩
  | 1, _ => exact ⟨a1, rfl, t1⟩
  | 2, _ => exact ⟨a2, rfl, t2⟩
section
variable {P : Program} {w : World} {K : Fg} {mg : Str → Option Value} {base : Heap}
def OpRes (m : Option Op) (H : Hp) (Q : VK) : Prop := (m = none → ∀ H', Same H H' → Q .non H') ∧ ∀ o, m = some o → ∀ t H', Same H H' → OpAt H' t o → Q (.ref t) H'
def spOp (K : Fg) (g : Rw → List Str → Option Op) : Sp := fun vs H Q _ => ∃ (a q : Addr) (r : Rw) (ps : List Str), vs = [.ref a, .ref q] ∧ StrsAt H a r ∧ RowB r ∧ RowZ r ∧ r ≠ [] ∧ StrsAt H q ps ∧ ps.length ≤ 1000 ∧ OkW ps ∧ OpRes (g r ps) H Q
theorem ok_request_of {f : Addr} {fd : FuncData} (F : Fun K "_request_of" "_request_of" s_request_of f fd) (T : Cst K mg) (O_is_request : Ok P w K mg base 3 "is_request" ["word"] (spW1 request)) :
    FnOk P w K mg base CX0 4 f fd ["row", "parameters"] (spOp K requestM) := by
  obtain ⟨aM, a0, a1, a2, m_MAKERS, tM, t0, t1, t2⟩ := T.g_MAKERS
  refine F.ok sc_request_of (fun vs H Q E h => ?_) (fun cdv A outer s H vs Q E hr h => ?_)
  · obtain ⟨a, q, r, ps, rfl, _⟩ := h
    rfl
  · obtain ⟨a, q, r, ps, rfl, ha, hb, hz, hne, hq, hps, o2, kn, ks⟩ := h
    refine ⟨_, (pss_cons (ps_if (PW.pt (pw_or (pt_cmpR op_lt (pe_callB call_len_seq (by rfl) T.n_len (by decide +kernel) (pa_cons (pv 0) pa_nil)) pe_int (nomark _)) (pw_or (pt_cmpR op_ne (pe_ix ix_list (pv 0) pe_int (fun _ _ => rfl)) pe_str (nomark _)) (pw_or1 (pt_not (pt_val (pe_callO O_is_request (hr.mono (by decide)) (pa_cons (pe_ix ix_list (pv 0) pe_int (fun _ _ => rfl)) pa_nil)))))))) (pss_one (ps_ret pe_non)) pss_nil)
    (pss_cons (ps_set (i := 2) sc_request_of.nd rfl (Or.inl rfl) (pe_join pe_str (pe_slice sl_list (pv 0) (po_some pe_int) po_none)))
    (pss_cons (ps_if (pt_cmpR op_notIn_seq (pv 2) (pe_ix ix_tup (pe_glob (v := .ref _) rfl m_MAKERS rfl) pe_int (fun _ _ => rfl)) (by rfl)) (pss_one (ps_ret pe_non)) pss_nil)
    (pss_one (ps_ret (pe_tup (pa_cons (pe_ix ix_list (pv 0) pe_int (fun _ _ => rfl)) (pa_cons (pe_callTy call_tuple_of (by rfl) T.n_tuple (by decide +kernel) (pa_cons (pv 1) pa_nil)) (pa_cons (pv 2) pa_nil))))))))), ?_⟩
    refine ⟨_, rfl, a, _, rfl, .inl (SqL.of ha), _, _, rfl, rfl, _, rfl, ?_⟩
    rw [List.length_map]
    refine ite2 (fun h2 => iteT (kn ?_ H (Same.refl _))) (fun h2 => ?_)
    · have h2' : r.length < 3 := by
        have := of_decide_eq_true h2
        omega
      unfold requestM
      split
      · simp at h2'
        omega
      · rfl
    · have h2' : ¬ r.length < 3 := fun z => h2 (decide_eq_true (by omega))
      obtain ⟨x, y, b, rest, rfl⟩ : ∃ x y b rest, r = x :: y :: b :: rest := by
        match r, h2' with
        | x :: y :: b :: rest, _ => exact ⟨x, y, b, rest, rfl⟩
        | [], h => exact absurd (by decide) h
        | [_], h => exact absurd (by simp) h
        | [_, _], h => exact absurd (by simp) h
      have en : requestM (x :: y :: b :: rest) ps = if b == ("by" : Str) && request y && makers0.contains (Str.join " " rest) then some ⟨y, ps, Str.join " " rest⟩ else none := rfl
      refine ⟨_, rfl, a, _, ((2 : Nat) : Int), _, rfl, rfl, SqL.of ha, at_str (i := 2) rfl, rfl, _, rfl, ?_⟩
      rw [eq_str]
      cases e1 : (b == ("by" : Str)) with
      | false => exact iteT (iteT (kn (by rw [en, e1]; rfl) H (Same.refl _)))
      | true =>
        refine iteF ⟨_, rfl, a, _, ((1 : Nat) : Int), _, rfl, rfl, SqL.of ha, at_str (i := 1) rfl, y, rfl, (hb y (by simp)).1, fun G s1 => ⟨_, rfl, ?_⟩⟩
        cases e2 : request y with
        | false => exact iteT (kn (by rw [en, e1, e2]; rfl) G s1)
        | true =>
          refine iteF ⟨⟨_, rfl⟩, _, rfl, 3, rfl, a, _, rfl, SqL.of (s1 _ _ ha), fun p np => ?_⟩
          have ep : upd G p (.lst (cutV ((x :: y :: b :: rest).map V.str) (some 3) none)) p = some (.lst (rest.map V.str)) := by
            rw [upd_same, show cutV ((x :: y :: b :: rest).map V.str) (some 3) none = rest.map V.str from cut_from _ 3]
          have s2 : Same H (upd G p (.lst (cutV ((x :: y :: b :: rest).map V.str) (some 3) none))) := s1.trans (same_upd np)
          generalize upd G p (.lst (cutV ((x :: y :: b :: rest).map V.str) (some 3) none)) = G2 at ep s2
          have hz2 := sum_drop (x :: y :: b :: rest) 3
          unfold RowZ at hz
          refine ⟨_, p, rest, rfl, rfl, .inl (SqL.of ep), ?_, ?_⟩
          · have e : (" " : Str).length = 1 := by decide +kernel
            rw [e, Nat.mul_one]
            have z : ((rest).map (·.length)).sum + rest.length ≤ 2000000 := Nat.le_trans hz2 hz
            omega
          · rw [join_eq]
            refine ⟨_, rfl, aM, _, ((0 : Nat) : Int), _, rfl, rfl, tM.sq, atI_nat (j := 0) rfl, a0, _, rfl, .inr t0.sq, rfl, flat_strs _, _, rfl, ?_⟩
            rw [inV_strs]
            cases e3 : makers0.contains (Str.join " " rest) with
            | false => exact iteT (kn (by rw [en, e1, e2, e3]; rfl) G2 s2)
            | true =>
              refine iteF ⟨_, rfl, a, _, ((1 : Nat) : Int), _, rfl, rfl, SqL.of (s2 _ _ ha), at_str (i := 1) rfl, _, rfl, q, _, rfl, .inl ⟨SqL.of (s2 _ _ hq), fun c nc => ⟨_, rfl, by show 3 ≤ sizeLine; decide, fun t nt => ?_⟩⟩⟩
              have ec : (upd G2 c (.tup (ps.map V.str))) c = some (.tup (ps.map V.str)) := upd_same
              refine ks ⟨y, ps, Str.join " " rest⟩ (by rw [en, e1, e2, e3]; rfl) t _ ((s2.trans (same_upd nc)).trans (same_upd nt)) ⟨c, upd_same, same_upd nt _ _ ec⟩
end
end K03

namespace K03
open PySem PySem.Spec PyProof.Rows L2 EV TL LM
theorem by_at {rest : List Str} (h : rest.contains "by" = true) : rest[rest.findIdx (· == ("by" : Str))]? = some "by" := by
  have hm : ("by" : Str) ∈ rest := List.contains_iff_mem.mp h
  have hl : rest.findIdx (· == ("by" : Str)) < rest.length := List.findIdx_lt_length_of_exists ⟨_, hm, by simp⟩
  rw [List.getElem?_eq_getElem hl]
  have := List.findIdx_getElem (xs := rest) (p := (· == ("by" : Str))) (w := hl)
  exact congrArg some (eq_of_beq this)
theorem by_before {rest : List Str} {m : Nat} {z : Str} (h : m < rest.findIdx (· == ("by" : Str))) (e : rest[m]? = some z) : (z == ("by" : Str)) = false := by
  have := List.not_of_lt_findIdx h
  have hl : m < rest.length := (List.getElem?_eq_some_iff.mp e).1
  rw [List.getElem?_eq_getElem hl] at e
  cases e
  exact Bool.eq_false_iff.mpr (by simpa using this)
theorem arity_le (s : Str) : arity s ≤ 2 := by
  unfold arity
  split
  · omega
  · split <;> omega
section
variable {P : Program} {w : World} {K : Fg} {mg : Str → Option Value} {base : Heap}
theorem ok_operation_of {f : Addr} {fd : FuncData} (F : Fun K "_operation_of" "_operation_of" s_operation_of f fd) (T : Cst K mg) (O_request_of : Ok P w K mg base 4 "_request_of" ["row", "parameters"] (spOp K requestM))
    (O_arity_of : Ok P w K mg base 1 "arity_of" ["sign"] spArity) (O_is_selection : Ok P w K mg base 1 "_is_selection" ["words", "parameters"] (spSel K)) :
    FnOk P w K mg base CX0 5 f fd ["row", "parameters"] (spOp K opM) := by
  obtain ⟨aM, a0, a1, a2, m_MAKERS, tM, t0, t1, t2⟩ := T.g_MAKERS
  obtain ⟨aB, m_BINARY_SIGNS, tB⟩ := T.g_BINARY_SIGNS
  obtain ⟨aU, m_UNARY_SIGNS, tU⟩ := T.g_UNARY_SIGNS
  refine F.ok sc_operation_of (fun vs H Q E h => ?_) (fun cdv A outer s H vs Q E hr h => ?_)
  · obtain ⟨a, q, r, ps, rfl, _⟩ := h
    rfl
  · obtain ⟨a, q, r, ps, rfl, ha, hb, hz, hne, hq, hps, o2, kn, ks⟩ := h
    refine ⟨_, (pss_cons (ps_if (pt_cmpR op_eq (pe_ix ix_list (pv 0) pe_int (fun _ _ => rfl)) pe_str (nomark _)) (pss_one (ps_ret (pe_callO O_request_of (hr.mono (by decide)) (pa_cons (pv 0) (pa_cons (pv 1) pa_nil))))) pss_nil)
    (pss_cons (ps_if (PW.pt (pw_or (PW.pt (pw_and (pt_cmpR op_notIn_seq (pe_ix ix_list (pv 0) pe_int (fun _ _ => rfl)) (pe_glob (v := .ref _) rfl m_BINARY_SIGNS rfl) (by rfl)) (pw_and1 (pt_cmpR op_notIn_seq (pe_ix ix_list (pv 0) pe_int (fun _ _ => rfl)) (pe_glob (v := .ref _) rfl m_UNARY_SIGNS rfl) (by rfl))))) (pw_or1 (pt_cmpR op_notIn_seq pe_str (pv 0) (by rfl))))) (pss_one (ps_ret pe_non)) pss_nil)
    (pss_cons (ps_set (i := 2) sc_operation_of.nd rfl (Or.inl rfl) (pe_bm PySem.F.plainAttrs_list PySem.F.slot_list_index PySem.F.type_list_index mt_index (pv 0) (pa_cons pe_str pa_nil)))
    (pss_cons (ps_set (i := 3) sc_operation_of.nd rfl (Or.inl rfl) (pe_join pe_str (pe_slice sl_list (pv 0) (po_some (pe_op op_add (pv 2) pe_int)) po_none)))
    (pss_cons (ps_set (i := 4) sc_operation_of.nd rfl (Or.inl rfl) (pe_slice sl_list (pv 0) (po_some pe_int) (po_some (pv 2))))
    (pss_cons (ps_if (PW.pt (pw_or (pt_cmpR op_notIn_seq (pv 3) (pe_ix ix_tup (pe_glob (v := .ref _) rfl m_MAKERS rfl) (pe_callO O_arity_of (hr.mono (by decide)) (pa_cons (pe_ix ix_list (pv 0) pe_int (fun _ _ => rfl)) pa_nil)) (fun _ _ => rfl)) (by rfl)) (pw_or1 (pt_not (pt_val (pe_callO O_is_selection (hr.mono (by decide)) (pa_cons (pe_slice sl_list (pv 0) (po_some pe_int) (po_some (pv 2))) (pa_cons (pv 1) pa_nil)))))))) (pss_one (ps_ret pe_non)) pss_nil)
    (pss_one (ps_ret (pe_tup (pa_cons (pe_ix ix_list (pv 0) pe_int (fun _ _ => rfl)) (pa_cons (pe_callTy call_tuple_of (by rfl) T.n_tuple (by decide +kernel) (pa_cons (pv 4) pa_nil)) (pa_cons (pv 3) pa_nil)))))))))))), ?_⟩
    obtain ⟨x, rest, rfl⟩ : ∃ x rest, r = x :: rest := by
      match r, hne with
      | x :: rest, _ => exact ⟨x, rest, rfl⟩
    refine ⟨_, rfl, a, _, ((0 : Nat) : Int), _, rfl, rfl, SqL.of ha, at_str (i := 0) rfl, rfl, _, rfl, ?_⟩
    rw [eq_str]
    have em : opM (x :: rest) ps = if (x == ("make" : Str)) = true then requestM (x :: rest) ps else
        if ((!binary.contains x && !unary.contains x) || !rest.contains "by") = true then none
        else if (!(makersOf (arity x)).contains (Str.join " " (rest.drop (rest.findIdx (· == ("by" : Str)) + 1))) || !selection (rest.take (rest.findIdx (· == ("by" : Str)))) ps) = true then none
        else some ⟨x, (rest.take (rest.findIdx (· == ("by" : Str)))).drop 1, Str.join " " (rest.drop (rest.findIdx (· == ("by" : Str)) + 1))⟩ := rfl
    cases e0 : (x == ("make" : Str)) with
    | true =>
      rw [em, if_pos e0] at kn ks
      exact iteT ⟨_, rfl, _, rfl, a, q, _, ps, rfl, ha, hb, hz, by simp, hq, hps, o2, kn, ks⟩
    | false =>
      rw [em, if_neg (by rw [e0]; exact Bool.false_ne_true)] at kn ks
      refine iteF ⟨_, rfl, a, _, ((0 : Nat) : Int), _, rfl, rfl, SqL.of ha, at_str (i := 0) rfl, aB, _, rfl, .inr tB.sq, rfl, flat_strs _, _, rfl, ?_⟩
      rw [inV_strs]
      have key : ∀ s ∈ binary ++ unary, s ≠ ("by" : Str) := by decide +kernel
      cases hb1 : binary.contains x with
      | true =>
        have nby : x ≠ "by" := key x (List.mem_append.mpr (.inl (List.contains_iff_mem.mp hb1)))
        have n2 : (!binary.contains x && !unary.contains x) = false := by rw [hb1]; rfl
        refine iteF (iteF ?_)
        refine ⟨_, rfl, a, _, rfl, .inl (SqL.of ha), rfl, flat_strs _, _, rfl, ?_⟩
        rw [inV_strs, show (x :: rest).contains ("by" : Str) = rest.contains "by" by rw [List.contains_cons, show (("by" : Str) == x) = false from beq_eq_false_iff_ne.mpr (Ne.symm nby)]; rfl]
        cases e1 : rest.contains "by" with
        | false => exact iteT (kn (by rw [n2, e1]; rfl) H (Same.refl _))
        | true =>
          rw [n2, e1] at kn ks
          generalize he : rest.findIdx (· == ("by" : Str)) = e at kn ks
          have hby : rest[e]? = some "by" := by rw [← he]; exact by_at e1
          refine iteF ⟨_, rfl, .inl ⟨rfl, _, SqL.of ha⟩, a, _, _, e + 1, V.str "by", rfl, rfl, SqL.of ha, rfl, flat_strs _, ?_, beq_self_eq_true _, ?_, ?_⟩
          · show (rest.map V.str)[e]? = _
            rw [List.getElem?_map, hby]
            rfl
          · intro m z hm hz'
            cases m with
            | zero =>
              obtain rfl : V.str x = z := by simpa using hz'
              exact beq_eq_false_iff_ne.mpr nby
            | succ m =>
              have hz2 : (rest.map V.str)[m]? = some z := hz'
              rw [List.getElem?_map] at hz2
              cases e2 : rest[m]? with
              | none => rw [e2] at hz2; cases hz2
              | some y =>
                rw [e2] at hz2
                obtain rfl : V.str y = z := by injection hz2
                exact by_before (by rw [he]; omega) e2
          · refine ⟨⟨_, rfl⟩, _, rfl, _, rfl, _, _, rfl, rfl, _, rfl, a, _, rfl, SqL.of ha, fun p np => ?_⟩
            have ep : (upd H p (.lst (cutV ((x :: rest).map V.str) (some (((e + 1 : Nat) : Int) + 1)) none))) p = some (.lst ((rest.drop (e + 1)).map V.str)) := by
              rw [upd_same, show cutV ((x :: rest).map V.str) (some (((e + 1 : Nat) : Int) + 1)) none = ((x :: rest).map V.str).drop (e + 2) from cut_from _ (e + 2), drop_strs]
              rfl
            have s1 : Same H (upd H p (.lst (cutV ((x :: rest).map V.str) (some (((e + 1 : Nat) : Int) + 1)) none))) := same_upd np
            generalize upd H p (.lst (cutV ((x :: rest).map V.str) (some (((e + 1 : Nat) : Int) + 1)) none)) = G1 at ep s1
            have hz2 := sum_drop (x :: rest) (e + 2)
            unfold RowZ at hz
            refine ⟨_, p, rest.drop (e + 1), rfl, rfl, .inl (SqL.of ep), ?_, ?_⟩
            · have el : (" " : Str).length = 1 := by decide +kernel
              rw [el, Nat.mul_one]
              have z : ((rest.drop (e + 1)).map (·.length)).sum + (rest.drop (e + 1)).length ≤ 2000000 := Nat.le_trans hz2 hz
              omega
            · rw [join_eq]
              generalize hmk : Str.join " " (rest.drop (e + 1)) = mk at kn ks
              refine ⟨_, rfl, 2, rfl, _, rfl, _, rfl, a, _, rfl, SqL.of (s1 _ _ ha), fun c nc => ?_⟩
              have ec : (upd G1 c (.lst (cutV ((x :: rest).map V.str) (some 2) (some ((e + 1 : Nat) : Int))))) c = some (.lst (((rest.take e).drop 1).map V.str)) := by
                rw [upd_same, show cutV ((x :: rest).map V.str) (some 2) (some ((e + 1 : Nat) : Int)) = (((x :: rest).map V.str).take (e + 1)).drop 2 from cut_to _ 2 (e + 1), ← List.map_take, ← List.map_drop]
                rfl
              have s2 : Same H (upd G1 c (.lst (cutV ((x :: rest).map V.str) (some 2) (some ((e + 1 : Nat) : Int))))) := s1.trans (same_upd nc)
              generalize upd G1 c (.lst (cutV ((x :: rest).map V.str) (some 2) (some ((e + 1 : Nat) : Int)))) = G2 at ec s2
              obtain ⟨b, hat, tb⟩ := makers_at (arity_le x) t0 t1 t2
              refine ⟨_, rfl, _, rfl, a, _, ((0 : Nat) : Int), _, rfl, rfl, SqL.of (s2 _ _ ha), at_str (i := 0) rfl, x, rfl, aM, _, _, _, rfl, rfl, tM.sq, hat, b, _, rfl, .inr tb.sq, rfl, flat_strs _, _, rfl, ?_⟩
              rw [inV_strs]
              cases e3 : (makersOf (arity x)).contains mk with
              | false => exact iteT (iteT (kn (by rw [e3]; rfl) G2 s2))
              | true =>
                refine iteF ⟨_, rfl, 1, rfl, _, rfl, _, rfl, a, _, rfl, SqL.of (s2 _ _ ha), fun d nd => ?_⟩
                have ed : (upd G2 d (.lst (cutV ((x :: rest).map V.str) (some 1) (some ((e + 1 : Nat) : Int))))) d = some (.lst ((rest.take e).map V.str)) := by
                  rw [upd_same, show cutV ((x :: rest).map V.str) (some 1) (some ((e + 1 : Nat) : Int)) = (((x :: rest).map V.str).take (e + 1)).drop 1 from cut_to _ 1 (e + 1), ← List.map_take, ← List.map_drop]
                  rfl
                have s3 : Same G2 (upd G2 d (.lst (cutV ((x :: rest).map V.str) (some 1) (some ((e + 1 : Nat) : Int))))) := same_upd nd
                generalize upd G2 d (.lst (cutV ((x :: rest).map V.str) (some 1) (some ((e + 1 : Nat) : Int)))) = G3 at ed s3
                refine ⟨_, rfl, d, q, rest.take e, ps, rfl, ed, SqL.of (s3 _ _ (s2 _ _ hq)), hps, (fun z hz => (hb z (List.mem_cons_of_mem _ (List.mem_of_mem_take hz))).2), o2, fun G4 s4 => ⟨_, rfl, ?_⟩⟩
                cases e4 : selection (rest.take e) ps with
                | false => exact iteT (kn (by rw [e3, e4]; rfl) G4 ((s2.trans s3).trans s4))
                | true =>
                  refine iteF ⟨_, rfl, a, _, ((0 : Nat) : Int), _, rfl, rfl, SqL.of (s4 _ _ (s3 _ _ (s2 _ _ ha))), at_str (i := 0) rfl, _, rfl, c, _, rfl, .inl ⟨SqL.of (s4 _ _ (s3 _ _ ec)), fun c2 nc2 => ⟨_, rfl, by show 3 ≤ sizeLine; decide, fun t nt => ?_⟩⟩⟩
                  exact ks ⟨x, (rest.take e).drop 1, mk⟩ (by rw [e3, e4]; rfl) t _ ((((s2.trans s3).trans s4).trans (same_upd nc2)).trans (same_upd nt)) ⟨c2, upd_same, same_upd nt _ _ upd_same⟩
      | false =>
        cases hu1 : unary.contains x with
        | false =>
          refine iteT ⟨_, rfl, a, _, ((0 : Nat) : Int), _, rfl, rfl, SqL.of ha, at_str (i := 0) rfl, aU, _, rfl, .inr tU.sq, rfl, flat_strs _, _, rfl, ?_⟩
          rw [inV_strs, hu1]
          exact iteT (iteT (kn (by rw [hb1, hu1]; rfl) H (Same.refl _)))
        | true =>
          have nby : x ≠ "by" := key x (List.mem_append.mpr (.inr (List.contains_iff_mem.mp hu1)))
          have n2 : (!binary.contains x && !unary.contains x) = false := by rw [hu1]; exact Bool.and_false _
          refine iteT ⟨_, rfl, a, _, ((0 : Nat) : Int), _, rfl, rfl, SqL.of ha, at_str (i := 0) rfl, aU, _, rfl, .inr tU.sq, rfl, flat_strs _, _, rfl, ?_⟩
          rw [inV_strs, hu1]
          refine iteF ?_
          refine ⟨_, rfl, a, _, rfl, .inl (SqL.of ha), rfl, flat_strs _, _, rfl, ?_⟩
          rw [inV_strs, show (x :: rest).contains ("by" : Str) = rest.contains "by" by rw [List.contains_cons, show (("by" : Str) == x) = false from beq_eq_false_iff_ne.mpr (Ne.symm nby)]; rfl]
          cases e1 : rest.contains "by" with
          | false => exact iteT (kn (by rw [n2, e1]; rfl) H (Same.refl _))
          | true =>
            rw [n2, e1] at kn ks
            generalize he : rest.findIdx (· == ("by" : Str)) = e at kn ks
            have hby : rest[e]? = some "by" := by rw [← he]; exact by_at e1
            refine iteF ⟨_, rfl, .inl ⟨rfl, _, SqL.of ha⟩, a, _, _, e + 1, V.str "by", rfl, rfl, SqL.of ha, rfl, flat_strs _, ?_, beq_self_eq_true _, ?_, ?_⟩
            · show (rest.map V.str)[e]? = _
              rw [List.getElem?_map, hby]
              rfl
            · intro m z hm hz'
              cases m with
              | zero =>
                obtain rfl : V.str x = z := by simpa using hz'
                exact beq_eq_false_iff_ne.mpr nby
              | succ m =>
                have hz2 : (rest.map V.str)[m]? = some z := hz'
                rw [List.getElem?_map] at hz2
                cases e2 : rest[m]? with
                | none => rw [e2] at hz2; cases hz2
                | some y =>
                  rw [e2] at hz2
                  obtain rfl : V.str y = z := by injection hz2
                  exact by_before (by rw [he]; omega) e2
            · refine ⟨⟨_, rfl⟩, _, rfl, _, rfl, _, _, rfl, rfl, _, rfl, a, _, rfl, SqL.of ha, fun p np => ?_⟩
              have ep : (upd H p (.lst (cutV ((x :: rest).map V.str) (some (((e + 1 : Nat) : Int) + 1)) none))) p = some (.lst ((rest.drop (e + 1)).map V.str)) := by
                rw [upd_same, show cutV ((x :: rest).map V.str) (some (((e + 1 : Nat) : Int) + 1)) none = ((x :: rest).map V.str).drop (e + 2) from cut_from _ (e + 2), drop_strs]
                rfl
              have s1 : Same H (upd H p (.lst (cutV ((x :: rest).map V.str) (some (((e + 1 : Nat) : Int) + 1)) none))) := same_upd np
              generalize upd H p (.lst (cutV ((x :: rest).map V.str) (some (((e + 1 : Nat) : Int) + 1)) none)) = G1 at ep s1
              have hz2 := sum_drop (x :: rest) (e + 2)
              unfold RowZ at hz
              refine ⟨_, p, rest.drop (e + 1), rfl, rfl, .inl (SqL.of ep), ?_, ?_⟩
              · have el : (" " : Str).length = 1 := by decide +kernel
                rw [el, Nat.mul_one]
                have z : ((rest.drop (e + 1)).map (·.length)).sum + (rest.drop (e + 1)).length ≤ 2000000 := Nat.le_trans hz2 hz
                omega
              · rw [join_eq]
                generalize hmk : Str.join " " (rest.drop (e + 1)) = mk at kn ks
                refine ⟨_, rfl, 2, rfl, _, rfl, _, rfl, a, _, rfl, SqL.of (s1 _ _ ha), fun c nc => ?_⟩
                have ec : (upd G1 c (.lst (cutV ((x :: rest).map V.str) (some 2) (some ((e + 1 : Nat) : Int))))) c = some (.lst (((rest.take e).drop 1).map V.str)) := by
                  rw [upd_same, show cutV ((x :: rest).map V.str) (some 2) (some ((e + 1 : Nat) : Int)) = (((x :: rest).map V.str).take (e + 1)).drop 2 from cut_to _ 2 (e + 1), ← List.map_take, ← List.map_drop]
                  rfl
                have s2 : Same H (upd G1 c (.lst (cutV ((x :: rest).map V.str) (some 2) (some ((e + 1 : Nat) : Int))))) := s1.trans (same_upd nc)
                generalize upd G1 c (.lst (cutV ((x :: rest).map V.str) (some 2) (some ((e + 1 : Nat) : Int)))) = G2 at ec s2
                obtain ⟨b, hat, tb⟩ := makers_at (arity_le x) t0 t1 t2
                refine ⟨_, rfl, _, rfl, a, _, ((0 : Nat) : Int), _, rfl, rfl, SqL.of (s2 _ _ ha), at_str (i := 0) rfl, x, rfl, aM, _, _, _, rfl, rfl, tM.sq, hat, b, _, rfl, .inr tb.sq, rfl, flat_strs _, _, rfl, ?_⟩
                rw [inV_strs]
                cases e3 : (makersOf (arity x)).contains mk with
                | false => exact iteT (iteT (kn (by rw [e3]; rfl) G2 s2))
                | true =>
                  refine iteF ⟨_, rfl, 1, rfl, _, rfl, _, rfl, a, _, rfl, SqL.of (s2 _ _ ha), fun d nd => ?_⟩
                  have ed : (upd G2 d (.lst (cutV ((x :: rest).map V.str) (some 1) (some ((e + 1 : Nat) : Int))))) d = some (.lst ((rest.take e).map V.str)) := by
                    rw [upd_same, show cutV ((x :: rest).map V.str) (some 1) (some ((e + 1 : Nat) : Int)) = (((x :: rest).map V.str).take (e + 1)).drop 1 from cut_to _ 1 (e + 1), ← List.map_take, ← List.map_drop]
                    rfl
                  have s3 : Same G2 (upd G2 d (.lst (cutV ((x :: rest).map V.str) (some 1) (some ((e + 1 : Nat) : Int))))) := same_upd nd
                  generalize upd G2 d (.lst (cutV ((x :: rest).map V.str) (some 1) (some ((e + 1 : Nat) : Int)))) = G3 at ed s3
                  refine ⟨_, rfl, d, q, rest.take e, ps, rfl, ed, SqL.of (s3 _ _ (s2 _ _ hq)), hps, (fun z hz => (hb z (List.mem_cons_of_mem _ (List.mem_of_mem_take hz))).2), o2, fun G4 s4 => ⟨_, rfl, ?_⟩⟩
                  cases e4 : selection (rest.take e) ps with
                  | false => exact iteT (kn (by rw [e3, e4]; rfl) G4 ((s2.trans s3).trans s4))
                  | true =>
                    refine iteF ⟨_, rfl, a, _, ((0 : Nat) : Int), _, rfl, rfl, SqL.of (s4 _ _ (s3 _ _ (s2 _ _ ha))), at_str (i := 0) rfl, _, rfl, c, _, rfl, .inl ⟨SqL.of (s4 _ _ (s3 _ _ ec)), fun c2 nc2 => ⟨_, rfl, by show 3 ≤ sizeLine; decide, fun t nt => ?_⟩⟩⟩
                    exact ks ⟨x, (rest.take e).drop 1, mk⟩ (by rw [e3, e4]; rfl) t _ ((((s2.trans s3).trans s4).trans (same_upd nc2)).trans (same_upd nt)) ⟨c2, upd_same, same_upd nt _ _ upd_same⟩
end
end K03

namespace K03
open PySem PySem.Spec PyProof.Rows L2 EV TL LM
/-! ### an own error with one field, made to be raised -/
def spErr1 (C : Addr) (f : Str) : Sp := fun vs H Q _ => ∃ (H0 : Hp) (a : Addr) (y : V), vs = [.ref a, y] ∧ H = upd H0 a (exo a C none) ∧ H0 a = none ∧
  ∀ H' d, Same H0 H' → H0 d = none → H' a = some (exo a C (some d)) → H' d = some (exd d [(f, y)]) → Q .non H'
theorem same_raise {H0 H2 : Hp} {a d : Addr} {o : HO} (s : Same H0 H2) (na : H0 a = none) (nd : H0 d = none) : Same H0 (upd (del H2 a) d o) := fun b u z => by
  rw [upd_ne (ne_of_none z nd), del_ne (ne_of_none z na)]
  exact s b u z
def hookV : Option Str → V
  | none => .non
  | some h => .str h
theorem hook_non (hk : Option Str) : decide (hookV hk = V.non) = hk.isNone := by cases hk <;> rfl
structure OpsAt (H : Hp) (ts : List V) (ops : List Op) : Prop where
  len : ts.length = ops.length
  op : ∀ (i : Nat) (o : Op), ops[i]? = some o → ∃ t, ts[i]? = some (.ref t) ∧ OpAt H t o
theorem OpsAt.same {H H' : Hp} {ts : List V} {ops : List Op} (h : OpsAt H ts ops) (s : Same H H') : OpsAt H' ts ops :=
  ⟨h.len, fun i r e => let ⟨a, z1, z2⟩ := h.op i r e; ⟨a, z1, z2.same s⟩⟩
theorem OpsAt.tups {H H' : Hp} {ts : List V} {ops : List Op} (h : OpsAt H ts ops) (s : ∀ t xs, H t = some (.tup xs) → H' t = some (.tup xs)) : OpsAt H' ts ops :=
  ⟨h.len, fun i r e => let ⟨a, z1, c, z2, z3⟩ := h.op i r e; ⟨a, z1, c, s _ _ z2, s _ _ z3⟩⟩
theorem OpsAt.nil {H : Hp} : OpsAt H [] [] := ⟨rfl, fun i k e => by simp at e⟩
theorem OpsAt.snoc {H : Hp} {ts : List V} {ops : List Op} {t : Addr} {o : Op} (h : OpsAt H ts ops) (ht : OpAt H t o) : OpsAt H (ts ++ [.ref t]) (ops ++ [o]) := by
  refine ⟨by rw [List.length_append, List.length_append, h.len]; rfl, fun i z e => ?_⟩
  by_cases hi : i < ops.length
  · rw [List.getElem?_append_left hi] at e
    rw [List.getElem?_append_left (by rw [h.len]; exact hi)]
    exact h.op i z e
  · rw [List.getElem?_append_right (Nat.le_of_not_lt hi)] at e
    have e0 : i - ops.length = 0 := by
      cases q : i - ops.length with
      | zero => rfl
      | succ j => rw [q] at e; simp at e
    rw [e0] at e
    obtain rfl : o = z := by simpa using e
    rw [List.getElem?_append_right (by rw [h.len]; exact Nat.le_of_not_lt hi), h.len, e0]
    exact ⟨t, rfl, ht⟩
section
variable {P : Program} {w : World} {K : Fg} {mg : Str → Option Value} {base : Heap}
theorem ok_BadLibrary {f C : Addr} {fd : FuncData} (F : Fun K "__init__" "BadLibrary.__init__" s_BadLibrary___init__ f fd) (x : XCls K C) (n : NoAttr K C "at") : FnOk P w K mg base CX0 1 f fd ["self", "at"] (spErr1 C "at") := by
  refine F.ok sc_BadLibrary___init__ (fun vs H Q E h => ?_) (fun cdv A outer s H vs Q E hr h => ?_)
  · obtain ⟨H0, a, y, rfl, _⟩ := h
    rfl
  · obtain ⟨H0, a, y, rfl, rfl, na, k⟩ := h
    refine ⟨_, pss_one (ps_put1 (pv 0) (pv 1)), ⟨_, rfl, _, rfl, a, C, rfl, x, n, upd_same, fun dx nd ne => ?_⟩⟩
    rw [upd_ne ne] at nd
    refine k _ dx (fun b o z => ?_) nd upd_same ?_
    · rw [upd_ne (ne_of_none z na), upd_ne (ne_of_none z nd), upd_ne (ne_of_none z na)]
      exact z
    · rw [upd_ne ne]
      exact upd_same
/-- an error in the air: its dict -/
def Raised (C : Addr) (f : Str) (y : V) (H : Hp) (E : XK) : Prop := ∀ d H', Same H H' → H' d = some (.xd [(f, y)]) → E (.ref C) (some d) H'
def spOps (CB : Addr) : Sp := fun vs H Q E => ∃ (l q : Addr) (us : List V) (rs : List Rw) (at_ : Nat) (ps : List Str) (hk : Option Str), vs = [.ref l, .int (at_ : Nat), .ref q, hookV hk] ∧ H l = some (.lst us) ∧ RowsAt H us rs ∧
  (∀ r ∈ rs, RowB r ∧ RowZ r ∧ r ≠ []) ∧ rs.length ≤ 2000000 ∧ at_ ≤ rs.length ∧ StrsAt H q ps ∧ ps.length ≤ 1000 ∧ OkW ps ∧
  (∀ k, opsOf rs at_ ps hk = .error k → Raised CB "at" (.int (k : Nat)) H E) ∧
  ∀ ops, opsOf rs at_ ps hk = .ok ops → ∀ p ts H', Same H H' → H p = none → H' p = some (.lst ts) → OpsAt H' ts ops → Q (.ref p) H'
theorem ok_operations_of {f CB : Addr} {fd : FuncData} (F : Fun K "_operations_of" "_operations_of" s_operations_of f fd) (T : Cst K mg) (O_operation_of : Ok P w K mg base 5 "_operation_of" ["row", "parameters"] (spOp K opM))
    (O_BadLibrary : OkC P w K mg base 1 "BadLibrary" CB ["self", "at"] (spErr1 CB "at")) (ty_BadLibrary : PySem.W.typeIn K (.ref CB) = some (.type "type")) :
    FnOk P w K mg base (L2.CX P w) 6 f fd ["rows", "start", "parameters", "root_hook"] (spOps CB) := by
  refine F.okX sc_operations_of (fun vs H Q E h => ?_) (fun cdv A outer s H vs Q E hr h => ?_)
  · obtain ⟨l, q, us, rs, at_, ps, hk, rfl, _⟩ := h
    rfl
  · obtain ⟨l, q, us, rs, at_, ps, hk, rfl, hl, hR, hB, hrs, hat, hq, hps, o2, ke, ko⟩ := h
    refine ⟨_, (pss_cons (ps_if (pt_cmpR op_eq (pv 1) (pe_callB call_len_seq (by rfl) T.n_len (by decide +kernel) (pa_cons (pv 0) pa_nil)) (nomark _)) (pss_one (ps_raise rfl (takes_of rfl rfl rfl rfl) (pmk_x O_BadLibrary ty_BadLibrary (hr.mono (by decide)) (pa_cons (pv 1) pa_nil)))) pss_nil)
    (pss_cons (ps_set (i := 4) sc_operations_of.nd rfl (Or.inl rfl) (pe_lst pa_nil))
    (pss_cons (ps_for (passes_of rfl) rfl (pi_range2 rfl T.n_range (pa_cons (pv 1) (pa_cons (pe_callB call_len_seq (by rfl) T.n_len (by decide +kernel) (pa_cons (pv 0) pa_nil)) pa_nil))) (pg_name (i := 5) sc_operations_of.nd rfl (Or.inl rfl)) (pss_cons (ps_set (i := 6) sc_operations_of.nd rfl (Or.inl rfl) (pe_callO O_operation_of (hr.mono (by decide)) (pa_cons (pe_ix ix_list (pv 0) (pv 5) (fun _ _ => rfl)) (pa_cons (pv 2) pa_nil))))
    (pss_cons (ps_if (PW.pt (pw_or (pt_cmpR op_isN (pv 6) pe_non (nomark _)) (pw_or1 (pt_cmpR op_eq (pe_callB call_len_seq (by rfl) T.n_len (by decide +kernel) (pa_cons (pv 4) pa_nil)) (pe_gv T.g_MOST_OPERATIONS) (nomark _))))) (pss_one (ps_raise rfl (takes_of rfl rfl rfl rfl) (pmk_x O_BadLibrary ty_BadLibrary (hr.mono (by decide)) (pa_cons (pv 5) pa_nil)))) pss_nil)
    (pss_cons (ps_asg (pv 6) (pg_tup rfl (pgs_cons (pg_name (i := 7) sc_operations_of.nd rfl (Or.inl rfl)) (pgs_cons (pg_name (i := 8) sc_operations_of.nd rfl (Or.inl rfl)) (pgs_cons (pg_name (i := 9) sc_operations_of.nd rfl (Or.inl rfl)) pgs_nil)))))
    (pss_cons (ps_if (PW.pt (pw_or (pt_cmpR op_in_seq (pv 7) (pe_lc (own := [("known", 10)]) rfl sc_operations_of.nd (pi_list (pv 4)) (blkOk_by (own := [("known", 10)]) (N := ["rows", "start", "parameters", "root_hook", "found", "at", "operation", "sign", "_", "maker", "known"]) (sc := defScope s_operations_of) (by decide +kernel)) (fun _ _ _ _ _ => (pg_name (i := 10) sc_operations_of.nd rfl (Or.inl rfl))) (fun _ _ _ _ _ => pts_nil) (fun _ _ _ _ _ => (pe_ix (show IxR _ (rIxT K) from ix_tup) (pv 10) pe_int (fun _ _ => rfl)))) (by rfl)) (pw_or1 (PW.pt (pw_and (pt_cmpR op_eq (pv 9) pe_str (nomark _)) (pw_and1 (pt_cmpR op_isN (pv 3) pe_non (nomark _)))))))) (pss_one (ps_raise rfl (takes_of rfl rfl rfl rfl) (pmk_x O_BadLibrary ty_BadLibrary (hr.mono (by decide)) (pa_cons (pv 5) pa_nil)))) pss_nil)
    (pss_one (ps_expr (pe_bm PySem.F.plainAttrs_list PySem.F.slot_list_append PySem.F.type_list_append mt_append (pv 4) (pa_cons (pv 6) pa_nil)))))))))
    (pss_one (ps_ret (pv 4)))))), ?_⟩
    refine ⟨_, rfl, _, rfl, l, _, rfl, .inl (SqL.of hl), rfl, _, rfl, ?_⟩
    rw [len_is, hR.len]
    refine ite2 (fun h1 => ?_) (fun h1 => ?_)
    · have e : opsOf rs at_ ps hk = .error at_ := by
        unfold opsOf
        rw [if_pos (of_decide_eq_true h1)]
      exact ⟨_, rfl, by show 1 ≤ 1000; decide, fun a na => ⟨H, a, _, rfl, rfl, na, fun H' d s1 nd ha hd => ⟨rfl, d, _, ha, hd, nd, ke at_ e d _ (same_raise s1 na nd) upd_same⟩⟩⟩
    · have h1' : at_ ≠ rs.length := fun z => h1 (decide_eq_true z)
      refine ⟨by show 0 ≤ sizeLine; decide, fun p np => ?_⟩
      have e0 : opsOf rs at_ ps hk = opsM ps hk at_ (rs.drop at_) [] := by
        unfold opsOf
        rw [if_neg h1']
      refine ⟨_, rfl, _, rfl, l, _, rfl, .inl (SqL.of (same_upd np _ _ hl)), _, _, rfl, ⟨by omega, by omega, by rw [hR.len]; omega, by rw [hR.len]; omega⟩, ?_⟩
      rw [hR.len]
      refine for_range (lo := (at_ : Int)) (n := (((rs.length : Nat) : Int) - (at_ : Int)).toNat) (fun i σ G => ∃ (found : List Op) (ts : List V) (u1 u2 u3 u4 u5 : Option V),
          σ = [some (.ref l), some (.int (at_ : Nat)), some (.ref q), some (hookV hk), some (.ref p), u1, u2, u3, u4, u5, none] ∧ Same H G ∧ G p = some (.lst ts) ∧ OpsAt G ts found ∧ found.length ≤ 6 ∧
          opsOf rs at_ ps hk = opsM ps hk (at_ + i) (rs.drop (at_ + i)) found)
        ⟨[], [], none, none, none, none, none, rfl, same_upd np, upd_same, OpsAt.nil, by decide, e0⟩ ?_ ?_
      · rintro i σ G hi ⟨found, ts, u1, u2, u3, u4, u5, rfl, s1, hp, hO, hf, hm⟩
        have hlt : at_ + i < rs.length := by omega
        obtain ⟨a, hua, hs⟩ := hR.row _ _ (List.getElem?_eq_getElem hlt)
        obtain ⟨hb1, hz1, hne1⟩ := hB _ (List.getElem_mem hlt)
        have hd : rs.drop (at_ + i) = rs[at_ + i] :: rs.drop (at_ + i + 1) := List.drop_eq_getElem_cons hlt
        rw [hd] at hm
        generalize hrow : rs[at_ + i] = r at hs hb1 hz1 hne1 hm
        have hstep : opsM ps hk (at_ + i) (r :: rs.drop (at_ + i + 1)) found = match opM r ps with
            | none => .error (at_ + i)
            | some o => if found.length = 6 || (found.map (fun z : Op => z.sign)).contains o.sign || (o.maker == "hook" && hk.isNone) then .error (at_ + i) else opsM ps hk (at_ + i + 1) (rs.drop (at_ + i + 1)) (found ++ [o]) := rfl
        rw [hstep] at hm
        refine ⟨_, rfl, _, rfl, l, us, ((at_ + i : Nat) : Int), .ref a, rfl, rfl, SqL.of (s1 _ _ hl), atI_nat hua, _, rfl, a, q, r, ps, rfl, s1 _ _ hs, hb1, hz1, hne1, s1 _ _ hq, hps, o2, fun en G2 s2 => ?_, fun o eo t G2 s2 ht => ?_⟩
        · rw [en] at hm
          exact ⟨_, rfl, rfl, _, rfl, iteT (iteT ⟨_, rfl, by show 1 ≤ 1000; decide, fun a2 na => ⟨G2, a2, _, rfl, rfl, na, fun H' d s3 nd ha hd => ⟨rfl, d, _, ha, hd, nd, ke (at_ + i) hm d _ ((s1.trans s2).trans (same_raise s3 na nd)) upd_same⟩⟩⟩)⟩
        · rw [eo] at hm
          have hp2 := s2 _ _ hp
          refine ⟨_, rfl, rfl, _, rfl, iteF ?_⟩
          refine ⟨_, rfl, p, _, rfl, .inl (SqL.of hp2), rfl, _, rfl, ?_⟩
          rw [hO.len, show (V.int 6 : V) = V.int ((6 : Nat) : Int) from rfl, len_is]
          have hm' : opsOf rs at_ ps hk = if (decide (found.length = 6) || (found.map (fun z : Op => z.sign)).contains o.sign || (o.maker == "hook" && hk.isNone)) = true then .error (at_ + i) else opsM ps hk (at_ + i + 1) (rs.drop (at_ + i + 1)) (found ++ [o]) := hm
          cases e6 : decide (found.length = 6) with
          | true => exact iteT ⟨_, rfl, by show 1 ≤ 1000; decide, fun a2 na => ⟨G2, a2, _, rfl, rfl, na, fun H' d s9 nd ha hd => ⟨rfl, d, _, ha, hd, nd, ke (at_ + i) (by rw [hm', e6]; rfl) d _ ((s1.trans s2).trans (same_raise s9 na nd)) upd_same⟩⟩⟩
          | false =>
            obtain ⟨c, ht1, ht2⟩ := id ht
            refine iteF ⟨_, rfl, t, _, rfl, SqT.of ht1, rfl, _, _, rfl, _, _, rfl, _, _, rfl, rfl, _, rfl, _, rfl, p, rfl, ⟨_, SqL.of hp2⟩, fun D nD => ?_⟩
            refine lc_fm (walk_list (xs := ts)) (fun i => found[i]?.map fun z => V.str z.sign) nD (by rw [hO.len]; omega) (fun _ s => SqL.of (s _ _ hp2)) ?_ ?_
            · rintro j x G3 G4 NT NE hj s3 ⟨rfl, hx⟩ h0 h1
              have hj2 : j < found.length := by rw [← hO.len]; exact hj
              obtain ⟨t', ht', c', hc1, hc2⟩ := (hO.same s2).op j _ (List.getElem?_eq_getElem hj2)
              rw [hx] at ht'
              cases ht'
              refine ⟨rfl, _, rfl, t', _, ((0 : Nat) : Int), _, rfl, rfl, SqT.of (s3 _ _ hc1), atI_nat (j := 0) rfl, h1 _ _ ?_ (Same.refl _)⟩
              show found[j]?.map _ = _
              rw [List.getElem?_eq_getElem hj2]
              rfl
            · intro G3 s3 hD
              rw [gath_map found _ hO.len, show found.map (fun z => V.str z.sign) = (found.map (fun z : Op => z.sign)).map V.str by rw [List.map_map]; rfl] at hD
              have hp3 := s3 _ _ hp2
              have s13 := (s1.trans s2).trans s3
              refine ⟨D, _, rfl, .inl (SqL.of hD), rfl, flat_strs _, _, rfl, ?_⟩
              rw [inV_strs]
              cases ec : (found.map (fun z : Op => z.sign)).contains o.sign with
              | true => exact iteT (iteT ⟨_, rfl, by show 1 ≤ 1000; decide, fun a2 na => ⟨G3, a2, _, rfl, rfl, na, fun H' d s9 nd ha hd => ⟨rfl, d, _, ha, hd, nd, ke (at_ + i) (by rw [hm', e6, ec]; rfl) d _ ((s13).trans (same_raise s9 na nd)) upd_same⟩⟩⟩)
              | false =>
                refine iteF ⟨_, rfl, rfl, _, rfl, ?_⟩
                rw [eq_str]
                cases em : (o.maker == ("hook" : Str)) with
                | false =>
                  refine iteF ?_
                  refine iteF ⟨_, rfl, .inl ⟨rfl, _, SqL.of hp3⟩, _, rfl, p, _, _, rfl, rfl, hp3, by rw [hO.len, sizeLine_eq]; omega, found ++ [o], ts ++ [.ref t], _, _, _, _, _, rfl, same_upd' s13 np, upd_same, ?_, ?_, ?_⟩
                  · refine OpsAt.snoc ((hO.same (s2.trans s3)).tups fun t' xs z => ?_) ?_
                    · rw [upd_ne (ne_of z hp3 (by intro q; cases q))]
                      exact z
                    · obtain ⟨c, z1, z2⟩ := ht.same s3
                      exact ⟨c, by rw [upd_ne (ne_of z1 hp3 (by intro q; cases q))]; exact z1, by rw [upd_ne (ne_of z2 hp3 (by intro q; cases q))]; exact z2⟩
                  · rw [List.length_append]
                    have : found.length ≠ 6 := of_decide_eq_false e6
                    show found.length + 1 ≤ 6
                    omega
                  · rw [hm', e6, ec, em]
                    rfl
                | true =>
                  refine iteT ⟨_, rfl, rfl, _, rfl, ?_⟩
                  rw [hook_non]
                  cases en : hk.isNone with
                  | true => exact iteT ⟨_, rfl, by show 1 ≤ 1000; decide, fun a2 na => ⟨G3, a2, _, rfl, rfl, na, fun H' d s9 nd ha hd => ⟨rfl, d, _, ha, hd, nd, ke (at_ + i) (by rw [hm', e6, ec, em, en]; rfl) d _ ((s13).trans (same_raise s9 na nd)) upd_same⟩⟩⟩
                  | false =>
                    refine iteF ⟨_, rfl, .inl ⟨rfl, _, SqL.of hp3⟩, _, rfl, p, _, _, rfl, rfl, hp3, by rw [hO.len, sizeLine_eq]; omega, found ++ [o], ts ++ [.ref t], _, _, _, _, _, rfl, same_upd' s13 np, upd_same, ?_, ?_, ?_⟩
                    · refine OpsAt.snoc ((hO.same (s2.trans s3)).tups fun t' xs z => ?_) ?_
                      · rw [upd_ne (ne_of z hp3 (by intro q; cases q))]
                        exact z
                      · obtain ⟨c, z1, z2⟩ := ht.same s3
                        exact ⟨c, by rw [upd_ne (ne_of z1 hp3 (by intro q; cases q))]; exact z1, by rw [upd_ne (ne_of z2 hp3 (by intro q; cases q))]; exact z2⟩
                    · rw [List.length_append]
                      have : found.length ≠ 6 := of_decide_eq_false e6
                      show found.length + 1 ≤ 6
                      omega
                    · rw [hm', e6, ec, em, en]
                      rfl
      · rintro σ G ⟨found, ts, u1, u2, u3, u4, u5, rfl, s1, hp, hO, hf, hm⟩
        have en : rs.drop (at_ + (((rs.length : Nat) : Int) - (at_ : Int)).toNat) = [] := List.drop_of_length_le (by omega)
        rw [en] at hm
        exact ⟨_, rfl, ko found hm p ts G s1 np hp hO⟩
end
end K03

namespace K03
open PySem PySem.Spec PyProof.Rows L2 EV TL LM
def SqX (b : Bool) (K : Fg) (H : Hp) (a : Addr) (xs : List V) : Prop := match b with
  | true => SqT K H a xs
  | false => SqL K H a xs
theorem SqT.same {K : Fg} {H H' : Hp} {a : Addr} {xs : List V} (e : Same H H') (h : SqT K H a xs) : SqT K H' a xs := by
  rcases h with (h | ⟨o, h⟩) | h
  · exact .inl (.inl (e _ _ h))
  · exact .inl (.inr ⟨o, e _ _ h⟩)
  · exact .inr h
theorem SqX.same {b : Bool} {K : Fg} {H H' : Hp} {a : Addr} {xs : List V} (h : SqX b K H a xs) (e : Same H H') : SqX b K H' a xs := by
  cases b with
  | true => exact SqT.same e h
  | false => exact e.seq h
theorem app_empty (x : Str) : Str.empty ++ x = x := ext_tl (by rw [tl_append]; rfl)
theorem len_app (x y : Str) : (x ++ y).length = x.length + y.length := by rw [len_tl, len_tl, len_tl, tl_append, List.length_append]
theorem pair_at {H : Hp} {ts : List V} {ks : List (Str × Str)} (h : PairsAt H ts ks) {i : Nat} {x : V} (hx : ts[i]? = some x) : ∃ k t, ks[i]? = some k ∧ x = .ref t ∧ H t = some (.tup [.str k.1, .str k.2]) := by
  have hi : i < ks.length := by
    rw [← h.len]
    exact (List.getElem?_eq_some_iff.mp hx).1
  obtain ⟨t, z1, z2⟩ := h.pair i _ (List.getElem?_eq_getElem hi)
  rw [hx] at z1
  cases z1
  exact ⟨_, t, List.getElem?_eq_getElem hi, rfl, z2⟩
theorem l_e : Str.empty.length = 0 := rfl
theorem l_lib : ("library " : Str).length = 8 := by decide +kernel
theorem l_needs : ("needs " : Str).length = 6 := by decide +kernel
theorem l_keeps : ("keeps " : Str).length = 6 := by decide +kernel
theorem l_of : (" of " : Str).length = 4 := by decide +kernel
theorem l_hook : ("hook " : Str).length = 5 := by decide +kernel
section
variable {P : Program} {w : World} {K : Fg} {mg : Str → Option Value} {base : Heap}
def Short (w : Str) : Prop := w.length ≤ 1000
def spRootLines (K : Fg) : Sp := fun vs H Q _ => ∃ (bt : Bool) (a b : Addr) (n : Str) (ps : List Str) (ts : List V) (kept : List (Str × Str)) (hk : Option Str), vs = [.str n, .ref a, .ref b, hookV hk] ∧ SqX bt K H a (ps.map V.str) ∧ SqX bt K H b ts ∧ PairsAt H ts kept ∧
  Short n ∧ (∀ p ∈ ps, Short p) ∧ (∀ p ∈ kept, Short p.1 ∧ Short p.2) ∧ (∀ h, hk = some h → Short h) ∧ ps.length ≤ 1000 ∧ kept.length ≤ 1000 ∧
  ∀ p H', Same H H' → H p = none → StrsAt H' p (rootLines n ps kept hk) → Q (.ref p) H'
theorem ok_root_lines {f : Addr} {fd : FuncData} (F : Fun K "_root_lines" "_root_lines" s_root_lines f fd) (T : Cst K mg) : FnOk P w K mg base CX0 1 f fd ["name", "parameters", "kept", "hook"] (spRootLines K) := by
  refine F.ok sc_root_lines (fun vs H Q E h => ?_) (fun cdv A outer s H vs Q E hr h => ?_)
  · obtain ⟨bt, a, b, n, ps, ts, kept, hk, rfl, _⟩ := h
    rfl
  · obtain ⟨bt, a, b, n, ps, ts, kept, hk, rfl, ha, hb, hP, hn, sp, sk, sh, lp, lk, k⟩ := h
    cases bt with
    | true =>
      refine ⟨_, (pss_cons (ps_set (i := 4) sc_root_lines.nd rfl (Or.inl rfl) (pe_lst (pa_cons (pe_joinedT (.cons pe_str (.cons (pe_fmt (pv 0)) .nil))) pa_nil)))
    (pss_cons (ps_expr (pe_bm PySem.F.plainAttrs_list PySem.F.slot_list_extend PySem.F.type_list_extend mt_extend (pv 4) (pa_cons (pe_lc (own := [("field", 5)]) rfl sc_root_lines.nd (pi_tup (pv 1)) (blkOk_by (own := [("field", 5)]) (N := ["name", "parameters", "kept", "hook", "lines", "field", "source"]) (sc := defScope s_root_lines) (by decide +kernel)) (fun _ _ _ _ _ => (pg_name (i := 5) sc_root_lines.nd rfl (Or.inl rfl))) (fun _ _ _ _ _ => pts_nil) (fun _ _ _ _ _ => (pe_joinedT (.cons pe_str (.cons (pe_fmt (pv 5)) .nil))))) pa_nil)))
    (pss_cons (ps_expr (pe_bm PySem.F.plainAttrs_list PySem.F.slot_list_extend PySem.F.type_list_extend mt_extend (pv 4) (pa_cons (pe_lc (own := [("field", 5), ("source", 6)]) rfl sc_root_lines.nd (pi_tup (pv 2)) (blkOk_by (own := [("field", 5), ("source", 6)]) (N := ["name", "parameters", "kept", "hook", "lines", "field", "source"]) (sc := defScope s_root_lines) (by decide +kernel)) (fun _ _ _ _ _ => (pg_pair (K := K) 5 6 rfl sc_root_lines.nd rfl rfl rfl rfl)) (fun _ _ _ _ _ => pts_nil) (fun _ _ _ _ _ => (pe_joinedT (.cons pe_str (.cons (pe_fmt (pv 5)) (.cons pe_str (.cons (pe_fmt (pv 6)) .nil))))))) pa_nil)))
    (pss_cons (ps_if (pt_cmpR op_notN (pv 3) pe_non (nomark _)) (pss_one (ps_expr (pe_bm PySem.F.plainAttrs_list PySem.F.slot_list_append PySem.F.type_list_append mt_append (pv 4) (pa_cons (pe_joinedT (.cons pe_str (.cons (pe_fmt (pv 3)) .nil))) pa_nil)))) pss_nil)
    (pss_one (ps_ret (pv 4))))))), ?_⟩
      have hn' : n.length ≤ 1000 := hn
      refine ⟨_, rfl, by rw [sizeLine_eq]; (try simp only [len_app, l_e, l_lib, l_needs, l_keeps, l_of, l_hook]); omega, _, rfl, .inl ⟨n, rfl, by rw [sizeLine_eq]; (try simp only [len_app, l_e, l_lib, l_needs, l_keeps, l_of, l_hook]); omega, _, rfl, by rw [sizeLine_eq]; (try simp only [len_app, l_e, l_lib, l_needs, l_keeps, l_of, l_hook]); omega, by show 1 ≤ sizeLine; decide, fun p np => ?_⟩⟩
      have ep : upd H p (.lst [V.str (Str.empty ++ ("library " : Str) ++ n)]) p = some (.lst [V.str (("library " : Str) ++ n)]) := by rw [upd_same, app_empty]
      have s1 : Same H (upd H p (.lst [V.str (Str.empty ++ ("library " : Str) ++ n)])) := same_upd np
      generalize upd H p (.lst [V.str (Str.empty ++ ("library " : Str) ++ n)]) = G1 at ep s1
      refine ⟨_, rfl, .inl ⟨rfl, _, SqL.of ep⟩, _, rfl, a, rfl, ⟨_, (SqX.same ha s1 : SqX true K G1 a _)⟩, fun D nD => ?_⟩
      refine lc_fm (walk_tup (xs := ps.map V.str)) (fun i => ps[i]?.map fun q => V.str (("needs " : Str) ++ q)) nD (by rw [List.length_map]; omega) (fun _ s => ((SqX.same ha s1).same s : SqX true K _ a _)) ?_ ?_
      · rintro i x G2 G3 NT NE hi s2 ⟨rfl, hx⟩ h0 h1
        obtain ⟨q, hq, rfl⟩ : ∃ q, ps[i]? = some q ∧ V.str q = x := by
          rw [List.getElem?_map] at hx
          cases e : ps[i]? with
          | none => rw [e] at hx; cases hx
          | some q => rw [e] at hx; exact ⟨q, rfl, by injection hx⟩
        have hq' : q.length ≤ 1000 := sp q (List.mem_of_getElem? hq)
        refine ⟨rfl, _, rfl, by rw [sizeLine_eq]; (try simp only [len_app, l_e, l_lib, l_needs, l_keeps, l_of, l_hook]); omega, _, rfl, .inl ⟨q, rfl, by rw [sizeLine_eq]; (try simp only [len_app, l_e, l_lib, l_needs, l_keeps, l_of, l_hook]); omega, _, rfl, by rw [sizeLine_eq]; (try simp only [len_app, l_e, l_lib, l_needs, l_keeps, l_of, l_hook]); omega, h1 _ _ ?_ (Same.refl _)⟩⟩
        show ps[i]?.map _ = _
        rw [hq, app_empty]
        rfl
      · intro G2 s2 hD
        rw [gath_map ps _ (by rw [List.length_map])] at hD
        refine ⟨p, D, _, _, rfl, rfl, s2 _ _ ep, hD, by rw [List.length_map, sizeLine_eq]; show 1 + _ ≤ _; omega, ?_⟩
        have ep2 : upd G2 p (.lst ([V.str (("library " : Str) ++ n)] ++ ps.map fun q => V.str (("needs " : Str) ++ q))) p = some (.lst (([("library " : Str) ++ n] ++ ps.map fun q => ("needs " : Str) ++ q).map V.str)) := by
          rw [upd_same, List.map_append, List.map_map]
          rfl
        have s12 : Same H (upd G2 p (.lst ([V.str (("library " : Str) ++ n)] ++ ps.map fun q => V.str (("needs " : Str) ++ q)))) := same_upd' (s1.trans s2) np
        generalize upd G2 p (.lst ([V.str (("library " : Str) ++ n)] ++ ps.map fun q => V.str (("needs " : Str) ++ q))) = G3 at ep2 s12
        refine ⟨_, rfl, .inl ⟨rfl, _, SqL.of ep2⟩, _, rfl, b, rfl, ⟨_, (SqX.same hb s12 : SqX true K G3 b _)⟩, fun D2 nD2 => ?_⟩
        refine lc_fm (walk_tup (xs := ts)) (fun i => kept[i]?.map fun q => V.str (("keeps " : Str) ++ q.1 ++ (" of " : Str) ++ q.2)) nD2 (by rw [hP.len]; omega) (fun _ s => ((SqX.same hb s12).same s : SqX true K _ b _)) ?_ ?_
        · rintro i x G4 G5 NT NE hi s4 ⟨rfl, hx⟩ h0 h1
          obtain ⟨q, t, hq, rfl, ht⟩ := pair_at (hP.same (s12.trans s4)) hx
          have hq1 : q.1.length ≤ 1000 := (sk q (List.mem_of_getElem? hq)).1
          have hq2 : q.2.length ≤ 1000 := (sk q (List.mem_of_getElem? hq)).2
          refine ⟨t, _, rfl, SqT.of ht, rfl, _, _, rfl, _, _, rfl, rfl, rfl, _, rfl, by rw [sizeLine_eq]; (try simp only [len_app, l_e, l_lib, l_needs, l_keeps, l_of, l_hook]); omega, _, rfl, .inl ⟨q.1, rfl, by rw [sizeLine_eq]; (try simp only [len_app, l_e, l_lib, l_needs, l_keeps, l_of, l_hook]); omega, _, rfl, by rw [sizeLine_eq]; (try simp only [len_app, l_e, l_lib, l_needs, l_keeps, l_of, l_hook]); omega, _, rfl, by rw [sizeLine_eq]; (try simp only [len_app, l_e, l_lib, l_needs, l_keeps, l_of, l_hook]); omega, _, rfl, .inl ⟨q.2, rfl, by rw [sizeLine_eq]; (try simp only [len_app, l_e, l_lib, l_needs, l_keeps, l_of, l_hook]); omega, _, rfl, by rw [sizeLine_eq]; (try simp only [len_app, l_e, l_lib, l_needs, l_keeps, l_of, l_hook]); omega, h1 _ _ ?_ (Same.refl _)⟩⟩⟩
          show kept[i]?.map _ = _
          rw [hq, app_empty]
          rfl
        · intro G4 s4 hD2
          rw [gath_map kept _ hP.len] at hD2
          refine ⟨p, D2, _, _, rfl, rfl, s4 _ _ ep2, hD2, by simp only [List.length_map, List.length_append, List.length_cons, List.length_nil]; rw [sizeLine_eq]; omega, ?_⟩
          have ep3 : upd G4 p (.lst ((([("library " : Str) ++ n] ++ ps.map fun q => ("needs " : Str) ++ q).map V.str) ++ kept.map fun q => V.str (("keeps " : Str) ++ q.1 ++ (" of " : Str) ++ q.2))) p =
              some (.lst (([("library " : Str) ++ n] ++ ps.map (fun q => ("needs " : Str) ++ q) ++ kept.map fun q => ("keeps " : Str) ++ q.1 ++ (" of " : Str) ++ q.2).map V.str)) := by
            rw [upd_same, List.map_append (l₂ := kept.map _), List.map_map (l := kept)]
            rfl
          have s14 : Same H (upd G4 p (.lst ((([("library " : Str) ++ n] ++ ps.map fun q => ("needs " : Str) ++ q).map V.str) ++ kept.map fun q => V.str (("keeps " : Str) ++ q.1 ++ (" of " : Str) ++ q.2)))) := same_upd' (s12.trans s4) np
          generalize upd G4 p (.lst ((([("library " : Str) ++ n] ++ ps.map fun q => ("needs " : Str) ++ q).map V.str) ++ kept.map fun q => V.str (("keeps " : Str) ++ q.1 ++ (" of " : Str) ++ q.2))) = G5 at ep3 s14
          cases hk with
          | none =>
            refine ⟨_, rfl, rfl, _, rfl, iteF ⟨_, rfl, k p G5 s14 np ?_⟩⟩
            unfold rootLines
            rw [List.append_nil]
            exact ep3
          | some h =>
            have hh : h.length ≤ 1000 := sh h rfl
            refine ⟨_, rfl, rfl, _, rfl, iteT ⟨_, rfl, .inl ⟨rfl, _, SqL.of ep3⟩, _, rfl, by rw [sizeLine_eq]; (try simp only [len_app, l_e, l_lib, l_needs, l_keeps, l_of, l_hook]); omega, _, rfl, .inl ⟨h, rfl, by rw [sizeLine_eq]; (try simp only [len_app, l_e, l_lib, l_needs, l_keeps, l_of, l_hook]); omega, _, rfl, by rw [sizeLine_eq]; (try simp only [len_app, l_e, l_lib, l_needs, l_keeps, l_of, l_hook]); omega, p, _, _, rfl, rfl, ep3, by simp only [List.length_map, List.length_append, List.length_cons, List.length_nil]; rw [sizeLine_eq]; omega, _, rfl, k p _ (same_upd' s14 np) np ?_⟩⟩⟩
            unfold rootLines StrsAt
            rw [upd_same, List.map_append (l₂ := [("hook " : Str) ++ h]), app_empty]
            rfl
    | false =>
      refine ⟨_, (pss_cons (ps_set (i := 4) sc_root_lines.nd rfl (Or.inl rfl) (pe_lst (pa_cons (pe_joinedT (.cons pe_str (.cons (pe_fmt (pv 0)) .nil))) pa_nil)))
    (pss_cons (ps_expr (pe_bm PySem.F.plainAttrs_list PySem.F.slot_list_extend PySem.F.type_list_extend mt_extend (pv 4) (pa_cons (pe_lc (own := [("field", 5)]) rfl sc_root_lines.nd (pi_list (pv 1)) (blkOk_by (own := [("field", 5)]) (N := ["name", "parameters", "kept", "hook", "lines", "field", "source"]) (sc := defScope s_root_lines) (by decide +kernel)) (fun _ _ _ _ _ => (pg_name (i := 5) sc_root_lines.nd rfl (Or.inl rfl))) (fun _ _ _ _ _ => pts_nil) (fun _ _ _ _ _ => (pe_joinedT (.cons pe_str (.cons (pe_fmt (pv 5)) .nil))))) pa_nil)))
    (pss_cons (ps_expr (pe_bm PySem.F.plainAttrs_list PySem.F.slot_list_extend PySem.F.type_list_extend mt_extend (pv 4) (pa_cons (pe_lc (own := [("field", 5), ("source", 6)]) rfl sc_root_lines.nd (pi_list (pv 2)) (blkOk_by (own := [("field", 5), ("source", 6)]) (N := ["name", "parameters", "kept", "hook", "lines", "field", "source"]) (sc := defScope s_root_lines) (by decide +kernel)) (fun _ _ _ _ _ => (pg_pair (K := K) 5 6 rfl sc_root_lines.nd rfl rfl rfl rfl)) (fun _ _ _ _ _ => pts_nil) (fun _ _ _ _ _ => (pe_joinedT (.cons pe_str (.cons (pe_fmt (pv 5)) (.cons pe_str (.cons (pe_fmt (pv 6)) .nil))))))) pa_nil)))
    (pss_cons (ps_if (pt_cmpR op_notN (pv 3) pe_non (nomark _)) (pss_one (ps_expr (pe_bm PySem.F.plainAttrs_list PySem.F.slot_list_append PySem.F.type_list_append mt_append (pv 4) (pa_cons (pe_joinedT (.cons pe_str (.cons (pe_fmt (pv 3)) .nil))) pa_nil)))) pss_nil)
    (pss_one (ps_ret (pv 4))))))), ?_⟩
      have hn' : n.length ≤ 1000 := hn
      refine ⟨_, rfl, by rw [sizeLine_eq]; (try simp only [len_app, l_e, l_lib, l_needs, l_keeps, l_of, l_hook]); omega, _, rfl, .inl ⟨n, rfl, by rw [sizeLine_eq]; (try simp only [len_app, l_e, l_lib, l_needs, l_keeps, l_of, l_hook]); omega, _, rfl, by rw [sizeLine_eq]; (try simp only [len_app, l_e, l_lib, l_needs, l_keeps, l_of, l_hook]); omega, by show 1 ≤ sizeLine; decide, fun p np => ?_⟩⟩
      have ep : upd H p (.lst [V.str (Str.empty ++ ("library " : Str) ++ n)]) p = some (.lst [V.str (("library " : Str) ++ n)]) := by rw [upd_same, app_empty]
      have s1 : Same H (upd H p (.lst [V.str (Str.empty ++ ("library " : Str) ++ n)])) := same_upd np
      generalize upd H p (.lst [V.str (Str.empty ++ ("library " : Str) ++ n)]) = G1 at ep s1
      refine ⟨_, rfl, .inl ⟨rfl, _, SqL.of ep⟩, _, rfl, a, rfl, ⟨_, (SqX.same ha s1 : SqX false K G1 a _)⟩, fun D nD => ?_⟩
      refine lc_fm (walk_list (xs := ps.map V.str)) (fun i => ps[i]?.map fun q => V.str (("needs " : Str) ++ q)) nD (by rw [List.length_map]; omega) (fun _ s => ((SqX.same ha s1).same s : SqX false K _ a _)) ?_ ?_
      · rintro i x G2 G3 NT NE hi s2 ⟨rfl, hx⟩ h0 h1
        obtain ⟨q, hq, rfl⟩ : ∃ q, ps[i]? = some q ∧ V.str q = x := by
          rw [List.getElem?_map] at hx
          cases e : ps[i]? with
          | none => rw [e] at hx; cases hx
          | some q => rw [e] at hx; exact ⟨q, rfl, by injection hx⟩
        have hq' : q.length ≤ 1000 := sp q (List.mem_of_getElem? hq)
        refine ⟨rfl, _, rfl, by rw [sizeLine_eq]; (try simp only [len_app, l_e, l_lib, l_needs, l_keeps, l_of, l_hook]); omega, _, rfl, .inl ⟨q, rfl, by rw [sizeLine_eq]; (try simp only [len_app, l_e, l_lib, l_needs, l_keeps, l_of, l_hook]); omega, _, rfl, by rw [sizeLine_eq]; (try simp only [len_app, l_e, l_lib, l_needs, l_keeps, l_of, l_hook]); omega, h1 _ _ ?_ (Same.refl _)⟩⟩
        show ps[i]?.map _ = _
        rw [hq, app_empty]
        rfl
      · intro G2 s2 hD
        rw [gath_map ps _ (by rw [List.length_map])] at hD
        refine ⟨p, D, _, _, rfl, rfl, s2 _ _ ep, hD, by rw [List.length_map, sizeLine_eq]; show 1 + _ ≤ _; omega, ?_⟩
        have ep2 : upd G2 p (.lst ([V.str (("library " : Str) ++ n)] ++ ps.map fun q => V.str (("needs " : Str) ++ q))) p = some (.lst (([("library " : Str) ++ n] ++ ps.map fun q => ("needs " : Str) ++ q).map V.str)) := by
          rw [upd_same, List.map_append, List.map_map]
          rfl
        have s12 : Same H (upd G2 p (.lst ([V.str (("library " : Str) ++ n)] ++ ps.map fun q => V.str (("needs " : Str) ++ q)))) := same_upd' (s1.trans s2) np
        generalize upd G2 p (.lst ([V.str (("library " : Str) ++ n)] ++ ps.map fun q => V.str (("needs " : Str) ++ q))) = G3 at ep2 s12
        refine ⟨_, rfl, .inl ⟨rfl, _, SqL.of ep2⟩, _, rfl, b, rfl, ⟨_, (SqX.same hb s12 : SqX false K G3 b _)⟩, fun D2 nD2 => ?_⟩
        refine lc_fm (walk_list (xs := ts)) (fun i => kept[i]?.map fun q => V.str (("keeps " : Str) ++ q.1 ++ (" of " : Str) ++ q.2)) nD2 (by rw [hP.len]; omega) (fun _ s => ((SqX.same hb s12).same s : SqX false K _ b _)) ?_ ?_
        · rintro i x G4 G5 NT NE hi s4 ⟨rfl, hx⟩ h0 h1
          obtain ⟨q, t, hq, rfl, ht⟩ := pair_at (hP.same (s12.trans s4)) hx
          have hq1 : q.1.length ≤ 1000 := (sk q (List.mem_of_getElem? hq)).1
          have hq2 : q.2.length ≤ 1000 := (sk q (List.mem_of_getElem? hq)).2
          refine ⟨t, _, rfl, SqT.of ht, rfl, _, _, rfl, _, _, rfl, rfl, rfl, _, rfl, by rw [sizeLine_eq]; (try simp only [len_app, l_e, l_lib, l_needs, l_keeps, l_of, l_hook]); omega, _, rfl, .inl ⟨q.1, rfl, by rw [sizeLine_eq]; (try simp only [len_app, l_e, l_lib, l_needs, l_keeps, l_of, l_hook]); omega, _, rfl, by rw [sizeLine_eq]; (try simp only [len_app, l_e, l_lib, l_needs, l_keeps, l_of, l_hook]); omega, _, rfl, by rw [sizeLine_eq]; (try simp only [len_app, l_e, l_lib, l_needs, l_keeps, l_of, l_hook]); omega, _, rfl, .inl ⟨q.2, rfl, by rw [sizeLine_eq]; (try simp only [len_app, l_e, l_lib, l_needs, l_keeps, l_of, l_hook]); omega, _, rfl, by rw [sizeLine_eq]; (try simp only [len_app, l_e, l_lib, l_needs, l_keeps, l_of, l_hook]); omega, h1 _ _ ?_ (Same.refl _)⟩⟩⟩
          show kept[i]?.map _ = _
          rw [hq, app_empty]
          rfl
        · intro G4 s4 hD2
          rw [gath_map kept _ hP.len] at hD2
          refine ⟨p, D2, _, _, rfl, rfl, s4 _ _ ep2, hD2, by simp only [List.length_map, List.length_append, List.length_cons, List.length_nil]; rw [sizeLine_eq]; omega, ?_⟩
          have ep3 : upd G4 p (.lst ((([("library " : Str) ++ n] ++ ps.map fun q => ("needs " : Str) ++ q).map V.str) ++ kept.map fun q => V.str (("keeps " : Str) ++ q.1 ++ (" of " : Str) ++ q.2))) p =
              some (.lst (([("library " : Str) ++ n] ++ ps.map (fun q => ("needs " : Str) ++ q) ++ kept.map fun q => ("keeps " : Str) ++ q.1 ++ (" of " : Str) ++ q.2).map V.str)) := by
            rw [upd_same, List.map_append (l₂ := kept.map _), List.map_map (l := kept)]
            rfl
          have s14 : Same H (upd G4 p (.lst ((([("library " : Str) ++ n] ++ ps.map fun q => ("needs " : Str) ++ q).map V.str) ++ kept.map fun q => V.str (("keeps " : Str) ++ q.1 ++ (" of " : Str) ++ q.2)))) := same_upd' (s12.trans s4) np
          generalize upd G4 p (.lst ((([("library " : Str) ++ n] ++ ps.map fun q => ("needs " : Str) ++ q).map V.str) ++ kept.map fun q => V.str (("keeps " : Str) ++ q.1 ++ (" of " : Str) ++ q.2))) = G5 at ep3 s14
          cases hk with
          | none =>
            refine ⟨_, rfl, rfl, _, rfl, iteF ⟨_, rfl, k p G5 s14 np ?_⟩⟩
            unfold rootLines
            rw [List.append_nil]
            exact ep3
          | some h =>
            have hh : h.length ≤ 1000 := sh h rfl
            refine ⟨_, rfl, rfl, _, rfl, iteT ⟨_, rfl, .inl ⟨rfl, _, SqL.of ep3⟩, _, rfl, by rw [sizeLine_eq]; (try simp only [len_app, l_e, l_lib, l_needs, l_keeps, l_of, l_hook]); omega, _, rfl, .inl ⟨h, rfl, by rw [sizeLine_eq]; (try simp only [len_app, l_e, l_lib, l_needs, l_keeps, l_of, l_hook]); omega, _, rfl, by rw [sizeLine_eq]; (try simp only [len_app, l_e, l_lib, l_needs, l_keeps, l_of, l_hook]); omega, p, _, _, rfl, rfl, ep3, by simp only [List.length_map, List.length_append, List.length_cons, List.length_nil]; rw [sizeLine_eq]; omega, _, rfl, k p _ (same_upd' s14 np) np ?_⟩⟩⟩
            unfold rootLines StrsAt
            rw [upd_same, List.map_append (l₂ := [("hook " : Str) ++ h]), app_empty]
            rfl
end
end K03

namespace K03
open PySem PySem.Spec PyProof.Rows L2 EV TL LM
theorem join_app (s : Str) : ∀ (xs ys : List Str), xs ≠ [] → ys ≠ [] → Str.join s (xs ++ ys) = Str.join s xs ++ s ++ Str.join s ys
  | [], _, h, _ => absurd rfl h
  | [x], [], _, h => absurd rfl h
  | [x], y :: ys, _, _ => rfl
  | x :: z :: xs, ys, _, hy => by
    show x ++ s ++ Str.join s ((z :: xs) ++ ys) = x ++ s ++ Str.join s (z :: xs) ++ s ++ Str.join s ys
    rw [join_app s (z :: xs) ys (by simp) hy]
    simp only [app_assoc]
theorem op_join0 (s m : Str) : Str.join " " ([s] ++ [("by" : Str), m]) = s ++ (" by " : Str) ++ m := by
  have e2 : (" by " : Str) = (" " : Str) ++ ("by" : Str) ++ (" " : Str) := by decide +kernel
  rw [join_app _ _ _ (by simp) (by simp), e2]
  show s ++ (" " : Str) ++ (("by" : Str) ++ (" " : Str) ++ m) = _
  simp only [app_assoc]
theorem op_join1 (s m : Str) {ch : List Str} (h : ch ≠ []) : Str.join " " (s :: ("changes" : Str) :: ch ++ [("by" : Str), m]) = s ++ (" changes " : Str) ++ Str.join " " ch ++ (" by " : Str) ++ m := by
  have e2 : (" by " : Str) = (" " : Str) ++ ("by" : Str) ++ (" " : Str) := by decide +kernel
  have e3 : (" changes " : Str) = (" " : Str) ++ ("changes" : Str) ++ (" " : Str) := by decide +kernel
  rw [join_app _ _ _ (by simp) (by simp), show s :: ("changes" : Str) :: ch = [s, ("changes" : Str)] ++ ch from rfl, join_app _ _ _ (by simp) h, e2, e3]
  show s ++ (" " : Str) ++ ("changes" : Str) ++ (" " : Str) ++ Str.join " " ch ++ (" " : Str) ++ (("by" : Str) ++ (" " : Str) ++ m) = _
  simp only [app_assoc]
theorem sum_short : ∀ {ws : List Str} {b : Nat}, (∀ w ∈ ws, w.length ≤ b) → (ws.map (·.length)).sum ≤ ws.length * b
  | [], _, _ => by simp
  | w :: ws, b, h => by
    have h1 := h w (List.mem_cons_self ..)
    have h2 := sum_short fun z hz => h z (List.mem_cons_of_mem _ hz)
    simp only [List.map_cons, List.sum_cons, List.length_cons, Nat.succ_mul]
    omega
theorem l_make : ("make " : Str).length = 5 := by decide +kernel
theorem l_by : (" by " : Str).length = 4 := by decide +kernel
section
variable {P : Program} {w : World} {K : Fg} {mg : Str → Option Value} {base : Heap}
def spOpLine (K : Fg) : Sp := fun vs H Q _ => ∃ (c : Addr) (s m : Str) (ch : List Str), vs = [.str s, .ref c, .str m] ∧ SqT K H c (ch.map V.str) ∧ Short s ∧ Short m ∧ (∀ p ∈ ch, Short p) ∧ ch.length ≤ 100 ∧
  ∀ H', Same H H' → Q (.str (opLine ⟨s, ch, m⟩)) H'
theorem ok_operation_line {f : Addr} {fd : FuncData} (F : Fun K "_operation_line" "_operation_line" s_operation_line f fd) (T : Cst K mg) (O_arity_of : Ok P w K mg base 1 "arity_of" ["sign"] spArity) :
    FnOk P w K mg base CX0 2 f fd ["sign", "changed", "maker"] (spOpLine K) := by
  refine F.ok sc_operation_line (fun vs H Q E h => ?_) (fun cdv A outer s H vs Q E hr h => ?_)
  · obtain ⟨c, s, m, ch, rfl, _⟩ := h
    rfl
  · obtain ⟨c, s, m, ch, rfl, hc, hs, hm, hch, hl, k⟩ := h
    refine ⟨_, (pss_cons (ps_if (pt_cmpR op_eq (pe_callO O_arity_of (hr.mono (by decide)) (pa_cons (pv 0) pa_nil)) pe_int (nomark _)) (pss_one (ps_ret (pe_joinedT (.cons pe_str (.cons (pe_fmt (pv 0)) (.cons pe_str (.cons (pe_fmt (pv 2)) .nil))))))) pss_nil)
    (pss_cons (ps_set (i := 3) sc_operation_line.nd rfl (Or.inl rfl) (pe_lst (pa_cons (pv 0) pa_nil)))
    (pss_cons (ps_if (pt_truth (pv 1) (by intro _; rfl)) (pss_one (ps_set (i := 3) sc_operation_line.nd rfl (Or.inl rfl) (pe_lst (pa_cons (pv 0) (pa_cons pe_str (StX.pa_star (pv 1) pa_nil)))))) pss_nil)
    (pss_one (ps_ret (pe_join pe_str (pe_lst (StX.pa_star (pv 3) (pa_cons pe_str (pa_cons (pv 2) pa_nil)))))))))), ?_⟩
    have hs' : s.length ≤ 1000 := hs
    have hm' : m.length ≤ 1000 := hm
    refine ⟨_, rfl, s, rfl, rfl, _, rfl, ?_⟩
    rw [show (V.int 0 : V) = V.int ((0 : Nat) : Int) from rfl, len_is]
    have kk : ∀ H', Same H H' → Q (.str (if arity s = 0 then ("make " : Str) ++ s ++ (" by " : Str) ++ m else if ch = [] then s ++ (" by " : Str) ++ m else s ++ (" changes " : Str) ++ Str.join " " ch ++ (" by " : Str) ++ m)) H' := k
    refine ite2 (fun h0 => ?_) (fun h0 => ?_)
    · rw [if_pos (of_decide_eq_true h0)] at kk
      refine ⟨_, rfl, by rw [sizeLine_eq]; (try simp only [len_app, l_e, l_make, l_by]); omega, _, rfl, .inl ⟨s, rfl, by rw [sizeLine_eq]; (try simp only [len_app, l_e, l_make, l_by]); omega, _, rfl, by rw [sizeLine_eq]; (try simp only [len_app, l_e, l_make, l_by]); omega, _, rfl, by rw [sizeLine_eq]; (try simp only [len_app, l_e, l_make, l_by]); omega, _, rfl, .inl ⟨m, rfl, by rw [sizeLine_eq]; (try simp only [len_app, l_e, l_make, l_by]); omega, _, rfl, by rw [sizeLine_eq]; (try simp only [len_app, l_e, l_make, l_by]); omega, ?_⟩⟩⟩
      rw [app_empty]
      exact kk H (Same.refl _)
    · rw [if_neg (fun z => h0 (decide_eq_true z))] at kk
      refine ⟨_, rfl, by show 1 ≤ sizeLine; decide, fun p np => ?_⟩
      have ep : upd H p (.lst [V.str s]) p = some (.lst ([s].map V.str)) := upd_same
      have s1 : Same H (upd H p (.lst [V.str s])) := same_upd np
      generalize upd H p (.lst [V.str s]) = G at ep s1
      have hcG := SqT.same s1 hc
      refine ⟨_, rfl, _, .inr (.inl ⟨_, hcG, rfl⟩), ?_⟩
      have el : (" " : Str).length = 1 := by decide +kernel
      have eb : ("by" : Str).length = 2 := by decide +kernel
      cases ch with
      | nil =>
        rw [if_pos rfl] at kk
        refine iteF ⟨⟨_, rfl⟩, _, rfl, p, _, rfl, .inr (SqL.of ep), _, rfl, by show 3 ≤ sizeLine; decide, fun q nq => ?_⟩
        refine ⟨_, q, [s] ++ [("by" : Str), m], rfl, rfl, .inl (SqL.of (upd_same)), ?_, ?_⟩
        · rw [el, Nat.mul_one]
          show s.length + (("by" : Str).length + (m.length + 0)) + 3 ≤ _
          rw [eb]
          omega
        · rw [join_eq, op_join0]
          exact kk _ (s1.trans (same_upd nq))
      | cons y r =>
        rw [if_neg (by simp)] at kk
        have hlen : (y :: r).length ≤ 100 := hl
        refine iteT ⟨_, rfl, _, rfl, c, _, rfl, .inl hcG, by simp only [List.length_map, List.length_append, List.length_cons, List.length_nil] at hlen ⊢; rw [sizeLine_eq]; omega, fun p2 np2 => ?_⟩
        refine ⟨⟨_, rfl⟩, _, rfl, p2, _, rfl, .inr (SqL.of upd_same), _, rfl, by simp only [List.length_map, List.length_append, List.length_cons, List.length_nil] at hlen ⊢; rw [sizeLine_eq]; omega, fun q nq => ?_⟩
        have eq : upd (upd G p2 (.lst (V.str s :: V.str "changes" :: ((y :: r).map V.str ++ [])))) q (.lst ((V.str s :: V.str "changes" :: ((y :: r).map V.str ++ [])) ++ [V.str "by", V.str m])) q = some (.lst ((s :: ("changes" : Str) :: (y :: r) ++ [("by" : Str), m]).map V.str)) := by
          rw [upd_same, List.append_nil, List.map_append]
          rfl
        refine ⟨_, q, s :: ("changes" : Str) :: (y :: r) ++ [("by" : Str), m], rfl, rfl, .inl (SqL.of eq), ?_, ?_⟩
        · have ec : ("changes" : Str).length = 7 := by decide +kernel
          have hsum := sum_short (b := 1000) hch
          simp only [List.map_append, List.map_cons, List.map_nil, List.sum_append, List.sum_cons, List.sum_nil, List.length_append, List.length_cons, List.length_nil, el, eb, ec] at hsum hlen ⊢
          have : (r.length + 1) * 1000 ≤ 100 * 1000 := Nat.mul_le_mul_right _ hlen
          omega
        · rw [join_eq, op_join1 s m (by simp)]
          exact kk _ ((s1.trans (same_upd np2)).trans (same_upd nq))
end
end K03

namespace K03
open PySem PySem.Spec PyProof.Rows L2 EV TL LM
/-! ### a library in the heap -/
def libF (n txt : Str) (hk : Option Str) (pa pk po psg pc pm : Addr) : List (Str × V) :=
  putF "_text" (.str txt) (putF "_maker" (.ref pm) (putF "_changed" (.ref pc) (putF "_signs" (.ref psg) (putF "_operations" (.ref po) (putF "root_hook" (hookV hk) (putF "kept" (.ref pk) (putF "root_parameters" (.ref pa) (putF "name" (.str n) []))))))))
structure LibRest (K : Fg) (H : Hp) (L : Lib) (pa pk po psg pc pm : Addr) : Prop where
  ps : SqT K H pa (L.ps.map V.str)
  kept : ∃ ts, SqT K H pk ts ∧ PairsAt H ts L.kept
  ops : ∃ ts, SqT K H po ts ∧ OpsAt H ts L.ops
  signs : SqT K H psg ((L.ops.map (·.sign)).map V.str)
  chg : ∃ kvs : List (Key × V), H pc = some (.dK kvs) ∧ kvs.map (·.1) = (L.ops.map (·.sign)).map Sum.inr ∧ ∀ (j : Nat) p, kvs[j]? = some p → ∃ o c, L.ops[j]? = some o ∧ p.2 = .ref c ∧ H c = some (.tup (o.changed.map V.str))
  mkr : ∃ kvs : List (Key × V), H pm = some (.dK kvs) ∧ kvs.map (·.1) = (L.ops.map (·.sign)).map Sum.inr ∧ ∀ (j : Nat) p, kvs[j]? = some p → ∃ o, L.ops[j]? = some o ∧ p.2 = .str o.maker
def LibAt (K : Fg) (H : Hp) (C a : Addr) (L : Lib) : Prop := ∃ dx pa pk po psg pc pm, H a = some (.ins C dx (libF L.name (textM L) L.hook pa pk po psg pc pm)) ∧ LibRest K H L pa pk po psg pc pm
/-- what is kept while the fields of the object at a are written -/
structure Kp (a : Addr) (H H' : Hp) : Prop where
  k : Keep a H H'
theorem Kp.lst {a p C dx : Addr} {fs : List (Str × V)} {H H' : Hp} {xs : List V} (k : Keep a H H') (ha : H a = some (.ins C dx fs)) (h : H p = some (.lst xs)) : H' p = some (.lst xs) := k p _ (ne_of h ha (by intro q; cases q)) h
theorem keep_tup {a p C dx : Addr} {fs : List (Str × V)} {H H' : Hp} {xs : List V} (k : Keep a H H') (ha : H a = some (.ins C dx fs)) (h : H p = some (.tup xs)) : H' p = some (.tup xs) := k p _ (ne_of h ha (by intro q; cases q)) h
theorem keep_sqT {K : Fg} {a p C dx : Addr} {fs : List (Str × V)} {H H' : Hp} {xs : List V} (k : Keep a H H') (ha : H a = some (.ins C dx fs)) (h : SqT K H p xs) : SqT K H' p xs := by
  rcases h with (h | ⟨o, h⟩) | h
  · exact .inl (.inl (keep_tup k ha h))
  · exact .inl (.inr ⟨o, k p _ (ne_of h ha (by intro q; cases q)) h⟩)
  · exact .inr h
theorem keep_sqL {K : Fg} {a p C dx : Addr} {fs : List (Str × V)} {H H' : Hp} {xs : List V} (k : Keep a H H') (ha : H a = some (.ins C dx fs)) (h : SqL K H p xs) : SqL K H' p xs := by
  rcases h with (h | ⟨o, h⟩) | h
  · exact .inl (.inl (k p _ (ne_of h ha (by intro q; cases q)) h))
  · exact .inl (.inr ⟨o, k p _ (ne_of h ha (by intro q; cases q)) h⟩)
  · exact .inr h
theorem keep_sqX {b : Bool} {K : Fg} {a p C dx : Addr} {fs : List (Str × V)} {H H' : Hp} {xs : List V} (k : Keep a H H') (ha : H a = some (.ins C dx fs)) (h : SqX b K H p xs) : SqX b K H' p xs := by
  cases b with
  | true => exact keep_sqT k ha h
  | false => exact keep_sqL k ha h
theorem tuple_any {bt : Bool} {K : Fg} {G : Hp} {p : Addr} {xs : List V} {Q : VK} (h : SqX bt K G p xs) (k : ∀ q G', Same G G' → SqT K G' q xs → Q (.ref q) G') :
    ∃ p' ys, [V.ref p] = [V.ref p'] ∧ ((SqL K G p' ys ∧ ∀ l, G l = none → Q (.ref l) (upd G l (.tup ys))) ∨ (SqT K G p' ys ∧ Q (.ref p') G)) := by
  cases bt with
  | true => exact ⟨p, xs, rfl, .inr ⟨h, k p G (Same.refl _) h⟩⟩
  | false => exact ⟨p, xs, rfl, .inl ⟨h, fun l nl => k l _ (same_upd nl) (SqT.of upd_same)⟩⟩
/-- tuple(xs), a list or a tuple -/
def rTup (K : Fg) : List V → Hp → VK → Prop := fun xs H Q => ∃ (bt : Bool) (p : Addr) (ys : List V), xs = [.ref p] ∧ SqX bt K H p ys ∧ ∀ q G, Same H G → SqT K G q ys → Q (.ref q) G
theorem call_tupleX {X : Cx} : CallR X (.type "tuple") (rTup X.K) := by
  intro pins s σ H xs us Q I r h
  obtain ⟨bt, p, ys, rfl, h, k⟩ := h
  exact call_tuple_of pins s σ H _ us Q I r (tuple_any h k)
section
variable {P : Program} {w : World} {K : Fg} {mg : Str → Option Value} {base : Heap}
structure LibC (K : Fg) (C : Addr) : Prop where
  cls : Cls K C
  no : ∀ f ∈ (["name", "root_parameters", "kept", "root_hook", "_operations", "_signs", "_changed", "_maker", "_text"] : List Str), NoAttr K C f
def OpsShort (ops : List Op) : Prop := ∀ o ∈ ops, Short o.sign ∧ Short o.maker ∧ (∀ p ∈ o.changed, Short p) ∧ o.changed.length ≤ 100
theorem len_join (s : Str) : ∀ ws : List Str, (Str.join s ws).length ≤ (ws.map (·.length)).sum + ws.length * s.length
  | [] => by simp [Str.join, l_e]
  | [x] => by
    show x.length ≤ _
    simp
  | x :: y :: r => by
    have := len_join s (y :: r)
    show (x ++ s ++ Str.join s (y :: r)).length ≤ _
    rw [len_app, len_app]
    simp only [List.map_cons, List.sum_cons, List.length_cons, Nat.succ_mul] at this ⊢
    omega
theorem l_changes : (" changes " : Str).length = 9 := by decide +kernel
theorem op_short {o : Op} (h1 : Short o.sign) (h2 : Short o.maker) (h3 : ∀ p ∈ o.changed, Short p) (h4 : o.changed.length ≤ 100) : (opLine o).length ≤ 200000 := by
  have h1' : o.sign.length ≤ 1000 := h1
  have h2' : o.maker.length ≤ 1000 := h2
  have q := len_join " " o.changed
  have q2 := sum_short (b := 1000) h3
  have el : (" " : Str).length = 1 := by decide +kernel
  have : o.changed.length * 1000 ≤ 100 * 1000 := Nat.mul_le_mul_right _ h4
  rw [el] at q
  unfold opLine
  split
  · simp only [len_app, l_make, l_by]; omega
  · split
    · simp only [len_app, l_by]; omega
    · simp only [len_app, l_by, l_changes]; omega
theorem lines_short {L : Lib} (sn : Short L.name) (sp : ∀ p ∈ L.ps, Short p) (sk : ∀ p ∈ L.kept, Short p.1 ∧ Short p.2) (sh : ∀ h, L.hook = some h → Short h) (so : OpsShort L.ops) : ∀ l ∈ linesM L, l.length ≤ 200000 := by
  intro l hl
  unfold linesM rootLines at hl
  simp only [List.mem_append, List.mem_map] at hl
  have sn' : L.name.length ≤ 1000 := sn
  rcases hl with (((hl | ⟨p, hp, rfl⟩) | ⟨p, hp, rfl⟩) | hl) | ⟨o, ho, rfl⟩
  · rw [List.mem_singleton.mp hl, len_app, l_lib]
    omega
  · have h : p.length ≤ 1000 := sp p hp
    rw [len_app, l_needs]
    omega
  · have h : p.1.length ≤ 1000 := (sk p hp).1
    have h' : p.2.length ≤ 1000 := (sk p hp).2
    rw [len_app, len_app, len_app, l_keeps, l_of]
    omega
  · cases e : L.hook with
    | none => rw [e] at hl; cases hl
    | some h =>
      have hh : h.length ≤ 1000 := sh h e
      rw [e] at hl
      rw [List.mem_singleton.mp hl, len_app, l_hook]
      omega
  · obtain ⟨h1, h2, h3, h4⟩ := so o ho
    exact op_short h1 h2 h3 h4
def spInit (K : Fg) (C : Addr) : Sp := fun vs H Q _ => ∃ (bt : Bool) (a dx p1 p2 p3 : Addr) (L : Lib) (kts ots : List V), vs = [.ref a, .str L.name, .ref p1, .ref p2, hookV L.hook, .ref p3] ∧ H a = some (.ins C dx []) ∧
  SqX bt K H p1 (L.ps.map V.str) ∧ SqX bt K H p2 kts ∧ PairsAt H kts L.kept ∧ H p3 = some (.lst ots) ∧ OpsAt H ots L.ops ∧ (L.ops.map (·.sign)).Nodup ∧
  Short L.name ∧ (∀ p ∈ L.ps, Short p) ∧ (∀ p ∈ L.kept, Short p.1 ∧ Short p.2) ∧ (∀ h, L.hook = some h → Short h) ∧ L.ps.length ≤ 10 ∧ L.kept.length ≤ 10 ∧ L.ops.length ≤ 10 ∧ OpsShort L.ops ∧
  ∀ H', Keep a H H' → LibAt K H' C a L → Q .non H'
theorem ok_init {f C : Addr} {fd : FuncData} (F : Fun K "__init__" "Library.__init__" s_Library___init__ f fd) (T : Cst K mg) (hC : LibC K C) (O_root_lines : Ok P w K mg base 1 "_root_lines" ["name", "parameters", "kept", "hook"] (spRootLines K))
    (O_operation_line : Ok P w K mg base 2 "_operation_line" ["sign", "changed", "maker"] (spOpLine K)) :
    FnOk P w K mg base CX0 3 f fd ["self", "name", "root_parameters", "kept", "root_hook", "operations"] (spInit K C) := by
  refine F.ok sc_Library___init__ (fun vs H Q E h => ?_) (fun cdv A outer s H vs Q E hr h => ?_)
  · obtain ⟨bt, a, dx, p1, p2, p3, L, kts, ots, rfl, _⟩ := h
    rfl
  · obtain ⟨bt, a, dx, p1, p2, p3, L, kts, ots, rfl, ha, h1, h2, hP, h3, hO, nd, sn, sp, sk, sh, lp, lk, lo, so, k⟩ := h
    refine ⟨_, (pss_cons (ps_fld (pv 0) (pv 1) rfl)
    (pss_cons (ps_fld (pv 0) (pe_callTy call_tupleX (by rfl) T.n_tuple (by decide +kernel) (pa_cons (pv 2) pa_nil)) rfl)
    (pss_cons (ps_fld (pv 0) (pe_callTy call_tupleX (by rfl) T.n_tuple (by decide +kernel) (pa_cons (pv 3) pa_nil)) rfl)
    (pss_cons (ps_fld (pv 0) (pv 4) rfl)
    (pss_cons (ps_fld (pv 0) (pe_callTy call_tupleX (by rfl) T.n_tuple (by decide +kernel) (pa_cons (pv 5) pa_nil)) rfl)
    (pss_cons (ps_fld (pv 0) (pe_callTy call_tupleX (by rfl) T.n_tuple (by decide +kernel) (pa_cons (pe_lc (own := [("operation", 7)]) rfl sc_Library___init__.nd (pi_list (pv 5)) (blkOk_by (own := [("operation", 7)]) (N := ["self", "name", "root_parameters", "kept", "root_hook", "operations", "lines", "operation", "sign", "changed", "_", "maker"]) (sc := defScope s_Library___init__) (by decide +kernel)) (fun _ _ _ _ _ => (pg_name (i := 7) sc_Library___init__.nd rfl (Or.inl rfl))) (fun _ _ _ _ _ => pts_nil) (fun _ _ _ _ _ => (pe_ix (show IxR _ (rIxT K) from ix_tup) (pv 7) pe_int (fun _ _ => rfl)))) pa_nil)) rfl)
    (pss_cons (ps_fld (pv 0) (pe_dc (own := [("sign", 8), ("changed", 9), ("_", 10)]) rfl sc_Library___init__.nd (pi_list (pv 5)) (blkOk_by (own := [("sign", 8), ("changed", 9), ("_", 10)]) (N := ["self", "name", "root_parameters", "kept", "root_hook", "operations", "lines", "operation", "sign", "changed", "_", "maker"]) (sc := defScope s_Library___init__) (by decide +kernel)) (fun _ _ _ _ _ => (pg_three (K := K) 8 9 10 rfl sc_Library___init__.nd rfl rfl rfl rfl rfl rfl)) (fun _ _ _ _ _ => pts_nil) (fun _ _ _ _ _ => (pv 8)) (fun _ _ _ _ _ => (pv 9))) rfl)
    (pss_cons (ps_fld (pv 0) (pe_dc (own := [("sign", 8), ("_", 10), ("maker", 11)]) rfl sc_Library___init__.nd (pi_list (pv 5)) (blkOk_by (own := [("sign", 8), ("_", 10), ("maker", 11)]) (N := ["self", "name", "root_parameters", "kept", "root_hook", "operations", "lines", "operation", "sign", "changed", "_", "maker"]) (sc := defScope s_Library___init__) (by decide +kernel)) (fun _ _ _ _ _ => (pg_three (K := K) 8 10 11 rfl sc_Library___init__.nd rfl rfl rfl rfl rfl rfl)) (fun _ _ _ _ _ => pts_nil) (fun _ _ _ _ _ => (pv 8)) (fun _ _ _ _ _ => (pv 11))) rfl)
    (pss_cons (ps_set (i := 6) sc_Library___init__.nd rfl (Or.inl rfl) (pe_callO O_root_lines (hr.mono (by decide)) (pa_cons (pv 1) (pa_cons (pv 2) (pa_cons (pv 3) (pa_cons (pv 4) pa_nil))))))
    (pss_cons (ps_expr (pe_bm PySem.F.plainAttrs_list PySem.F.slot_list_extend PySem.F.type_list_extend mt_extend (pv 6) (pa_cons (pe_lc (own := [("sign", 8), ("changed", 9), ("maker", 11)]) rfl sc_Library___init__.nd (pi_list (pv 5)) (blkOk_by (own := [("sign", 8), ("changed", 9), ("maker", 11)]) (N := ["self", "name", "root_parameters", "kept", "root_hook", "operations", "lines", "operation", "sign", "changed", "_", "maker"]) (sc := defScope s_Library___init__) (by decide +kernel)) (fun _ _ _ _ _ => (pg_three (K := K) 8 9 11 rfl sc_Library___init__.nd rfl rfl rfl rfl rfl rfl)) (fun _ _ _ _ _ => pts_nil) (fun _ _ _ _ _ => (pe_callO O_operation_line (hr.mono (by decide)) (pa_cons (pv 8) (pa_cons (pv 9) (pa_cons (pv 11) pa_nil)))))) pa_nil)))
    (pss_one (ps_fld (pv 0) (pe_join pe_str (pv 6)) rfl)))))))))))), ?_⟩
    have no : ∀ f ∈ (["name", "root_parameters", "kept", "root_hook", "_operations", "_signs", "_changed", "_maker", "_text"] : List Str), NoAttr K C f := hC.no
    have l0 : ([] : List (Str × V)).length ≤ 0 := Nat.le_refl _
    have kH : Keep a H H := Keep.refl H
    refine ⟨_, rfl, _, rfl, a, C, dx, _, rfl, ha, hC.cls, no _ (by simp), by omega, ?_⟩
    have l1 : (putF "name" (.str L.name) []).length ≤ 1 := Nat.le_trans (length_putF _ _ _) (Nat.succ_le_succ l0)
    have kk1 : Keep a H (upd H a (.ins C dx (putF "name" (.str L.name) []))) := kH.trans Keep.upd
    have a1 : upd H a (.ins C dx (putF "name" (.str L.name) [])) a = some (.ins C dx (putF "name" (.str L.name) [])) := upd_same
    have u1 : Keep a H (upd H a (.ins C dx (putF "name" (.str L.name) []))) := Keep.upd
    generalize upd H a (.ins C dx (putF "name" (.str L.name) [])) = M1 at kk1 a1 u1
    refine ⟨_, rfl, bt, p1, _, rfl, keep_sqX kk1 ha h1, fun pa G2 s2 t2 => ⟨_, rfl, a, C, dx, _, rfl, s2 _ _ a1, hC.cls, no _ (by simp), by omega, ?_⟩⟩
    have kG2 : Keep a H G2 := kk1.trans (Keep.of s2)
    have l2 : (putF "root_parameters" (.ref pa) (putF "name" (.str L.name) [])).length ≤ 2 := Nat.le_trans (length_putF _ _ _) (Nat.succ_le_succ l1)
    have kk2 : Keep a H (upd G2 a (.ins C dx (putF "root_parameters" (.ref pa) (putF "name" (.str L.name) [])))) := kG2.trans Keep.upd
    have a2 : upd G2 a (.ins C dx (putF "root_parameters" (.ref pa) (putF "name" (.str L.name) []))) a = some (.ins C dx (putF "root_parameters" (.ref pa) (putF "name" (.str L.name) []))) := upd_same
    have u2 : Keep a G2 (upd G2 a (.ins C dx (putF "root_parameters" (.ref pa) (putF "name" (.str L.name) [])))) := Keep.upd
    generalize upd G2 a (.ins C dx (putF "root_parameters" (.ref pa) (putF "name" (.str L.name) []))) = M2 at kk2 a2 u2
    have tpa : SqT K M2 pa (L.ps.map V.str) := keep_sqT u2 (s2 _ _ a1) t2
    refine ⟨_, rfl, bt, p2, _, rfl, keep_sqX kk2 ha h2, fun pk G3 s3 t3 => ⟨_, rfl, a, C, dx, _, rfl, s3 _ _ a2, hC.cls, no _ (by simp), by omega, ?_⟩⟩
    have kG3 : Keep a H G3 := kk2.trans (Keep.of s3)
    have l3 : (putF "kept" (.ref pk) (putF "root_parameters" (.ref pa) (putF "name" (.str L.name) []))).length ≤ 3 := Nat.le_trans (length_putF _ _ _) (Nat.succ_le_succ l2)
    have kk3 : Keep a H (upd G3 a (.ins C dx (putF "kept" (.ref pk) (putF "root_parameters" (.ref pa) (putF "name" (.str L.name) []))))) := kG3.trans Keep.upd
    have a3 : upd G3 a (.ins C dx (putF "kept" (.ref pk) (putF "root_parameters" (.ref pa) (putF "name" (.str L.name) [])))) a = some (.ins C dx (putF "kept" (.ref pk) (putF "root_parameters" (.ref pa) (putF "name" (.str L.name) [])))) := upd_same
    have u3 : Keep a G3 (upd G3 a (.ins C dx (putF "kept" (.ref pk) (putF "root_parameters" (.ref pa) (putF "name" (.str L.name) []))))) := Keep.upd
    generalize upd G3 a (.ins C dx (putF "kept" (.ref pk) (putF "root_parameters" (.ref pa) (putF "name" (.str L.name) [])))) = M3 at kk3 a3 u3
    have tpk : SqT K M3 pk kts := keep_sqT u3 (s3 _ _ a2) t3
    have tpa : SqT K M3 pa (L.ps.map V.str) := keep_sqT u3 (s3 _ _ a2) (SqT.same s3 tpa)
    refine ⟨_, rfl, _, rfl, a, C, dx, _, rfl, a3, hC.cls, no _ (by simp), by omega, ?_⟩
    have kM3 : Keep a H M3 := kk3
    have l4 : (putF "root_hook" (hookV L.hook) (putF "kept" (.ref pk) (putF "root_parameters" (.ref pa) (putF "name" (.str L.name) [])))).length ≤ 4 := Nat.le_trans (length_putF _ _ _) (Nat.succ_le_succ l3)
    have kk4 : Keep a H (upd M3 a (.ins C dx (putF "root_hook" (hookV L.hook) (putF "kept" (.ref pk) (putF "root_parameters" (.ref pa) (putF "name" (.str L.name) [])))))) := kM3.trans Keep.upd
    have a4 : upd M3 a (.ins C dx (putF "root_hook" (hookV L.hook) (putF "kept" (.ref pk) (putF "root_parameters" (.ref pa) (putF "name" (.str L.name) []))))) a = some (.ins C dx (putF "root_hook" (hookV L.hook) (putF "kept" (.ref pk) (putF "root_parameters" (.ref pa) (putF "name" (.str L.name) []))))) := upd_same
    have u4 : Keep a M3 (upd M3 a (.ins C dx (putF "root_hook" (hookV L.hook) (putF "kept" (.ref pk) (putF "root_parameters" (.ref pa) (putF "name" (.str L.name) [])))))) := Keep.upd
    generalize upd M3 a (.ins C dx (putF "root_hook" (hookV L.hook) (putF "kept" (.ref pk) (putF "root_parameters" (.ref pa) (putF "name" (.str L.name) []))))) = M4 at kk4 a4 u4
    have tpa : SqT K M4 pa (L.ps.map V.str) := keep_sqT u4 a3 tpa
    have tpk : SqT K M4 pk kts := keep_sqT u4 a3 tpk
    refine ⟨_, rfl, false, p3, _, rfl, (SqL.of (Kp.lst kk4 ha h3) : SqX false K M4 p3 ots), fun po G5 s5 t5 => ⟨_, rfl, a, C, dx, _, rfl, s5 _ _ a4, hC.cls, no _ (by simp), by omega, ?_⟩⟩
    have kG5 : Keep a H G5 := kk4.trans (Keep.of s5)
    have l5 : (putF "_operations" (.ref po) (putF "root_hook" (hookV L.hook) (putF "kept" (.ref pk) (putF "root_parameters" (.ref pa) (putF "name" (.str L.name) []))))).length ≤ 5 := Nat.le_trans (length_putF _ _ _) (Nat.succ_le_succ l4)
    have kk5 : Keep a H (upd G5 a (.ins C dx (putF "_operations" (.ref po) (putF "root_hook" (hookV L.hook) (putF "kept" (.ref pk) (putF "root_parameters" (.ref pa) (putF "name" (.str L.name) []))))))) := kG5.trans Keep.upd
    have a5 : upd G5 a (.ins C dx (putF "_operations" (.ref po) (putF "root_hook" (hookV L.hook) (putF "kept" (.ref pk) (putF "root_parameters" (.ref pa) (putF "name" (.str L.name) [])))))) a = some (.ins C dx (putF "_operations" (.ref po) (putF "root_hook" (hookV L.hook) (putF "kept" (.ref pk) (putF "root_parameters" (.ref pa) (putF "name" (.str L.name) [])))))) := upd_same
    have u5 : Keep a G5 (upd G5 a (.ins C dx (putF "_operations" (.ref po) (putF "root_hook" (hookV L.hook) (putF "kept" (.ref pk) (putF "root_parameters" (.ref pa) (putF "name" (.str L.name) []))))))) := Keep.upd
    generalize upd G5 a (.ins C dx (putF "_operations" (.ref po) (putF "root_hook" (hookV L.hook) (putF "kept" (.ref pk) (putF "root_parameters" (.ref pa) (putF "name" (.str L.name) [])))))) = M5 at kk5 a5 u5
    have tpo : SqT K M5 po ots := keep_sqT u5 (s5 _ _ a4) t5
    have tpa : SqT K M5 pa (L.ps.map V.str) := keep_sqT u5 (s5 _ _ a4) (SqT.same s5 tpa)
    have tpk : SqT K M5 pk kts := keep_sqT u5 (s5 _ _ a4) (SqT.same s5 tpk)
    have h3' : M5 p3 = some (.lst ots) := Kp.lst kk5 ha h3
    have hO5 : OpsAt M5 ots L.ops := hO.tups fun t xs z => keep_tup kk5 ha z
    refine ⟨_, rfl, p3, rfl, ⟨_, SqL.of h3'⟩, fun D nD => ?_⟩
    refine lc_fm (walk_list (xs := ots)) (fun i => L.ops[i]?.map fun z => V.str z.sign) nD (by rw [hO.len]; omega) (fun _ s => SqL.of (s _ _ h3')) ?_ ?_
    · rintro j x G3 G4 NT NE hj s3 ⟨rfl, hx⟩ h0 h1
      have hj2 : j < L.ops.length := by rw [← hO.len]; exact hj
      obtain ⟨t', ht', c', hc1, hc2⟩ := hO5.op j _ (List.getElem?_eq_getElem hj2)
      rw [hx] at ht'
      cases ht'
      refine ⟨rfl, _, rfl, t', _, ((0 : Nat) : Int), _, rfl, rfl, SqT.of (s3 _ _ hc1), atI_nat (j := 0) rfl, h1 _ _ ?_ (Same.refl _)⟩
      show L.ops[j]?.map _ = _
      rw [List.getElem?_eq_getElem hj2]
      rfl
    intro G6 s6 hD
    rw [gath_map L.ops _ hO.len, show L.ops.map (fun z => V.str z.sign) = (L.ops.map (fun z : Op => z.sign)).map V.str by rw [List.map_map]; rfl] at hD
    refine ⟨false, D, _, rfl, (SqL.of hD : SqX false K G6 D _), fun psg G7 s7 t7 => ⟨_, rfl, a, C, dx, _, rfl, s7 _ _ (s6 _ _ a5), hC.cls, no _ (by simp), by omega, ?_⟩⟩
    have s67 : Same M5 G7 := s6.trans s7
    have kG7 : Keep a H G7 := kk5.trans (Keep.of s67)
    have l6 : (putF "_signs" (.ref psg) (putF "_operations" (.ref po) (putF "root_hook" (hookV L.hook) (putF "kept" (.ref pk) (putF "root_parameters" (.ref pa) (putF "name" (.str L.name) [])))))).length ≤ 6 := Nat.le_trans (length_putF _ _ _) (Nat.succ_le_succ l5)
    have kk6 : Keep a H (upd G7 a (.ins C dx (putF "_signs" (.ref psg) (putF "_operations" (.ref po) (putF "root_hook" (hookV L.hook) (putF "kept" (.ref pk) (putF "root_parameters" (.ref pa) (putF "name" (.str L.name) [])))))))) := kG7.trans Keep.upd
    have a6 : upd G7 a (.ins C dx (putF "_signs" (.ref psg) (putF "_operations" (.ref po) (putF "root_hook" (hookV L.hook) (putF "kept" (.ref pk) (putF "root_parameters" (.ref pa) (putF "name" (.str L.name) []))))))) a = some (.ins C dx (putF "_signs" (.ref psg) (putF "_operations" (.ref po) (putF "root_hook" (hookV L.hook) (putF "kept" (.ref pk) (putF "root_parameters" (.ref pa) (putF "name" (.str L.name) []))))))) := upd_same
    have u6 : Keep a G7 (upd G7 a (.ins C dx (putF "_signs" (.ref psg) (putF "_operations" (.ref po) (putF "root_hook" (hookV L.hook) (putF "kept" (.ref pk) (putF "root_parameters" (.ref pa) (putF "name" (.str L.name) [])))))))) := Keep.upd
    generalize upd G7 a (.ins C dx (putF "_signs" (.ref psg) (putF "_operations" (.ref po) (putF "root_hook" (hookV L.hook) (putF "kept" (.ref pk) (putF "root_parameters" (.ref pa) (putF "name" (.str L.name) []))))))) = M6 at kk6 a6 u6
    have b7 := s67 _ _ a5
    have tpo : SqT K M6 po ots := keep_sqT u6 b7 (SqT.same s67 tpo)
    have tpa : SqT K M6 pa (L.ps.map V.str) := keep_sqT u6 b7 (SqT.same s67 tpa)
    have tpk : SqT K M6 pk kts := keep_sqT u6 b7 (SqT.same s67 tpk)
    have tps : SqT K M6 psg ((L.ops.map (fun z : Op => z.sign)).map V.str) := keep_sqT u6 b7 t7
    have h3' : M6 p3 = some (.lst ots) := Kp.lst kk6 ha h3
    have hO6 : OpsAt M6 ots L.ops := hO.tups fun t xs z => keep_tup kk6 ha z
    refine ⟨_, rfl, p3, rfl, ⟨_, SqL.of h3'⟩, fun pc nc => ?_⟩
    refine dc_strs (walk_list (xs := ots)) (L.ops.map (·.sign)) (fun j z => ∃ o c, L.ops[j]? = some o ∧ z = V.ref c ∧ M6 c = some (.tup (o.changed.map V.str))) (by rw [List.length_map, hO.len]) nd (by rw [hO.len]; omega) nc (fun _ s => SqL.of (s _ _ h3')) ?_ ?_
    · rintro j x G3 G4 NE hj s3 ⟨rfl, hx⟩ h1
      have hj2 : j < L.ops.length := by rw [← hO.len]; exact hj
      obtain ⟨t', ht', c', hc1, hc2⟩ := hO6.op j _ (List.getElem?_eq_getElem hj2)
      rw [hx] at ht'
      cases ht'
      refine ⟨t', _, rfl, SqT.of (s3 _ _ hc1), rfl, _, _, rfl, _, _, rfl, _, _, rfl, rfl, rfl, _, rfl, _, rfl, h1 _ _ _ ?_ ⟨_, c', List.getElem?_eq_getElem hj2, rfl, hc2⟩ (Same.refl _)⟩
      rw [List.getElem?_map, List.getElem?_eq_getElem hj2]
      rfl
    intro G8 kvc s8 hpc hkc hRc
    have b8 := s8 _ _ a6
    refine ⟨_, rfl, a, C, dx, _, rfl, b8, hC.cls, no _ (by simp), by omega, ?_⟩
    have kG8 : Keep a H G8 := kk6.trans (Keep.of s8)
    have l7 : (putF "_changed" (.ref pc) (putF "_signs" (.ref psg) (putF "_operations" (.ref po) (putF "root_hook" (hookV L.hook) (putF "kept" (.ref pk) (putF "root_parameters" (.ref pa) (putF "name" (.str L.name) []))))))).length ≤ 7 := Nat.le_trans (length_putF _ _ _) (Nat.succ_le_succ l6)
    have kk7 : Keep a H (upd G8 a (.ins C dx (putF "_changed" (.ref pc) (putF "_signs" (.ref psg) (putF "_operations" (.ref po) (putF "root_hook" (hookV L.hook) (putF "kept" (.ref pk) (putF "root_parameters" (.ref pa) (putF "name" (.str L.name) []))))))))) := kG8.trans Keep.upd
    have a7 : upd G8 a (.ins C dx (putF "_changed" (.ref pc) (putF "_signs" (.ref psg) (putF "_operations" (.ref po) (putF "root_hook" (hookV L.hook) (putF "kept" (.ref pk) (putF "root_parameters" (.ref pa) (putF "name" (.str L.name) [])))))))) a = some (.ins C dx (putF "_changed" (.ref pc) (putF "_signs" (.ref psg) (putF "_operations" (.ref po) (putF "root_hook" (hookV L.hook) (putF "kept" (.ref pk) (putF "root_parameters" (.ref pa) (putF "name" (.str L.name) [])))))))) := upd_same
    have u7 : Keep a G8 (upd G8 a (.ins C dx (putF "_changed" (.ref pc) (putF "_signs" (.ref psg) (putF "_operations" (.ref po) (putF "root_hook" (hookV L.hook) (putF "kept" (.ref pk) (putF "root_parameters" (.ref pa) (putF "name" (.str L.name) []))))))))) := Keep.upd
    generalize upd G8 a (.ins C dx (putF "_changed" (.ref pc) (putF "_signs" (.ref psg) (putF "_operations" (.ref po) (putF "root_hook" (hookV L.hook) (putF "kept" (.ref pk) (putF "root_parameters" (.ref pa) (putF "name" (.str L.name) [])))))))) = M7 at kk7 a7 u7
    have tpo : SqT K M7 po ots := keep_sqT u7 b8 (SqT.same s8 tpo)
    have tpa : SqT K M7 pa (L.ps.map V.str) := keep_sqT u7 b8 (SqT.same s8 tpa)
    have tpk : SqT K M7 pk kts := keep_sqT u7 b8 (SqT.same s8 tpk)
    have tps : SqT K M7 psg ((L.ops.map (fun z : Op => z.sign)).map V.str) := keep_sqT u7 b8 (SqT.same s8 tps)
    have hpc7 : M7 pc = some (.dK kvc) := u7 pc _ (ne_of hpc b8 (by intro q; cases q)) hpc
    have hRc7 : ∀ (j : Nat) p, kvc[j]? = some p → ∃ o c, L.ops[j]? = some o ∧ p.2 = V.ref c ∧ M7 c = some (.tup (o.changed.map V.str)) := fun j p e => by
      obtain ⟨o, c, z1, z2, z3⟩ := hRc j p e
      exact ⟨o, c, z1, z2, keep_tup u7 b8 (s8 _ _ z3)⟩
    have h3' : M7 p3 = some (.lst ots) := Kp.lst kk7 ha h3
    have hO7 : OpsAt M7 ots L.ops := hO.tups fun t xs z => keep_tup kk7 ha z
    refine ⟨_, rfl, p3, rfl, ⟨_, SqL.of h3'⟩, fun pm nm => ?_⟩
    refine dc_strs (walk_list (xs := ots)) (L.ops.map (·.sign)) (fun j z => ∃ o, L.ops[j]? = some o ∧ z = V.str o.maker) (by rw [List.length_map, hO.len]) nd (by rw [hO.len]; omega) nm (fun _ s => SqL.of (s _ _ h3')) ?_ ?_
    · rintro j x G3 G4 NE hj s3 ⟨rfl, hx⟩ h1
      have hj2 : j < L.ops.length := by rw [← hO.len]; exact hj
      obtain ⟨t', ht', c', hc1, hc2⟩ := hO7.op j _ (List.getElem?_eq_getElem hj2)
      rw [hx] at ht'
      cases ht'
      refine ⟨t', _, rfl, SqT.of (s3 _ _ hc1), rfl, _, _, rfl, _, _, rfl, _, _, rfl, rfl, rfl, _, rfl, _, rfl, h1 _ _ _ ?_ ⟨_, List.getElem?_eq_getElem hj2, rfl⟩ (Same.refl _)⟩
      rw [List.getElem?_map, List.getElem?_eq_getElem hj2]
      rfl
    intro G9 kvm s9 hpm hkm hRm
    have b9 := s9 _ _ a7
    refine ⟨_, rfl, a, C, dx, _, rfl, b9, hC.cls, no _ (by simp), by omega, ?_⟩
    have kG9 : Keep a H G9 := kk7.trans (Keep.of s9)
    have l8 : (putF "_maker" (.ref pm) (putF "_changed" (.ref pc) (putF "_signs" (.ref psg) (putF "_operations" (.ref po) (putF "root_hook" (hookV L.hook) (putF "kept" (.ref pk) (putF "root_parameters" (.ref pa) (putF "name" (.str L.name) [])))))))).length ≤ 8 := Nat.le_trans (length_putF _ _ _) (Nat.succ_le_succ l7)
    have kk8 : Keep a H (upd G9 a (.ins C dx (putF "_maker" (.ref pm) (putF "_changed" (.ref pc) (putF "_signs" (.ref psg) (putF "_operations" (.ref po) (putF "root_hook" (hookV L.hook) (putF "kept" (.ref pk) (putF "root_parameters" (.ref pa) (putF "name" (.str L.name) [])))))))))) := kG9.trans Keep.upd
    have a8 : upd G9 a (.ins C dx (putF "_maker" (.ref pm) (putF "_changed" (.ref pc) (putF "_signs" (.ref psg) (putF "_operations" (.ref po) (putF "root_hook" (hookV L.hook) (putF "kept" (.ref pk) (putF "root_parameters" (.ref pa) (putF "name" (.str L.name) []))))))))) a = some (.ins C dx (putF "_maker" (.ref pm) (putF "_changed" (.ref pc) (putF "_signs" (.ref psg) (putF "_operations" (.ref po) (putF "root_hook" (hookV L.hook) (putF "kept" (.ref pk) (putF "root_parameters" (.ref pa) (putF "name" (.str L.name) []))))))))) := upd_same
    have u8 : Keep a G9 (upd G9 a (.ins C dx (putF "_maker" (.ref pm) (putF "_changed" (.ref pc) (putF "_signs" (.ref psg) (putF "_operations" (.ref po) (putF "root_hook" (hookV L.hook) (putF "kept" (.ref pk) (putF "root_parameters" (.ref pa) (putF "name" (.str L.name) [])))))))))) := Keep.upd
    generalize upd G9 a (.ins C dx (putF "_maker" (.ref pm) (putF "_changed" (.ref pc) (putF "_signs" (.ref psg) (putF "_operations" (.ref po) (putF "root_hook" (hookV L.hook) (putF "kept" (.ref pk) (putF "root_parameters" (.ref pa) (putF "name" (.str L.name) []))))))))) = M8 at kk8 a8 u8
    have tpo : SqT K M8 po ots := keep_sqT u8 b9 (SqT.same s9 tpo)
    have tpa : SqT K M8 pa (L.ps.map V.str) := keep_sqT u8 b9 (SqT.same s9 tpa)
    have tpk : SqT K M8 pk kts := keep_sqT u8 b9 (SqT.same s9 tpk)
    have tps : SqT K M8 psg ((L.ops.map (fun z : Op => z.sign)).map V.str) := keep_sqT u8 b9 (SqT.same s9 tps)
    have hpc8 : M8 pc = some (.dK kvc) := u8 pc _ (ne_of (s9 _ _ hpc7) b9 (by intro q; cases q)) (s9 _ _ hpc7)
    have hpm8 : M8 pm = some (.dK kvm) := u8 pm _ (ne_of hpm b9 (by intro q; cases q)) hpm
    have hRc8 : ∀ (j : Nat) p, kvc[j]? = some p → ∃ o c, L.ops[j]? = some o ∧ p.2 = V.ref c ∧ M8 c = some (.tup (o.changed.map V.str)) := fun j p e => by
      obtain ⟨o, c, z1, z2, z3⟩ := hRc7 j p e
      exact ⟨o, c, z1, z2, keep_tup u8 b9 (s9 _ _ z3)⟩
    refine ⟨_, rfl, _, rfl, _, rfl, _, rfl, bt, p1, p2, L.name, L.ps, kts, L.kept, L.hook, rfl, keep_sqX kk8 ha h1, keep_sqX kk8 ha h2, hP.tups (fun t xs z => keep_tup kk8 ha z), sn, sp, sk, sh, by omega, by omega, fun pl G10 s10 npl hpl => ?_⟩
    have h3' : G10 p3 = some (.lst ots) := s10 _ _ (Kp.lst kk8 ha h3)
    have hO10 : OpsAt G10 ots L.ops := (hO.tups fun t xs z => keep_tup kk8 ha z).same s10
    refine ⟨_, rfl, .inl ⟨rfl, _, SqL.of hpl⟩, _, rfl, p3, rfl, ⟨_, SqL.of h3'⟩, fun D2 nD2 => ?_⟩
    refine lc_fm (walk_list (xs := ots)) (fun i => L.ops[i]?.map fun z => V.str (opLine z)) nD2 (by rw [hO.len]; omega) (fun _ s => SqL.of (s _ _ h3')) ?_ ?_
    · rintro j x G3 G4 NT NE hj s3 ⟨rfl, hx⟩ h0 h1
      have hj2 : j < L.ops.length := by rw [← hO.len]; exact hj
      obtain ⟨t', ht', c', hc1, hc2⟩ := hO10.op j _ (List.getElem?_eq_getElem hj2)
      rw [hx] at ht'
      cases ht'
      obtain ⟨q1, q2, q3, q4⟩ := so _ (List.getElem_mem hj2)
      refine ⟨t', _, rfl, SqT.of (s3 _ _ hc1), rfl, _, _, rfl, _, _, rfl, _, _, rfl, rfl, rfl, _, rfl, _, rfl, _, rfl, c', _, _, _, rfl, SqT.of (s3 _ _ hc2), q1, q2, q3, q4, fun H' s' => h1 _ _ ?_ s'⟩
      show L.ops[j]?.map _ = _
      rw [List.getElem?_eq_getElem hj2]
      rfl
    intro G11 s11 hD2
    rw [gath_map L.ops _ hO.len, show L.ops.map (fun z => V.str (opLine z)) = (L.ops.map opLine).map V.str by rw [List.map_map]; rfl] at hD2
    have hroot : (rootLines L.name L.ps L.kept L.hook).length ≤ 22 := by
      unfold rootLines
      simp only [List.length_append, List.length_map, List.length_cons, List.length_nil]
      cases L.hook <;> simp <;> omega
    refine ⟨pl, D2, _, _, rfl, rfl, s11 _ _ hpl, hD2, by rw [List.length_map, List.length_map, List.length_map, sizeLine_eq]; omega, ?_⟩
    have npl0 : M8 pl = none := npl
    have epl : upd G11 pl (.lst ((rootLines L.name L.ps L.kept L.hook).map V.str ++ (L.ops.map opLine).map V.str)) pl = some (.lst ((linesM L).map V.str)) := by
      rw [upd_same, ← List.map_append]
      rfl
    have s12 : Same M8 (upd G11 pl (.lst ((rootLines L.name L.ps L.kept L.hook).map V.str ++ (L.ops.map opLine).map V.str))) := same_upd' (s10.trans s11) npl0
    generalize upd G11 pl (.lst ((rootLines L.name L.ps L.kept L.hook).map V.str ++ (L.ops.map opLine).map V.str)) = G12 at epl s12
    refine ⟨⟨_, rfl⟩, _, rfl, _, pl, linesM L, rfl, rfl, .inl (SqL.of epl), ?_, ?_⟩
    · have el : ("
" : Str).length = 1 := by decide +kernel
      have q := sum_short (b := 200000) (lines_short sn sp sk sh so)
      have hln : (linesM L).length ≤ 32 := by
        unfold linesM
        rw [List.length_append, List.length_map]
        omega
      have : (linesM L).length * 200000 ≤ 32 * 200000 := Nat.mul_le_mul_right _ hln
      rw [el, Nat.mul_one]
      omega
    rw [join_eq, show Str.join ("\n" : Str) (linesM L) = textM L from rfl]
    refine ⟨_, rfl, a, C, dx, _, rfl, s12 _ _ a8, hC.cls, no _ (by simp), by omega, ?_⟩
    have kG12 : Keep a H G12 := kk8.trans (Keep.of s12)
    have b12 := s12 _ _ a8
    have l9 : (putF "_text" (.str (textM L)) (putF "_maker" (.ref pm) (putF "_changed" (.ref pc) (putF "_signs" (.ref psg) (putF "_operations" (.ref po) (putF "root_hook" (hookV L.hook) (putF "kept" (.ref pk) (putF "root_parameters" (.ref pa) (putF "name" (.str L.name) []))))))))).length ≤ 9 := Nat.le_trans (length_putF _ _ _) (Nat.succ_le_succ l8)
    have kk9 : Keep a H (upd G12 a (.ins C dx (putF "_text" (.str (textM L)) (putF "_maker" (.ref pm) (putF "_changed" (.ref pc) (putF "_signs" (.ref psg) (putF "_operations" (.ref po) (putF "root_hook" (hookV L.hook) (putF "kept" (.ref pk) (putF "root_parameters" (.ref pa) (putF "name" (.str L.name) []))))))))))) := kG12.trans Keep.upd
    have a9 : upd G12 a (.ins C dx (putF "_text" (.str (textM L)) (putF "_maker" (.ref pm) (putF "_changed" (.ref pc) (putF "_signs" (.ref psg) (putF "_operations" (.ref po) (putF "root_hook" (hookV L.hook) (putF "kept" (.ref pk) (putF "root_parameters" (.ref pa) (putF "name" (.str L.name) [])))))))))) a = some (.ins C dx (putF "_text" (.str (textM L)) (putF "_maker" (.ref pm) (putF "_changed" (.ref pc) (putF "_signs" (.ref psg) (putF "_operations" (.ref po) (putF "root_hook" (hookV L.hook) (putF "kept" (.ref pk) (putF "root_parameters" (.ref pa) (putF "name" (.str L.name) [])))))))))) := upd_same
    have u9 : Keep a G12 (upd G12 a (.ins C dx (putF "_text" (.str (textM L)) (putF "_maker" (.ref pm) (putF "_changed" (.ref pc) (putF "_signs" (.ref psg) (putF "_operations" (.ref po) (putF "root_hook" (hookV L.hook) (putF "kept" (.ref pk) (putF "root_parameters" (.ref pa) (putF "name" (.str L.name) []))))))))))) := Keep.upd
    generalize upd G12 a (.ins C dx (putF "_text" (.str (textM L)) (putF "_maker" (.ref pm) (putF "_changed" (.ref pc) (putF "_signs" (.ref psg) (putF "_operations" (.ref po) (putF "root_hook" (hookV L.hook) (putF "kept" (.ref pk) (putF "root_parameters" (.ref pa) (putF "name" (.str L.name) [])))))))))) = M9 at kk9 a9 u9
    have tpo : SqT K M9 po ots := keep_sqT u9 b12 (SqT.same s12 tpo)
    have tpa : SqT K M9 pa (L.ps.map V.str) := keep_sqT u9 b12 (SqT.same s12 tpa)
    have tpk : SqT K M9 pk kts := keep_sqT u9 b12 (SqT.same s12 tpk)
    have tps : SqT K M9 psg ((L.ops.map (fun z : Op => z.sign)).map V.str) := keep_sqT u9 b12 (SqT.same s12 tps)
    have e12 := s12 _ _ hpc8
    have f12 := s12 _ _ hpm8
    refine k M9 kk9 ⟨dx, pa, pk, po, psg, pc, pm, a9, ⟨tpa, ⟨kts, tpk, hP.tups (fun t xs z => keep_tup kk9 ha z)⟩, ⟨ots, tpo, hO.tups fun t xs z => keep_tup kk9 ha z⟩, tps, ⟨kvc, u9 pc _ (ne_of e12 b12 (by intro q; cases q)) e12, hkc, fun j p e => ?_⟩,
      ⟨kvm, u9 pm _ (ne_of f12 b12 (by intro q; cases q)) f12, hkm, hRm⟩⟩⟩
    obtain ⟨o, c, z1, z2, z3⟩ := hRc8 j p e
    exact ⟨o, c, z1, z2, keep_tup u9 b12 (s12 _ _ z3)⟩
end
end K03

namespace K03
open PySem PySem.Spec PyProof.Rows L2 EV TL LM
theorem RowsAt.nil {H : Hp} : RowsAt H [] [] := ⟨rfl, fun i k e => by simp at e⟩
theorem RowsAt.snoc {H : Hp} {us : List V} {rs : List Rw} {t : Addr} {r : Rw} (h : RowsAt H us rs) (ht : StrsAt H t r) : RowsAt H (us ++ [.ref t]) (rs ++ [r]) := by
  refine ⟨by rw [List.length_append, List.length_append, h.len]; rfl, fun i z e => ?_⟩
  by_cases hi : i < rs.length
  · rw [List.getElem?_append_left hi] at e
    rw [List.getElem?_append_left (by rw [h.len]; exact hi)]
    exact h.row i z e
  · rw [List.getElem?_append_right (Nat.le_of_not_lt hi)] at e
    have e0 : i - rs.length = 0 := by
      cases q : i - rs.length with
      | zero => rfl
      | succ j => rw [q] at e; simp at e
    rw [e0] at e
    obtain rfl : r = z := by simpa using e
    rw [List.getElem?_append_right (by rw [h.len]; exact Nat.le_of_not_lt hi), h.len, e0]
    exact ⟨t, rfl, ht⟩
theorem RowsAt.upd {H : Hp} {us : List V} {rs : List Rw} {D : Addr} {o : HO} (h : RowsAt H us rs) (n : ∀ v ∈ us, v ≠ .ref D) : RowsAt (L2.upd H D o) us rs :=
  ⟨h.len, fun i r e => by
    obtain ⟨a, z1, z2⟩ := h.row i r e
    have na : a ≠ D := fun q => n _ (List.mem_of_getElem? z1) (by rw [q])
    exact ⟨a, z1, by show L2.upd H D o a = _; rw [upd_ne na]; exact z2⟩⟩
section
variable {P : Program} {w : World} {K : Fg} {mg : Str → Option Value} {base : Heap}
def spRead (K : Fg) (C CB : Addr) : Sp := fun vs H Q E => ∃ z : Str, vs = [.ref C, .str z] ∧ z.length ≤ 1000000 ∧ PyData.strOk z = true ∧ (∀ k, readM z = .error k → Raised CB "at" (.int (k : Nat)) H E) ∧
  ∀ L, readM z = .ok L → ∀ a H', Same H H' → H a = none → LibAt K H' C a L → Q (.ref a) H'
theorem ok_read {f C CB : Addr} {fd : FuncData} (F : Fun K "read" "Library.read" s_Library_read f fd) (T : Cst K mg) (hC : LibC K C)
    (O_is_first_row : Ok P w K mg base 3 "_is_first_row" ["row"] (spRowB firstRow)) (O_is_hook_row : Ok P w K mg base 1 "_is_hook_row" ["row"] (spRowB hookRow))
    (O_parameters_of : Ok P w K mg base 4 "_parameters_of" ["rows"] spParams) (O_kept_of : Ok P w K mg base 4 "_kept_of" ["rows", "parameters"] (spKept K))
    (O_operations_of : OkX P w K mg base 6 "_operations_of" ["rows", "start", "parameters", "root_hook"] (spOps CB))
    (O_Library : OkI P w K mg base 3 "Library" C ["self", "name", "root_parameters", "kept", "root_hook", "operations"] (spInit K C))
    (O_BadLibrary : OkC P w K mg base 1 "BadLibrary" CB ["self", "at"] (spErr1 CB "at")) (ty_BadLibrary : PySem.W.typeIn K (.ref CB) = some (.type "type")) :
    FnOk P w K mg base (L2.CX P w) 7 f fd ["cls", "text"] (spRead K C CB) := by
  refine F.okX sc_Library_read (fun vs H Q E h => ?_) (fun cdv A outer s H vs Q E hr h => ?_)
  · obtain ⟨z, rfl, _⟩ := h
    rfl
  · obtain ⟨z, rfl, hz, ho, ke, ko⟩ := h
    refine ⟨_, (pss_cons (ps_if (pt_not (pt_val (pe_callB call_isi (by rfl) T.n_isinstance (by decide +kernel) (pa_cons (pv 1) (pa_cons (pe_bltn (v := .ty "str") rfl T.n_str (by decide +kernel) rfl) pa_nil))))) (pss_one (ps_raise rfl (takes_of rfl rfl rfl rfl) (pmk_x O_BadLibrary ty_BadLibrary (hr.mono (by decide)) (pa_cons (pe_un un_neg pe_int) pa_nil)))) pss_nil)
    (pss_cons (ps_setLc (i := 2) (own := [("line", 7)]) rfl sc_Library_read.nd rfl rfl (sw_true rfl rfl rfl (by decide +kernel)) (pi_list (pe_split (pv 1) pe_str)) (blkOk_by (own := [("line", 7)]) (N := ["cls", "text", "rows", "parameters", "at", "kept", "root_hook", "line"]) (sc := defScope s_Library_read) (by decide +kernel)) (fun _ _ _ _ _ => (pg_name (i := 7) sc_Library_read.nd rfl (Or.inl rfl))) (fun _ _ _ _ _ => pts_nil) (fun _ _ _ _ _ => (pe_split (pv 7) pe_str)))
    (pss_cons (ps_if (pt_not (pt_val (pe_callO O_is_first_row (hr.mono (by decide)) (pa_cons (pe_ix ix_list (pv 2) pe_int (fun _ _ => rfl)) pa_nil)))) (pss_one (ps_raise rfl (takes_of rfl rfl rfl rfl) (pmk_x O_BadLibrary ty_BadLibrary (hr.mono (by decide)) (pa_cons pe_int pa_nil)))) pss_nil)
    (pss_cons (ps_set (i := 3) sc_Library_read.nd rfl (Or.inl rfl) (pe_callO O_parameters_of (hr.mono (by decide)) (pa_cons (pe_slice sl_list (pv 2) (po_some pe_int) (po_some (pe_op op_add pe_int (pe_gv T.g_MOST_PARAMETERS)))) pa_nil)))
    (pss_cons (ps_if (pt_not (pt_truth (pv 3) (by intro _; rfl))) (pss_one (ps_raise rfl (takes_of rfl rfl rfl rfl) (pmk_x O_BadLibrary ty_BadLibrary (hr.mono (by decide)) (pa_cons pe_int pa_nil)))) pss_nil)
    (pss_cons (ps_set (i := 4) sc_Library_read.nd rfl (Or.inl rfl) (pe_op op_add pe_int (pe_callB call_len_seq (by rfl) T.n_len (by decide +kernel) (pa_cons (pv 3) pa_nil))))
    (pss_cons (ps_set (i := 5) sc_Library_read.nd rfl (Or.inl rfl) (pe_callO O_kept_of (hr.mono (by decide)) (pa_cons (pe_slice sl_list (pv 2) (po_some (pv 4)) (po_some (pe_op op_add (pv 4) (pe_gv T.g_MOST_KEPT)))) (pa_cons (pv 3) pa_nil))))
    (pss_cons (ps_set (i := 4) sc_Library_read.nd rfl (Or.inl rfl) (pe_op op_add (pv 4) (pe_callB call_len_seq (by rfl) T.n_len (by decide +kernel) (pa_cons (pv 5) pa_nil))))
    (pss_cons (ps_set (i := 6) sc_Library_read.nd rfl (Or.inl rfl) pe_non)
    (pss_cons (ps_mid (ps_if (PW.pt (pw_and (pt_cmpR op_lt (pv 4) (pe_callB call_len_seq (by rfl) T.n_len (by decide +kernel) (pa_cons (pv 2) pa_nil)) (nomark _)) (pw_and1 (pt_val (pe_callO O_is_hook_row (hr.mono (by decide)) (pa_cons (pe_ix ix_list (pv 2) (pv 4) (fun _ _ => rfl)) pa_nil)))))) (pss_cons (ps_set (i := 6) sc_Library_read.nd rfl (Or.inl rfl) (pe_ix ix_list (pe_ix ix_list (pv 2) (pv 4) (fun _ _ => rfl)) pe_int (fun _ _ => rfl)))
    (pss_one (ps_set (i := 4) sc_Library_read.nd rfl (Or.inl rfl) (pe_op op_add (pv 4) pe_int)))) pss_nil))
    (pss_one (ps_ret (pe_makeV O_Library (hr.mono (by decide)) (pv 0) (pa_cons (pe_ix ix_list (pe_ix ix_list (pv 2) pe_int (fun _ _ => rfl)) pe_int (fun _ _ => rfl)) (pa_cons (pv 3) (pa_cons (pv 5) (pa_cons (pv 6) (pa_cons (pe_callX (takes_of rfl rfl rfl rfl) O_operations_of (hr.mono (by decide)) (pa_cons (pv 2) (pa_cons (pv 4) (pa_cons (pv 3) (pa_cons (pv 6) pa_nil))))) pa_nil)))))))))))))))))), ?_⟩
    obtain ⟨hB, hl, hne⟩ := rows_ok hz ho
    have er : readM z = readRows (rowsM z) := rfl
    refine ⟨_, rfl, _, _, _, _, true, rfl, .ty "str", .base (.str z), kit_ty (by decide +kernel), _, rfl, iteF ?_⟩
    refine ⟨_, rfl, ⟨_, rfl⟩, z, _, rfl, rfl, by decide +kernel, by rw [sizeLine_eq]; omega, fun p np => ⟨p, rfl, ⟨_, SqL.of upd_same⟩, fun D nD => ?_⟩⟩
    have hp : upd H p (.lst ((Txt.split z "
").map V.str)) p = some (.lst ((Txt.split z "
").map V.str)) := upd_same
    have s1 : Same H (upd H p (.lst ((Txt.split z "
").map V.str))) := same_upd np
    generalize upd H p (.lst ((Txt.split z "
").map V.str)) = G1 at hp s1 nD
    have hq1 := split_len tl_nl nl_all z
    refine lc_it (walk_list (xs := (Txt.split z "
").map V.str)) (fun i G => Same G1 G ∧ ∃ us, G D = some (.lst us) ∧ RowsAt G us ((rowsM z).take i) ∧ ∀ v ∈ us, v ≠ V.ref D) ⟨same_upd nD, [], upd_same, RowsAt.nil, fun v hv => by cases hv⟩ (fun i G _ q => SqL.of (q.1 _ _ hp)) ?_ ?_
    · rintro i x G2 G3 hi ⟨s2, us, hD, hR, hn⟩ ⟨rfl, hx⟩
      obtain ⟨l, hl2, rfl⟩ : ∃ l, (Txt.split z "
")[i]? = some l ∧ V.str l = x := by
        rw [List.getElem?_map] at hx
        cases e : (Txt.split z "
")[i]? with
        | none => rw [e] at hx; cases hx
        | some l => rw [e] at hx; exact ⟨l, rfl, by injection hx⟩
      have hll := le_sum _ l (List.mem_of_getElem? hl2)
      have eri : (rowsM z)[i]? = some (Txt.split l " ") := by
        unfold rowsM
        rw [List.getElem?_map, hl2]
        rfl
      have ul : us.length ≤ 1000001 := by rw [hR.len, List.length_take]; omega
      refine ⟨rfl, _, rfl, ⟨_, rfl⟩, l, _, rfl, rfl, by decide +kernel, by rw [sizeLine_eq]; omega, fun q nq => ⟨us, same_upd nq _ _ hD, by rw [sizeLine_eq]; omega, ?_⟩⟩
      have qD : q ≠ D := fun e => by rw [e, hD] at nq; cases nq
      refine ⟨same_upd' (s2.trans (same_upd nq)) nD, us ++ [.ref q], upd_same, ?_, ?_⟩
      · rw [List.take_succ, eri]
        refine RowsAt.upd (RowsAt.snoc (hR.same (same_upd nq)) upd_same) fun v hv => ?_
        rcases List.mem_append.mp hv with hv | hv
        · exact hn v hv
        · rw [List.mem_singleton.mp hv]
          exact fun e => qD (by injection e)
      · intro v hv
        rcases List.mem_append.mp hv with hv | hv
        · exact hn v hv
        · rw [List.mem_singleton.mp hv]
          exact fun e => qD (by injection e)
    rintro G2 ⟨s2, us, hD, hR, hn⟩
    rw [List.length_map, List.take_of_length_le (by unfold rowsM; rw [List.length_map]; exact Nat.le_refl _)] at hR
    have sG2 : Same H G2 := s1.trans s2
    clear hp s1 s2 hn nD
    generalize hrows : rowsM z = rows at er hB hl hne hR
    obtain ⟨r0, rest, rfl⟩ : ∃ r rest, rows = r :: rest := by
      match rows, hne with
      | r :: rest, _ => exact ⟨r, rest, rfl⟩
    obtain ⟨a0, hu0, hs0⟩ := hR.row 0 r0 rfl
    have hB0 := (hB r0 (List.mem_cons_self ..)).1
    refine ⟨_, rfl, D, us, ((0 : Nat) : Int), .ref a0, rfl, rfl, SqL.of hD, atI_nat hu0, a0, r0, rfl, hs0, hB0, fun G3 s3 => ⟨_, rfl, ?_⟩⟩
    cases e1 : firstRow r0 with
    | false => exact iteT ⟨by show 1 ≤ 1000; decide, fun a9 na => ⟨G3, a9, _, rfl, rfl, na, fun H' d9 s9 nd ha hd => ⟨rfl, d9, _, ha, hd, nd, ke 0 (by rw [er]; unfold readRows; rw [show (r0 :: rest).headD [] = r0 from rfl, e1]; rfl) d9 _ ((sG2.trans s3).trans (same_raise s9 na nd)) upd_same⟩⟩⟩
    | true =>
      refine iteF ?_
      have er2 : readM z = if (paramsM (((r0 :: rest).drop 1).take 3) []).isEmpty = true then .error 1 else
          match opsOf (r0 :: rest) (if (hookAt (r0 :: rest) (1 + (paramsM (((r0 :: rest).drop 1).take 3) []).length + (keptM (((r0 :: rest).drop (1 + (paramsM (((r0 :: rest).drop 1).take 3) []).length)).take 2) (paramsM (((r0 :: rest).drop 1).take 3) []) []).length)).isSome = true
              then 1 + (paramsM (((r0 :: rest).drop 1).take 3) []).length + (keptM (((r0 :: rest).drop (1 + (paramsM (((r0 :: rest).drop 1).take 3) []).length)).take 2) (paramsM (((r0 :: rest).drop 1).take 3) []) []).length + 1
              else 1 + (paramsM (((r0 :: rest).drop 1).take 3) []).length + (keptM (((r0 :: rest).drop (1 + (paramsM (((r0 :: rest).drop 1).take 3) []).length)).take 2) (paramsM (((r0 :: rest).drop 1).take 3) []) []).length)
            (paramsM (((r0 :: rest).drop 1).take 3) []) (hookAt (r0 :: rest) (1 + (paramsM (((r0 :: rest).drop 1).take 3) []).length + (keptM (((r0 :: rest).drop (1 + (paramsM (((r0 :: rest).drop 1).take 3) []).length)).take 2) (paramsM (((r0 :: rest).drop 1).take 3) []) []).length)) with
          | .error k => .error k
          | .ok ops => .ok ⟨r0.getD 1 "", paramsM (((r0 :: rest).drop 1).take 3) [], keptM (((r0 :: rest).drop (1 + (paramsM (((r0 :: rest).drop 1).take 3) []).length)).take 2) (paramsM (((r0 :: rest).drop 1).take 3) []) [],
              hookAt (r0 :: rest) (1 + (paramsM (((r0 :: rest).drop 1).take 3) []).length + (keptM (((r0 :: rest).drop (1 + (paramsM (((r0 :: rest).drop 1).take 3) []).length)).take 2) (paramsM (((r0 :: rest).drop 1).take 3) []) []).length), ops⟩ := by
        rw [er]
        unfold readRows
        rw [show (r0 :: rest).headD [] = r0 from rfl, e1]
        rfl
      obtain ⟨gp1, gp2⟩ := params_good (((r0 :: rest).drop 1).take 3) [] (fun f hf => by cases hf)
      refine ⟨_, rfl, 1, rfl, _, _, rfl, rfl, _, rfl, D, us, rfl, SqL.of (s3 _ _ hD), fun c nc => ?_⟩
      have ec : upd G3 c (.lst (cutV us (some 1) (some (1 + 3)))) c = some (.lst ((us.drop 1).take 3)) := by
        rw [upd_same, show cutV us (some 1) (some (1 + 3)) = (us.take 4).drop 1 from cut_to us 1 4, List.drop_take]
      have s4 : Same G2 (upd G3 c (.lst (cutV us (some 1) (some (1 + 3))))) := s3.trans (same_upd nc)
      generalize upd G3 c (.lst (cutV us (some 1) (some (1 + 3)))) = G4 at ec s4
      refine ⟨c, _, _, rfl, ec, ((hR.same s4).drop 1).take 3, (fun r hr => (hB r (List.mem_of_mem_drop (List.mem_of_mem_take hr))).1), by rw [List.length_take]; omega, fun pp G5 s5 npp hpp => ?_⟩
      generalize hps : paramsM (((r0 :: rest).drop 1).take 3) [] = ps at er2 gp1 gp2 hpp
      have s25 := s4.trans s5
      refine ⟨_, rfl, _, .inl ⟨_, SqL.of hpp, rfl⟩, ?_⟩
      cases ep : ps with
      | nil => exact iteT ⟨by show 1 ≤ 1000; decide, fun a9 na => ⟨G5, a9, _, rfl, rfl, na, fun H' d9 s9 nd ha hd => ⟨rfl, d9, _, ha, hd, nd, ke 1 (by rw [er2, ep]; rfl) d9 _ ((sG2.trans s25).trans (same_raise s9 na nd)) upd_same⟩⟩⟩
      | cons p0 pr =>
      rw [← ep]
      have hne : ps.isEmpty = false := by rw [ep]; rfl
      rw [hne, if_neg Bool.false_ne_true] at er2
      rw [show (!!(List.map V.str ps).isEmpty) = false by rw [ep]; rfl]
      refine iteF ?_
      have lps : ps.length ≤ 3 := by
        rw [List.length_take] at gp2
        simp at gp2
        omega
      have lps2 : 1 + ps.length ≤ (r0 :: rest).length := by
        rw [List.length_take, List.length_drop] at gp2
        simp at gp2 ⊢
        omega
      refine ⟨_, rfl, pp, _, rfl, .inl (SqL.of hpp), 1, ((ps.length : Nat) : Int), rfl, by rw [List.length_map], ?_⟩
      have hD5 := s25 _ _ hD
      refine ⟨_, rfl, _, rfl, _, rfl, _, rfl, _, _, rfl, rfl, _, rfl, D, us, rfl, SqL.of hD5, fun c2 nc2 => ?_⟩
      have ec2 : upd G5 c2 (.lst (cutV us (some (1 + ((ps.length : Nat) : Int))) (some (1 + ((ps.length : Nat) : Int) + 2)))) c2 = some (.lst ((us.drop (1 + ps.length)).take 2)) := by
        rw [upd_same, show cutV us (some (1 + ((ps.length : Nat) : Int))) (some (1 + ((ps.length : Nat) : Int) + 2)) = (us.take (1 + ps.length + 2)).drop (1 + ps.length) from cut_to us (1 + ps.length) (1 + ps.length + 2), List.drop_take,
          show 1 + ps.length + 2 - (1 + ps.length) = 2 by omega]
      have s26 : Same G2 (upd G5 c2 (.lst (cutV us (some (1 + ((ps.length : Nat) : Int))) (some (1 + ((ps.length : Nat) : Int) + 2))))) := s25.trans (same_upd nc2)
      have s56 : Same G5 (upd G5 c2 (.lst (cutV us (some (1 + ((ps.length : Nat) : Int))) (some (1 + ((ps.length : Nat) : Int) + 2))))) := same_upd nc2
      generalize upd G5 c2 (.lst (cutV us (some (1 + ((ps.length : Nat) : Int))) (some (1 + ((ps.length : Nat) : Int) + 2)))) = G6 at ec2 s26 s56
      refine ⟨_, rfl, c2, pp, _, _, ps, rfl, ec2, ((hR.same s26).drop (1 + ps.length)).take 2, (fun r hr => (hB r (List.mem_of_mem_drop (List.mem_of_mem_take hr))).1), by rw [List.length_take]; omega, SqL.of (s56 _ _ hpp), by omega, fun pk kts G7 s7 npk hpk hP => ?_⟩
      obtain ⟨gk1, gk2⟩ := kept_good (((r0 :: rest).drop (1 + ps.length)).take 2) ps [] (fun f hf => sh_field (gp1 f hf)) (fun q hq => by cases hq)
      generalize hkept : keptM (((r0 :: rest).drop (1 + ps.length)).take 2) ps [] = kept at er2 gk1 gk2 hP
      have lk2 : kept.length ≤ 2 := by
        rw [List.length_take] at gk2
        simp at gk2
        omega
      have lk3 : 1 + ps.length + kept.length ≤ (r0 :: rest).length := by
        rw [List.length_take, List.length_drop] at gk2
        simp at gk2 lps2 ⊢
        omega
      have s27 := s26.trans s7
      refine ⟨_, rfl, _, rfl, pk, _, rfl, .inl (SqL.of hpk), ((1 + ps.length : Nat) : Int), ((kept.length : Nat) : Int), rfl, by rw [hP.len], ?_⟩
      refine ⟨fun σ' G' => Same G7 G' ∧ σ' = [some (.ref C), some (.str z), some (.ref D), some (.ref pp), some (.int (((if (hookAt (r0 :: rest) (1 + ps.length + kept.length)).isSome = true then 1 + ps.length + kept.length + 1 else 1 + ps.length + kept.length) : Nat) : Int)),
          some (.ref pk), some (hookV (hookAt (r0 :: rest) (1 + ps.length + kept.length))), none], ?_, ?_⟩
      · have hD7 := s27 _ _ hD
        refine ⟨_, rfl, _, rfl, D, _, rfl, .inl (SqL.of hD7), ((1 + ps.length + kept.length : Nat) : Int), ((us.length : Nat) : Int), rfl, rfl, _, rfl, ite2 (fun h1 => ?_) (fun h1 => ?_)⟩
        · have h1' : 1 + ps.length + kept.length < (r0 :: rest).length := by
            have := of_decide_eq_true h1
            rw [hR.len] at this
            omega
          have erow : (r0 :: rest)[1 + ps.length + kept.length]? = some (r0 :: rest)[1 + ps.length + kept.length] := List.getElem?_eq_getElem h1'
          obtain ⟨a, hua, hs⟩ := hR.row _ _ erow
          have hBr := (hB _ (List.getElem_mem h1')).1
          generalize (r0 :: rest)[1 + ps.length + kept.length] = r at erow hs hBr
          have hs7 := s27 _ _ hs
          refine ⟨_, rfl, _, rfl, D, us, ((1 + ps.length + kept.length : Nat) : Int), .ref a, rfl, rfl, SqL.of hD7, atI_nat hua, a, r, rfl, hs7, hBr, fun G8 s8 => ⟨_, rfl, ?_⟩⟩
          cases eh : hookRow r with
          | false =>
            have eK : hookAt (r0 :: rest) (1 + ps.length + kept.length) = none := by
              unfold hookAt
              rw [erow]
              show (if hookRow r = true then _ else _) = _
              rw [if_neg (by rw [eh]; exact Bool.false_ne_true)]
            rw [eK]
            exact iteF ⟨s8, rfl⟩
          | true =>
            obtain ⟨x, y, rfl⟩ : ∃ x y, r = [x, y] := by
              unfold hookRow at eh
              split at eh
              · exact ⟨_, _, rfl⟩
              · cases eh
            have eK : hookAt (r0 :: rest) (1 + ps.length + kept.length) = some y := by
              unfold hookAt
              rw [erow]
              show (if hookRow [x, y] = true then some y else _) = _
              rw [if_pos eh]
            rw [eK]
            exact iteT ⟨_, rfl, _, rfl, D, us, ((1 + ps.length + kept.length : Nat) : Int), .ref a, rfl, rfl, SqL.of (s8 _ _ hD7), atI_nat hua, a, _, ((1 : Nat) : Int), _, rfl, rfl, SqL.of (s8 _ _ hs7), at_str (i := 1) rfl, _, rfl, _, _, rfl, rfl, s8, rfl⟩
        · have h1' : (r0 :: rest)[1 + ps.length + kept.length]? = none := by
            rw [List.getElem?_eq_none_iff]
            have : ¬ (((1 + ps.length + kept.length : Nat) : Int) < ((us.length : Nat) : Int)) := fun q => h1 (decide_eq_true q)
            rw [hR.len] at this
            omega
          have eK : hookAt (r0 :: rest) (1 + ps.length + kept.length) = none := by
            unfold hookAt
            rw [h1']
          rw [eK]
          exact iteF ⟨Same.refl _, rfl⟩
      · rintro σ' G8 ⟨s8, rfl⟩
        have s28 := s27.trans s8
        have sH8 := sG2.trans s28
        have hD8 := s28 _ _ hD
        obtain ⟨x0, n0, rfl⟩ : ∃ x0 n0, r0 = [x0, n0] := by
          unfold firstRow at e1
          split at e1
          · exact ⟨_, _, rfl⟩
          · cases e1
        have cn : className n0 = true := by
          have q : (x0 == ("library" : Str) && className n0) = true := e1
          rw [Bool.and_eq_true] at q
          exact q.2
        generalize hHK : hookAt ([x0, n0] :: rest) (1 + ps.length + kept.length) = HK at er2
        have shk : ∀ h, HK = some h → Short h := by
          intro h e
          rw [e] at hHK
          unfold hookAt at hHK
          split at hHK
          · rename_i rr _
            split at hHK
            · rename_i c
              injection hHK with hHK
              unfold hookRow at c
              split at c
              · rw [Bool.and_eq_true] at c
                have q := sh_hooks _ (List.contains_iff_mem.mp c.2)
                rw [← hHK]
                exact q
              · cases c
            · cases hHK
          · cases hHK
        have lat : (if HK.isSome = true then 1 + ps.length + kept.length + 1 else 1 + ps.length + kept.length) ≤ ([x0, n0] :: rest).length := by
          cases HK with
          | none => exact lk3
          | some h =>
            show 1 + ps.length + kept.length + 1 ≤ _
            unfold hookAt at hHK
            split at hHK
            · rename_i rr e
              exact (List.getElem?_eq_some_iff.mp e).1
            · cases hHK
        generalize (if HK.isSome = true then 1 + ps.length + kept.length + 1 else 1 + ps.length + kept.length) = at3 at er2 lat
        have hpp8 : StrsAt G8 pp ps := s8 _ _ (s7 _ _ (s56 _ _ hpp))
        refine ⟨_, rfl, rfl, _, rfl, D, us, ((0 : Nat) : Int), .ref a0, rfl, rfl, SqL.of hD8, atI_nat hu0, a0, _, ((1 : Nat) : Int), _, rfl, rfl, SqL.of (s28 _ _ hs0), at_str (i := 1) rfl, _, rfl, _, rfl, _, rfl, _, rfl, _, rfl, _, rfl, _, rfl,
          D, pp, us, _, at3, ps, HK, rfl, hD8, hR.same s28, hB, by omega, lat, hpp8, by omega, (fun q hq => strOk_field (gp1 q hq)), (fun k e d H' s9 hx => ke k (by rw [er2, e]) d H' (sH8.trans s9) hx), fun ops eo po ots G9 s9 npo hpo hO9 x dx nx ndx nex => ?_⟩
        have eL : readM z = .ok ⟨n0, ps, kept, HK, ops⟩ := by rw [er2, eo]; rfl
        have sH9 := sH8.trans s9
        have nx2 : upd G9 dx (.own x) x = none := by rw [upd_ne (Ne.symm nex)]; exact nx
        have s910 : Same G9 (upd (upd G9 dx (.own x)) x (.ins C dx [])) := (same_upd ndx).trans (same_upd nx2)
        have hg : (∀ o ∈ ops, OpGood ps o) ∧ (ops.map (·.sign)).Nodup ∧ ops.length ≤ 6 := by
          unfold opsOf at eo
          split at eo
          · cases eo
          · exact ops_good _ _ [] ops eo (fun o ho => by cases ho) (by simp) (by simp)
        refine ⟨false, x, dx, pp, pk, po, ⟨n0, ps, kept, HK, ops⟩, kts, ots, rfl, upd_same, SqL.of (s910 _ _ (s9 _ _ hpp8)), SqL.of (s910 _ _ (s9 _ _ (s8 _ _ hpk))), hP.same ((s8.trans s9).trans s910), s910 _ _ hpo, hO9.same s910, hg.2.1,
          sh_class cn, (fun q hq => sh_field (gp1 q hq)), gk1, shk, by show ps.length ≤ 10; omega, by show kept.length ≤ 10; omega, by show ops.length ≤ 10; omega, ?_, fun H' kp lib => ⟨rfl, ko _ eL x H' (same_keep (sH9.trans s910) (sH9.free nx) kp) (sH9.free nx) lib⟩⟩
        intro o ho
        have g := hg.1 o ho
        exact ⟨g.sign, g.maker, fun q hq => sh_field (gp1 q (g.sub q hq)), by have := g.len; omega⟩
end
end K03

namespace K03
open PySem PySem.Spec PyProof.Rows L2 EV
/-! ### the bag of draws -/
/-- the bag at b: digits, a mixed number, a cell -/
def BagAt (H : Hp) (b : Addr) : Prop := ∃ d m c : Int, H b = some (.lst [.int d, .int m, .int c]) ∧ 0 ≤ d ∧ 0 ≤ m ∧ m < 4294967296 ∧ 0 ≤ c ∧ c < 1000000000000000000
theorem BagAt.same {H H' : Hp} {b : Addr} (h : BagAt H b) (s : Same H H') : BagAt H' b := by
  obtain ⟨d, q, c, h1, h2⟩ := h
  exact ⟨d, q, c, s _ _ h1, h2⟩
theorem BagAt.ne {H : Hp} {b a : Addr} (h : BagAt H b) (n : H a = none) : a ≠ b := fun e => by
  obtain ⟨_, _, _, y, _⟩ := h
  rw [e, y] at n
  cases n
def spTake : Sp := fun vs H Q _ => ∃ (b : Addr) (many : Int), vs = [.ref b, .int many] ∧ BagAt H b ∧ 0 < many ∧ many.natAbs < 2 ^ 200 ∧
  ∀ (r : Int) (H' : Hp), 0 ≤ r → r < many → Keep b H H' → BagAt H' b → Q (.int r) H'
section
variable {P : Program} {w : World} {K : Fg} {mg : Str → Option Value} {base : Heap}
theorem pow2n (i : Int) (h : i.natAbs < 9223372036854775808) : i.natAbs < 2 ^ 64 := Nat.lt_of_lt_of_le h (by decide)
theorem ok_law_take {f : Addr} {fd : FuncData} (F : Fun K "_law_take" "_law_take" s_law_take f fd) (T : Cst K mg) : FnOk P w K mg base CX0 1 f fd ["bag", "many"] spTake := by
  refine F.ok sc_law_take (fun vs H Q E h => ?_) (fun cdv A outer s H vs Q E hr h => ?_)
  · obtain ⟨b, many, rfl, _⟩ := h
    rfl
  · obtain ⟨b, many, rfl, ⟨d, m, c, hb, d0, m0, m1, c0, cn⟩, h0, h200, k⟩ := h
    refine ⟨_, (pss_cons (ps_if (pt_cmpR op_gt (pe_ix ix_list (pv 0) pe_int (fun _ _ => rfl)) pe_int (nomark _)) (pss_cons (ps_set (i := 2) sc_law_take.nd rfl (Or.inl rfl) (pe_op op_mod (pe_callTy call_int1 (by rfl) T.n_int (by decide +kernel) (pa_cons (pe_ix ix_list (pv 0) pe_int (fun _ _ => rfl)) pa_nil)) (pv 1)))
    (pss_cons (ps_asg (pe_op op_fdivW (pe_ix ix_list (pv 0) pe_int (fun _ _ => rfl)) (pv 1)) (pg_sub (pv 0) pe_int set_list))
    (pss_one (ps_ret (pv 2))))) pss_nil)
    (pss_cons (ps_asg (pe_op op_mod (pe_callTy call_int1 (by rfl) T.n_int (by decide +kernel) (pa_cons (pe_op op_add (pe_op op_add (pe_op op_mul (pe_ix ix_list (pv 0) pe_int (fun _ _ => rfl)) pe_int) (pe_ix ix_list (pv 0) pe_int (fun _ _ => rfl))) pe_int) pa_nil)) pe_int) (pg_sub (pv 0) pe_int set_list))
    (pss_one (ps_ret (pe_op op_mod (pe_op op_fdiv (pe_op op_mod (pe_callTy call_int1 (by rfl) T.n_int (by decide +kernel) (pa_cons (pe_op op_add (pe_op op_mul (pe_op op_fdiv (pe_ix ix_list (pv 0) pe_int (fun _ _ => rfl)) pe_int) pe_int) (pe_ix ix_list (pv 0) pe_int (fun _ _ => rfl))) pa_nil)) pe_int) pe_int) (pv 1)))))), ?_⟩
    refine ⟨_, rfl, b, _, 0, _, rfl, rfl, SqL.of hb, rfl, _, _, rfl, rfl, _, rfl, ?_⟩
    refine ite2 (fun hd => ?_) (fun hd => ?_)
    · have hd' : 0 < d := of_decide_eq_true hd
      refine ⟨_, rfl, b, _, 0, _, rfl, rfl, SqL.of hb, rfl, .inl ⟨_, rfl, _, rfl, _, _, rfl, rfl, h0, ?_⟩⟩
      refine ⟨_, rfl, b, _, 0, _, rfl, rfl, SqL.of hb, rfl, _, rfl, _, _, rfl, rfl, wide_div h0 h200 (by decide) (by decide), ?_⟩
      refine ⟨_, rfl, b, _, 0, 0, rfl, rfl, hb, rfl, ?_⟩
      refine ⟨_, rfl, k _ _ (Int.emod_nonneg _ (by omega)) (Int.emod_lt_of_pos _ h0) Keep.upd ⟨d / many, m, c, upd_same, Int.ediv_nonneg d0 (by omega), m0, m1, c0, cn⟩⟩
    · refine ⟨_, rfl, b, _, 1, _, rfl, rfl, SqL.of hb, rfl, _, _, rfl, rfl, .inl ⟨by omega, by omega⟩, _, rfl, b, _, 2, _, rfl, rfl, SqL.of hb, rfl, _, _, rfl, rfl, _, _, rfl, rfl, .inl ⟨_, rfl, _, _, rfl, rfl, by show (0 : Int) < 2147483587; decide, ?_⟩⟩
      refine ⟨_, rfl, b, _, 1, 1, rfl, rfl, hb, rfl, ?_⟩
      have z0 := Int.emod_nonneg (m * 39373 + c + 12347) (show (2147483587 : Int) ≠ 0 by decide)
      have z1 := Int.emod_lt_of_pos (m * 39373 + c + 12347) (show (0 : Int) < 2147483587 by decide)
      have hb1 : upd H b (.lst ([V.int d, .int m, .int c].set 1 (.int ((m * 39373 + c + 12347) % 2147483587)))) b = some (.lst [.int d, .int ((m * 39373 + c + 12347) % 2147483587), .int c]) := upd_same
      refine ⟨_, rfl, b, _, 1, _, rfl, rfl, SqL.of hb1, rfl, _, _, rfl, rfl, ⟨by decide, by decide⟩, _, _, rfl, rfl, .inl ⟨by omega, by omega⟩, _, rfl, b, _, 2, _, rfl, rfl, SqL.of hb1, rfl, _, _, rfl, rfl,
        .inl ⟨_, rfl, _, _, rfl, rfl, by show (0 : Int) < 2147483629; decide, _, _, rfl, rfl, ⟨by decide, by decide⟩, _, rfl, _, _, rfl, rfl, h0, ?_⟩⟩
      exact k _ _ (Int.emod_nonneg _ (by omega)) (Int.emod_lt_of_pos _ h0) Keep.upd ⟨d, _, c, upd_same, d0, z0, by omega, c0, cn⟩
def spBag (K : Fg) : Sp := fun vs H Q _ => ∃ (a : Addr) (ns : List Int) (i salt : Nat), vs = [.ref a, .int (i : Nat), .int (salt : Nat)] ∧ SqL K H a (ns.map V.int) ∧ i ≤ 63 ∧ salt ≤ 100000 ∧
  ∀ (b : Addr) (H' : Hp), H b = none → Same H H' → BagAt H' b → Q (.ref b) H'
theorem cut_take (xs : List V) (k : Nat) : cutV xs none (some (k : Int)) = xs.take k := by
  unfold cutV
  rw [HT.sIx_nat, HT.sIx_none, List.drop_zero, Nat.sub_zero]
  rcases Nat.lt_or_ge xs.length k with h | h
  · rw [Nat.min_eq_right (Nat.le_of_lt h), List.take_of_length_le (Nat.le_refl _), List.take_of_length_le (Nat.le_of_lt h)]
  · rw [Nat.min_eq_left h]
theorem at_ints {ns : List Int} {i : Nat} (h : i < ns.length) : ∃ z, atI (ns.map V.int) (i : Int) = some (V.int z) := ⟨ns[i], atI_nat (by rw [List.getElem?_map, List.getElem?_eq_getElem h]; rfl)⟩
theorem ok_law_bag {f : Addr} {fd : FuncData} (F : Fun K "_law_bag" "_law_bag" s_law_bag f fd) (T : Cst K mg) : FnOk P w K mg base CX0 1 f fd ["script", "at", "salt"] (spBag K) := by
  refine F.ok sc_law_bag (fun vs H Q E h => ?_) (fun cdv A outer s H vs Q E hr h => ?_)
  · obtain ⟨a, ns, i, salt, rfl, _⟩ := h
    rfl
  · obtain ⟨a, ns, i, salt, rfl, hS, i3, hsalt, k⟩ := h
    refine ⟨_, (pss_cons (ps_set (i := 3) sc_law_bag.nd rfl (Or.inl rfl) (pe_mid (pe_ifExp (pt_cmpR op_lt (pv 1) (pe_callB call_len_seq (by rfl) T.n_len (by decide +kernel) (pa_cons (pv 0) pa_nil)) (nomark _)) (pe_ix ix_list (pv 0) (pv 1) (fun _ _ => rfl)) pe_int)))
    (pss_cons (ps_set (i := 4) sc_law_bag.nd rfl (Or.inl rfl) (pe_op op_add (pv 2) (pe_op op_mul pe_int (pv 1))))
    (pss_cons (ps_for PassesOwn.never rfl (pi_enum (by rfl) T.n_enumerate (pa_cons (pe_slice sl_list (pv 0) po_none (po_some pe_int)) pa_nil)) (pg_tup rfl (pgs_cons (pg_name (i := 5) sc_law_bag.nd rfl (Or.inl rfl)) (pgs_cons (pg_name (i := 6) sc_law_bag.nd rfl (Or.inl rfl)) pgs_nil))) (pss_one (ps_set (i := 4) sc_law_bag.nd rfl (Or.inl rfl) (pe_op op_mod (pe_callTy call_int1 (by rfl) T.n_int (by decide +kernel) (pa_cons (pe_op op_add (pe_op op_add (pe_op op_mul (pv 4) pe_int) (pe_op op_mod (pe_callTy call_int1 (by rfl) T.n_int (by decide +kernel) (pa_cons (pv 6) pa_nil)) pe_int)) (pe_op op_mul pe_int (pv 5))) pa_nil)) pe_int))))
    (pss_cons (ps_if (pt_cmpR op_ge (pe_callB call_abs (by rfl) T.n_abs (by decide +kernel) (pa_cons (pv 3) pa_nil)) (pe_op op_pow pe_int pe_int) (nomark _)) (pss_one (ps_ret (pe_lst (pa_cons (pe_callB call_abs (by rfl) T.n_abs (by decide +kernel) (pa_cons (pv 3) pa_nil)) (pa_cons (pv 4) (pa_cons pe_int pa_nil)))))) pss_nil)
    (pss_one (ps_ret (pe_lst (pa_cons pe_int (pa_cons (pv 4) (pa_cons (pe_callB call_abs (by rfl) T.n_abs (by decide +kernel) (pa_cons (pv 3) pa_nil)) pa_nil)))))))))), ?_⟩
    refine ⟨fun v H1 => (∃ z : Int, v = .int z) ∧ H = H1, ⟨_, rfl, _, rfl, a, _, rfl, .inl hS, _, _, rfl, rfl, _, rfl, ite2 (fun hd => ?_) (fun hd => ⟨⟨_, rfl⟩, rfl⟩)⟩, ?_⟩
    · have hd' := of_decide_eq_true hd
      rw [List.length_map] at hd'
      obtain ⟨z, hz⟩ := at_ints (ns := ns) (i := i) (by omega)
      exact ⟨_, rfl, _, rfl, a, _, _, _, rfl, rfl, hS, hz, ⟨z, rfl⟩, rfl⟩
    · rintro _ _ ⟨⟨z, rfl⟩, rfl⟩
      refine ⟨_, rfl, _, rfl, _, _, rfl, rfl, .inl ⟨by decide, by decide⟩, _, _, rfl, rfl, ?_⟩
      refine ⟨_, rfl, 63, rfl, a, _, rfl, hS, fun c nc => ?_⟩
      have ec : upd H c (.lst (cutV (ns.map V.int) none (some 63))) c = some (.lst ((ns.take 63).map V.int)) := by
        rw [upd_same, show cutV (ns.map V.int) none (some 63) = (ns.map V.int).take 63 from cut_take _ 63, ← List.map_take]
      have s1 : Same H (upd H c (.lst (cutV (ns.map V.int) none (some 63)))) := same_upd nc
      generalize upd H c (.lst (cutV (ns.map V.int) none (some 63))) = G at ec s1
      refine ⟨c, _, rfl, SqL.of ec, for_it walk_enum (fun j σ G' => ∃ (mm : Int) (u1 u2 : Option V), σ = [some (.ref a), some (.int (i : Nat)), some (.int (salt : Nat)), some (.int z), some (.int mm), u1, u2] ∧ 0 ≤ mm ∧ mm < 4294967296 ∧ Same G G')
        ⟨_, none, none, rfl, by omega, by omega, Same.refl _⟩ (fun j σ G' _ q => by
          obtain ⟨_, _, _, _, _, _, s⟩ := q
          exact SqL.of (s _ _ ec)) ?_ ?_⟩
      · rintro j x σ G1 G2 hj ⟨mm, u1, u2, rfl, m0, m1, s2⟩ ⟨T', kx, y, rfl, nT, rfl, ek, ey⟩
        have ek' : V.int ((j : Nat) : Int) = kx := by injection ek
        subst ek'
        obtain ⟨e, rfl⟩ : ∃ e, V.int e = y := by
          have ey' : ((ns.take 63).map V.int)[j]? = some y := ey
          rw [List.getElem?_map] at ey'
          cases q : (ns.take 63)[j]? with
          | none => rw [q] at ey'; cases ey'
          | some e => rw [q] at ey'; exact ⟨e, by injection ey'⟩
        refine ⟨T', _, rfl, SqT.of upd_same, rfl, _, _, rfl, _, _, rfl, rfl, _, rfl, _, _, rfl, rfl, .inl ⟨by omega, by omega⟩, _, rfl, .inl ⟨_, rfl, _, _, rfl, rfl, by show (0 : Int) < 2147483647; decide, _, _, rfl, rfl, _, rfl, _, _, rfl, rfl, .inl ⟨by decide, by decide⟩, _, _, rfl, rfl,
          .inl ⟨_, rfl, _, _, rfl, rfl, by show (0 : Int) < 2147483629; decide, _, _, _, rfl, Int.emod_nonneg _ (by decide), ?_, s2.trans (same_upd nT)⟩⟩⟩
        have := Int.emod_lt_of_pos (mm * 48271 + e % 2147483647 + 97 * ((j : Nat) : Int)) (show (0 : Int) < 2147483629 by decide)
        omega
      · rintro σ G1 ⟨mm, u1, u2, rfl, m0, m1, s2⟩
        refine ⟨_, rfl, _, rfl, _, _, rfl, rfl, ⟨by decide, by decide, by decide⟩, _, _, rfl, rfl, _, rfl, ite2 (fun hd => ?_) (fun hd => ?_)⟩
        · refine ⟨_, rfl, _, rfl, _, rfl, by show 3 ≤ sizeLine; decide, fun b nb => ?_⟩
          exact k b _ (s1.free (s2.free nb)) ((s1.trans s2).trans (same_upd nb)) ⟨_, _, _, upd_same, by split <;> omega, m0, m1, by decide, by decide⟩
        · refine ⟨_, rfl, _, rfl, _, rfl, by show 3 ≤ sizeLine; decide, fun b nb => ?_⟩
          have hc : (if z < 0 then -z else z) < 1000000000000000000 := Int.not_le.mp fun q => hd (decide_eq_true q)
          exact k b _ (s1.free (s2.free nb)) ((s1.trans s2).trans (same_upd nb)) ⟨_, _, _, upd_same, by decide, m0, m1, by split <;> omega, hc⟩
def spOf : Sp := fun vs H Q _ => ∃ (b l : Addr) (xs : List V), vs = [.ref b, .ref l] ∧ BagAt H b ∧ H l = some (.lst xs) ∧ l ≠ b ∧ 0 < xs.length ∧ xs.length ≤ 1000 ∧ ∀ (x : V) (H' : Hp), x ∈ xs → Keep b H H' → BagAt H' b → Q x H'
theorem small200 {z : Int} (h0 : 0 ≤ z) (h : z ≤ 1000000) : z.natAbs < 2 ^ 200 := Nat.lt_of_le_of_lt (show z.natAbs ≤ 1000000 by omega) (by decide)
theorem ok_law_of {f : Addr} {fd : FuncData} (F : Fun K "_law_of" "_law_of" s_law_of f fd) (T : Cst K mg) (O_law_take : Ok P w K mg base 1 "_law_take" ["bag", "many"] spTake) :
    FnOk P w K mg base CX0 2 f fd ["bag", "some"] spOf := by
  refine F.ok sc_law_of (fun vs H Q E h => ?_) (fun cdv A outer s H vs Q E hr h => ?_)
  · obtain ⟨b, l, xs, rfl, _⟩ := h
    rfl
  · obtain ⟨b, l, xs, rfl, B, hl, lb, p0, p1, k⟩ := h
    refine ⟨_, (pss_one (ps_ret (pe_ix ix_list (pv 1) (pe_callO O_law_take (hr.mono (by decide)) (pa_cons (pv 0) (pa_cons (pe_callB call_len_seq (by rfl) T.n_len (by decide +kernel) (pa_cons (pv 1) pa_nil)) pa_nil))) (fun _ _ => rfl)))), ?_⟩
    refine ⟨_, rfl, _, rfl, _, rfl, l, xs, rfl, .inl (SqL.of hl), ?_⟩
    refine ⟨b, _, rfl, B, by omega, small200 (by omega) (by omega), fun r H' r0 r1 kp B' => ?_⟩
    obtain ⟨j, rfl⟩ := Int.eq_ofNat_of_zero_le r0
    have hj : j < xs.length := by omega
    exact ⟨l, xs, _, xs[j], rfl, rfl, SqL.of (kp _ _ lb hl), atI_nat (List.getElem?_eq_getElem hj), k _ _ (List.getElem_mem hj) kp B'⟩
end
end K03

namespace K03
open PySem PySem.Spec PyProof.Rows L2 EV TL LM
/-- the makers of an arity, with or without the hook -/
def allowed (n : Nat) (hk : Bool) : List Str := (makersOf n).filter fun m => hk || !(m == ("hook" : Str))
section
variable {P : Program} {w : World} {K : Fg} {mg : Str → Option Value} {base : Heap}
/-! ### what is asked of a library -/
/-- the fields, looked up -/
structure LookF (fs : List (Str × V)) (n txt : Str) (hk : Option Str) (pa pk po psg pc pm : Addr) : Prop where
  name : fs.lookup ("name" : Str) = some (.str n)
  root_parameters : fs.lookup ("root_parameters" : Str) = some (.ref pa)
  kept : fs.lookup ("kept" : Str) = some (.ref pk)
  root_hook : fs.lookup ("root_hook" : Str) = some (hookV hk)
  ops : fs.lookup ("_operations" : Str) = some (.ref po)
  signs : fs.lookup ("_signs" : Str) = some (.ref psg)
  changed : fs.lookup ("_changed" : Str) = some (.ref pc)
  maker : fs.lookup ("_maker" : Str) = some (.ref pm)
  text : fs.lookup ("_text" : Str) = some (.str txt)
theorem names_ne : ((["name", "root_parameters", "kept", "root_hook", "_operations", "_signs", "_changed", "_maker", "_text"] : List Str)).Nodup := by decide +kernel
theorem look_at {fs : List (Str × V)} {f g : Str} {v : V} (h : f ≠ g) : (putF g v fs).lookup f = fs.lookup f := by rw [lookup_putF, if_neg h]
theorem look_here {fs : List (Str × V)} {f : Str} {v : V} : (putF f v fs).lookup f = some v := by rw [lookup_putF, if_pos rfl]
theorem lookF {n txt : Str} {hk : Option Str} {pa pk po psg pc pm : Addr} : LookF (libF n txt hk pa pk po psg pc pm) n txt hk pa pk po psg pc pm := by
  unfold libF
  constructor <;> repeat (first | exact look_here | rw [look_at (by decide +kernel)])
theorem lookF_no {n txt : Str} {hk : Option Str} {pa pk po psg pc pm : Addr} {m : Str} (h : m ∉ (["name", "root_parameters", "kept", "root_hook", "_operations", "_signs", "_changed", "_maker", "_text"] : List Str)) : (libF n txt hk pa pk po psg pc pm).lookup m = none := by
  unfold libF
  simp only [List.mem_cons, List.not_mem_nil, or_false, not_or] at h
  obtain ⟨h1, h2, h3, h4, h5, h6, h7, h8, h9⟩ := h
  rw [look_at h9, look_at h8, look_at h7, look_at h6, look_at h5, look_at h4, look_at h3, look_at h2, look_at h1]
  rfl
def spHas (K : Fg) (C : Addr) : Sp := fun vs H Q _ => ∃ (a : Addr) (L : Lib) (s : Str), vs = [.ref a, .str s] ∧ LibAt K H C a L ∧ Q (.bl ((L.ops.map (·.sign)).contains s)) H
theorem ok_contains {f C : Addr} {fd : FuncData} (F : Fun K "__contains__" "Library.__contains__" s_Library___contains__ f fd) (T : Cst K mg) (hC : LibC K C) : FnOk P w K mg base CX0 1 f fd ["self", "x"] (spHas K C) := by
  refine F.ok sc_Library___contains__ (fun vs H Q E h => ?_) (fun cdv A outer s H vs Q E hr h => ?_)
  · obtain ⟨a, L, z, rfl, _⟩ := h
    rfl
  · obtain ⟨a, L, z, rfl, ⟨dx, pa, pk, po, psg, pc, pm, ha, R⟩, k⟩ := h
    refine ⟨_, (pss_one (ps_ret (pe_cmpR op_in_seq (pv 1) (pe_fld (pv 0) rfl) (by rfl)))), ?_⟩
    refine ⟨_, rfl, _, rfl, a, C, dx, _, _, rfl, ha, hC.cls, hC.no _ (by simp), lookF.signs, psg, _, rfl, .inr R.signs, rfl, flat_strs _, ?_⟩
    rw [inV_strs]
    exact k
end
end K03

namespace K03
open PySem PySem.Spec PyProof.Rows L2 EV TL LM
/-! ### words that are drawn -/
def chr (c : Nat) : Str := ⟨#[c]⟩
def alpha : List Nat := [97, 98, 99, 100, 101, 102, 103, 104, 105, 106, 107, 108, 109, 110, 111, 112, 113, 114, 115, 116, 117, 118, 119, 120, 121, 122]
theorem alpha_signs : signsV "abcdefghijklmnopqrstuvwxyz" = alpha.map fun c => V.str (chr c) := by
  unfold signsV
  rw [show (("abcdefghijklmnopqrstuvwxyz" : Str)).cps.toList = alpha by decide +kernel]
  rfl
def wordOf (ah : Bool) (stem : Str) (c : Nat) : Str := if ah = true then chr c ++ stem else stem ++ chr c
def wordX (ah : Bool) (stem : Str) (c : Nat) : Str := if noFields.contains (wordOf ah stem c) = true then wordOf ah stem c ++ ("x" : Str) else wordOf ah stem c
theorem tl_chr (c : Nat) : tl (chr c) = [c] := rfl
theorem word_tl (ah : Bool) (stem : Str) (c : Nat) : tl (wordOf ah stem c) = if ah = true then c :: tl stem else tl stem ++ [c] := by
  unfold wordOf
  cases ah
  · show tl (stem ++ chr c) = _
    rw [tl_append, tl_chr]
    rfl
  · show tl (chr c ++ stem) = _
    rw [tl_append, tl_chr]
    rfl
theorem word_len (ah : Bool) (stem : Str) (c : Nat) : (wordOf ah stem c).length = stem.length + 1 := by
  rw [len_tl, word_tl, len_tl]
  cases ah <;> simp
theorem within_app {lo hi : Nat} (a b : List Nat) : within lo hi (a ++ b) = (within lo hi a && within lo hi b) := List.all_append
theorem word_in {ah : Bool} {stem : Str} {c : Nat} (hs : within 97 122 (tl stem) = true) (h1 : 97 ≤ c) (h2 : c ≤ 122) : within 97 122 (tl (wordOf ah stem c)) = true := by
  rw [word_tl]
  have hc : within 97 122 [c] = true := by
    show ((decide (97 ≤ c) && decide (c ≤ 122)) && true) = true
    rw [decide_eq_true h1, decide_eq_true h2]
    rfl
  cases ah
  · show within 97 122 (tl stem ++ [c]) = true
    rw [within_app, hs, hc]
    rfl
  · show within 97 122 ([c] ++ tl stem) = true
    rw [within_app, hs, hc]
    rfl
theorem no_len : ∀ w ∈ noFields, w.length ≤ 7 ∧ noFields.contains (w ++ ("x" : Str)) = false := by decide +kernel
theorem wordX_field {ah : Bool} {stem : Str} {c : Nat} (hs : within 97 122 (tl stem) = true) (hl : stem.length ≤ 7) (h1 : 97 ≤ c) (h2 : c ≤ 122) : fieldName (wordX ah stem c) = true := by
  have hw := word_in (ah := ah) hs h1 h2
  have hlen := word_len ah stem c
  unfold wordX
  by_cases h : noFields.contains (wordOf ah stem c) = true
  · rw [if_pos h]
    obtain ⟨l7, nx⟩ := no_len _ (List.contains_iff_mem.mp h)
    unfold fieldName small
    rw [nx]
    have e : (wordOf ah stem c ++ ("x" : Str)).length = stem.length + 2 := by rw [len_app, hlen]; rfl
    have hx : within 97 122 (tl ("x" : Str)) = true := by decide +kernel
    rw [e, tl_append, within_app, hw, hx, decide_eq_true (by omega), decide_eq_true (by omega)]
    rfl
  · rw [if_neg h]
    unfold fieldName small
    rw [Bool.eq_false_iff.mpr h, hlen, hw, decide_eq_true (by omega), decide_eq_true (by omega)]
    rfl
theorem word_inj {ah : Bool} {stem : Str} {c d : Nat} (h : wordOf ah stem c = wordOf ah stem d) : c = d := by
  have e := congrArg tl h
  rw [word_tl, word_tl] at e
  cases ah
  · have e' : tl stem ++ [c] = tl stem ++ [d] := e
    have := List.append_cancel_left e'
    injection this
  · have e' : c :: tl stem = d :: tl stem := e
    injection e'
theorem wordX_inj {ah : Bool} {stem : Str} {c d : Nat} (h : wordX ah stem c = wordX ah stem d) : c = d := by
  have lc := word_len ah stem c
  have ld := word_len ah stem d
  have lx : ("x" : Str).length = 1 := by decide +kernel
  unfold wordX at h
  by_cases h1 : noFields.contains (wordOf ah stem c) = true
  · by_cases h2 : noFields.contains (wordOf ah stem d) = true
    · rw [if_pos h1, if_pos h2] at h
      refine word_inj (ah := ah) (stem := stem) (ext_tl ?_)
      have e := congrArg tl h
      rw [tl_append, tl_append] at e
      exact List.append_cancel_right e
    · rw [if_pos h1, if_neg h2] at h
      have e := congrArg Str.length h
      rw [len_app, lc, ld, lx] at e
      omega
  · by_cases h2 : noFields.contains (wordOf ah stem d) = true
    · rw [if_neg h1, if_pos h2] at h
      have e := congrArg Str.length h
      rw [len_app, lc, ld, lx] at e
      omega
    · rw [if_neg h1, if_neg h2] at h
      exact word_inj h
theorem erase_map {α β : Type} (f : α → β) : ∀ (l : List α) (j : Nat), (l.map f).eraseIdx j = (l.eraseIdx j).map f
  | [], _ => rfl
  | _ :: _, 0 => rfl
  | x :: l, j + 1 => by
    show f x :: (l.map f).eraseIdx j = f x :: (l.eraseIdx j).map f
    rw [erase_map f l j]
theorem erase_perm {α : Type} : ∀ (l : List α) (j : Nat) (h : j < l.length), (l[j] :: l.eraseIdx j).Perm l
  | _ :: _, 0, _ => List.Perm.refl _
  | x :: l, j + 1, h => (List.Perm.swap x (l[j]'(Nat.lt_of_succ_lt_succ h)) (l.eraseIdx j)).trans ((erase_perm l j (Nat.lt_of_succ_lt_succ h)).cons x)
theorem keep_new {b l : Addr} {H G : Hp} {o : HO} (k : Keep b H G) (n : H l = none) : Keep b H (upd G l o) := fun a u na z => by
  rw [upd_ne (ne_of_none z n)]
  exact k a u na z
theorem BagAt.upd {H : Hp} {b l : Addr} {o : HO} (h : BagAt H b) (n : l ≠ b) : BagAt (L2.upd H l o) b := by
  obtain ⟨d, q, c, h1, h2⟩ := h
  exact ⟨d, q, c, by rw [upd_ne (Ne.symm n)]; exact h1, h2⟩
section
variable {P : Program} {w : World} {K : Fg} {mg : Str → Option Value} {base : Heap}
def spWords : Sp := fun vs H Q _ => ∃ (b : Addr) (many : Nat), vs = [.ref b, .int (many : Nat)] ∧ BagAt H b ∧ many ≤ 26 ∧
  ∀ (p : Addr) (ws : List Str) (H' : Hp), Keep b H H' → BagAt H' b → H p = none → p ≠ b → StrsAt H' p ws → ws.length = many → ws.Nodup → (∀ w ∈ ws, fieldName w = true) → Q (.ref p) H'
theorem ok_law_words {f : Addr} {fd : FuncData} (F : Fun K "_law_words" "_law_words" s_law_words f fd) (T : Cst K mg) (O_law_take : Ok P w K mg base 1 "_law_take" ["bag", "many"] spTake) (O_law_of : Ok P w K mg base 2 "_law_of" ["bag", "some"] spOf) :
    FnOk P w K mg base CX0 3 f fd ["bag", "many"] spWords := by
  refine F.ok sc_law_words (fun vs H Q E h => ?_) (fun cdv A outer s H vs Q E hr h => ?_)
  · obtain ⟨b, many, rfl, _⟩ := h
    rfl
  · obtain ⟨b, many, rfl, B, hm, k⟩ := h
    refine ⟨_, (pss_cons (ps_par3 (i := 2) (j := 3) (l := 4) (by rfl) sc_law_words.nd rfl rfl rfl (by decide) (by decide) (by decide) rfl rfl rfl (pa_cons (pe_callTy (call_list_text rfl) (by rfl) T.n_list (by decide +kernel) (pa_cons pe_str pa_nil)) (pa_cons (pe_lst pa_nil) (pa_cons pe_str pa_nil))) (by rfl))
    (pss_cons (ps_for PassesOwn.never rfl (pi_range1 rfl T.n_range (pa_cons (pe_callO O_law_take (hr.mono (by decide)) (pa_cons (pv 0) (pa_cons pe_int pa_nil))) pa_nil)) (pg_name (i := 5) sc_law_words.nd rfl (Or.inl rfl)) (pss_one (ps_set (i := 4) sc_law_words.nd rfl (Or.inl rfl) (pe_op op_add_str (pv 4) (pe_callO O_law_of (hr.mono (by decide)) (pa_cons (pv 0) (pa_cons (pe_lst (pa_cons pe_str (pa_cons pe_str (pa_cons pe_str (pa_cons pe_str (pa_cons pe_str (pa_cons pe_str pa_nil))))))) pa_nil)))))))
    (pss_cons (ps_set (i := 6) sc_law_words.nd rfl (Or.inl rfl) (pe_cmpR op_eq (pe_callO O_law_take (hr.mono (by decide)) (pa_cons (pv 0) (pa_cons pe_int pa_nil))) pe_int (nomark _)))
    (pss_cons (ps_for PassesOwn.never rfl (pi_range1 rfl T.n_range (pa_cons (pv 1) pa_nil)) (pg_name (i := 5) sc_law_words.nd rfl (Or.inl rfl)) (pss_cons (ps_set (i := 7) sc_law_words.nd rfl (Or.inl rfl) (pe_bm PySem.F.plainAttrs_list PySem.F.slot_list_pop PySem.F.type_list_pop mt_popAt (pv 2) (pa_cons (pe_callO O_law_take (hr.mono (by decide)) (pa_cons (pv 0) (pa_cons (pe_callB call_len_seq (by rfl) T.n_len (by decide +kernel) (pa_cons (pv 2) pa_nil)) pa_nil))) pa_nil)))
    (pss_cons (ps_set (i := 8) sc_law_words.nd rfl (Or.inl rfl) (pe_mid (pe_ifExp (pt_truth (pv 6) (by intro _; rfl)) (pe_op op_add_str (pv 7) (pv 4)) (pe_op op_add_str (pv 4) (pv 7)))))
    (pss_one (ps_expr (pe_bm PySem.F.plainAttrs_list PySem.F.slot_list_append PySem.F.type_list_append mt_append (pv 3) (pa_cons (pe_mid (pe_ifExp (pt_cmpR op_in_seq (pv 8) (pe_lst (pa_cons pe_str (pa_cons pe_str (pa_cons pe_str (pa_cons pe_str (pa_cons pe_str (pa_cons pe_str pa_nil))))))) (by rfl)) (pe_op op_add_str (pv 8) pe_str) (pv 8))) pa_nil)))))))
    (pss_one (ps_ret (pv 3))))))), ?_⟩
    refine ⟨_, rfl, by decide +kernel, fun l nl => ⟨by show 0 ≤ sizeLine; decide, fun p np => ?_⟩⟩
    have hz0 : ∀ c ∈ alpha, 97 ≤ c ∧ c ≤ 122 := by decide +kernel
    have pl : p ≠ l := fun e => by rw [e, upd_same] at np; cases np
    have npH : H p = none := (same_upd nl).free np
    have lb := B.ne nl
    have pb := B.ne npH
    have kG : Keep b H (upd (upd H l (.lst (signsV "abcdefghijklmnopqrstuvwxyz"))) p (.lst [])) := keep_new (keep_new (Keep.refl H) nl) npH
    have B0 : BagAt (upd (upd H l (.lst (signsV "abcdefghijklmnopqrstuvwxyz"))) p (.lst [])) b := (B.upd lb).upd pb
    have hl0 : upd (upd H l (.lst (signsV "abcdefghijklmnopqrstuvwxyz"))) p (.lst []) l = some (.lst (alpha.map fun c => V.str (chr c))) := by
      rw [upd_ne (Ne.symm pl), upd_same, alpha_signs]
    have hp0 : upd (upd H l (.lst (signsV "abcdefghijklmnopqrstuvwxyz"))) p (.lst []) p = some (.lst []) := upd_same
    generalize upd (upd H l (.lst (signsV "abcdefghijklmnopqrstuvwxyz"))) p (.lst []) = G0 at kG B0 hl0 hp0
    refine ⟨_, _, _, rfl, _, rfl, b, 8, rfl, B0, by decide, by decide, fun r H1 r0 r1 k1 B1 => ⟨r, rfl, by omega, by omega, ?_⟩⟩
    refine for_range (lo := 0) (n := r.toNat) (fun i σ G => ∃ (z : Str) (u : Option V), σ = [some (.ref b), some (.int (many : Nat)), some (.ref l), some (.ref p), some (.str z), u, none, none, none] ∧ z.length ≤ i ∧ within 97 122 (tl z) = true ∧ Keep b G0 G ∧ BagAt G b)
      ⟨"", none, rfl, by decide +kernel, by decide +kernel, k1, B1⟩ ?_ ?_
    · rintro i σ G hi ⟨z, u, rfl, hz, hw, kk, Bg⟩
      have i8 : i < 8 := by omega
      refine ⟨_, rfl, _, rfl, by show 6 ≤ sizeLine; decide, fun l2 nl2 => ⟨b, l2, _, rfl, Bg.same (same_upd nl2), upd_same, Bg.ne nl2, by show 0 < 6; decide, by show 6 ≤ 1000; decide, fun x G2 hx k2 B2 => ?_⟩⟩
      obtain ⟨s, rfl, sl, sw⟩ : ∃ s, x = V.str s ∧ s.length = 1 ∧ within 97 122 (tl s) = true := by
        simp only [List.mem_cons, List.not_mem_nil, or_false] at hx
        rcases hx with rfl | rfl | rfl | rfl | rfl | rfl <;> exact ⟨_, rfl, by decide +kernel, by decide +kernel⟩
      refine ⟨_, _, rfl, rfl, by rw [sl, sizeLine_eq]; omega, _, _, rfl, by rw [len_app, sl]; omega, by rw [tl_append, within_app, hw, sw]; rfl, kk.trans ((Keep.of (same_upd nl2)).trans k2), B2⟩
    · rintro σ G ⟨z, u, rfl, hz, hw, kk, Bg⟩
      have hz7 : z.length ≤ 7 := by omega
      refine ⟨_, rfl, b, 2, rfl, Bg, by decide, by decide, fun r2 G1 _ _ k2 B2 => ⟨rfl, ?_⟩⟩
      generalize decide (V.int r2 = V.int 0) = ah
      have k02 := kk.trans k2
      refine ⟨_, rfl, _, rfl, by omega, by omega, ?_⟩
      refine for_range (lo := 0) (n := (((many : Nat) : Int)).toNat) (fun i σ G => ∃ (cs L : List Nat) (u1 u2 u3 : Option V), σ = [some (.ref b), some (.int (many : Nat)), some (.ref l), some (.ref p), some (.str z), u1, some (.bl ah), u2, u3] ∧
          G l = some (.lst (L.map fun c => V.str (chr c))) ∧ StrsAt G p (cs.map (wordX ah z)) ∧ (cs ++ L).Nodup ∧ (∀ c ∈ cs ++ L, 97 ≤ c ∧ c ≤ 122) ∧ cs.length = i ∧ L.length = 26 - i ∧ Keep b H G ∧ BagAt G b)
        ⟨[], alpha, _, none, none, rfl, k02 _ _ lb hl0, k02 _ _ pb hp0, by decide +kernel, hz0, rfl, by decide +kernel, kG.trans k02, B2⟩ ?_ ?_
      · rintro i σ G hi ⟨cs, L, u1, u2, u3, rfl, hl1, hp1, nd, hr, lc, lL, kH, Bg1⟩
        have hLp : 0 < L.length := by omega
        refine ⟨_, rfl, .inl ⟨rfl, _, SqL.of hl1⟩, _, rfl, _, rfl, l, _, rfl, .inl (SqL.of hl1), b, _, rfl, Bg1, by rw [List.length_map]; omega, small200 (by omega) (by rw [List.length_map]; omega), fun r' G1' q0 q1 k1' B1' => ?_⟩
        obtain ⟨j, rfl⟩ := Int.eq_ofNat_of_zero_le q0
        rw [List.length_map] at q1
        have hj : j < L.length := by omega
        have hseq : seqIndex? ((j : Nat) : Int) (L.map fun c => V.str (chr c)).length = some j := by
          refine (ixN_seq (n := (L.map fun c => V.str (chr c)).length) (i := ((j : Nat) : Int)) (j := j) ?_).1
          unfold ixN
          rw [if_pos (by omega), if_pos (by rw [List.length_map]; omega), Int.toNat_natCast]
        have hget : (L.map fun c => V.str (chr c))[j]? = some (V.str (chr L[j])) := by
          rw [List.getElem?_map, List.getElem?_eq_getElem hj]
          rfl
        refine ⟨l, _, ((j : Nat) : Int), j, _, rfl, rfl, k1' _ _ lb hl1, by omega, by omega, hseq, hget, ?_⟩
        have hl2 : upd G1' l (.lst ((L.map fun c => V.str (chr c)).eraseIdx j)) l = some (.lst ((L.eraseIdx j).map fun c => V.str (chr c))) := by
          rw [upd_same, erase_map]
        have hp2 : StrsAt (upd G1' l (.lst ((L.map fun c => V.str (chr c)).eraseIdx j))) p (cs.map (wordX ah z)) := by
          show upd G1' l _ p = _
          rw [upd_ne pl]
          exact k1' _ _ pb hp1
        have kH2 : Keep b H (upd G1' l (.lst ((L.map fun c => V.str (chr c)).eraseIdx j))) := keep_new (kH.trans k1') nl
        have B2' : BagAt (upd G1' l (.lst ((L.map fun c => V.str (chr c)).eraseIdx j))) b := B1'.upd lb
        generalize upd G1' l (.lst ((L.map fun c => V.str (chr c)).eraseIdx j)) = G2 at hl2 hp2 kH2 B2'
        have hc := hr L[j] (List.mem_append_right _ (List.getElem_mem hj))
        have perm : (cs ++ [L[j]] ++ L.eraseIdx j).Perm (cs ++ L) := by
          rw [List.append_assoc]
          exact (List.Perm.refl cs).append (erase_perm L j hj)
        have lc1 : (chr L[j]).length = 1 := rfl
        generalize L[j] = c at hc perm lc1
        refine ⟨fun v G' => v = V.str (wordOf ah z c) ∧ G2 = G', ⟨_, rfl, ah, rfl, ?_⟩, ?_⟩
        · cases ah with
          | true => exact iteT ⟨_, rfl, _, rfl, _, _, rfl, rfl, by rw [lc1, sizeLine_eq]; omega, rfl, rfl⟩
          | false => exact iteF ⟨_, rfl, _, rfl, _, _, rfl, rfl, by rw [lc1, sizeLine_eq]; omega, rfl, rfl⟩
        · rintro v G' ⟨rfl, rfl⟩
          have wl := word_len ah z c
          refine ⟨_, rfl, .inl ⟨rfl, _, SqL.of hp2⟩, fun v G' => v = V.str (wordX ah z c) ∧ Same G2 G', ⟨_, rfl, by show 6 ≤ sizeLine; decide, fun l5 nl5 => ⟨l5, _, rfl, .inl (SqL.of upd_same), rfl, rfl, _, rfl, ?_⟩⟩, ?_⟩
          · rw [show inV (.str (wordOf ah z c)) [V.str "by", V.str "changes", V.str "name", V.str "of", V.str "to", V.str "world"] = noFields.contains (wordOf ah z c) from inV_strs _ noFields]
            have lx : ("x" : Str).length = 1 := by decide +kernel
            cases e : noFields.contains (wordOf ah z c) with
            | true =>
              refine iteT ⟨_, rfl, _, _, rfl, rfl, by rw [wl, lx, sizeLine_eq]; omega, ?_, same_upd nl5⟩
              unfold wordX
              rw [if_pos e]
            | false =>
              refine iteF ⟨_, rfl, ?_, same_upd nl5⟩
              unfold wordX
              rw [if_neg (by rw [e]; exact Bool.false_ne_true)]
          · rintro v G3 ⟨rfl, s3⟩
            have hp3 := s3 _ _ hp2
            have pll : cs.length ≤ 26 := by omega
            refine ⟨p, _, _, rfl, rfl, hp3, by rw [List.length_map, List.length_map, sizeLine_eq]; omega, cs ++ [c], L.eraseIdx j, _, _, _, rfl, by rw [upd_ne (Ne.symm pl)]; exact s3 _ _ hl2, ?_, perm.nodup_iff.mpr nd, fun d hd => hr d (perm.mem_iff.mp hd), by rw [List.length_append, lc]; rfl, ?_, keep_new (kH2.trans (Keep.of s3)) npH, (B2'.same s3).upd pb⟩
            · show upd G3 p _ p = _
              rw [upd_same, List.map_append, List.map_append]
              rfl
            · rw [List.length_eraseIdx_of_lt hj, lL]
              omega
      · rintro σ G ⟨cs, L, u1, u2, u3, rfl, hl1, hp1, nd, hr, lc, lL, kH, Bg1⟩
        refine ⟨_, rfl, k p (cs.map (wordX ah z)) G kH Bg1 npH pb hp1 (by rw [List.length_map, lc]; omega) ?_ ?_⟩
        · rw [List.nodup_append] at nd
          refine List.Pairwise.map _ (fun a c hac e => hac (wordX_inj e)) nd.1
        · intro w hw'
          obtain ⟨c, hc, rfl⟩ := List.mem_map.mp hw'
          exact wordX_field hw hz7 (hr c (List.mem_append_left _ hc)).1 (hr c (List.mem_append_left _ hc)).2
end
end K03

namespace K03
open PySem PySem.Spec PyProof.Rows L2 EV TL LM
/-! ### titles that are drawn -/
def alphaU : List Nat := [65, 66, 67, 68, 69, 70, 71, 72, 73, 74, 75, 76, 77, 78, 79, 80, 81, 82, 83, 84, 85, 86, 87, 88, 89, 90]
theorem alphaU_signs : signsV "ABCDEFGHIJKLMNOPQRSTUVWXYZ" = alphaU.map fun c => V.str (chr c) := by
  unfold signsV
  rw [show (("ABCDEFGHIJKLMNOPQRSTUVWXYZ" : Str)).cps.toList = alphaU by decide +kernel]
  rfl
theorem lower_chr : ∀ c ∈ alphaU, Txt.lower (chr c) = chr (c + 32) := by decide +kernel
def titleOf (ah : Bool) (stem : Str) (c : Nat) : Str := if ah = true then chr c ++ stem else ("Q" : Str) ++ stem ++ chr (c + 32)
theorem tl_Q : tl ("Q" : Str) = [81] := by decide +kernel
theorem title_tl (ah : Bool) (stem : Str) (c : Nat) : tl (titleOf ah stem c) = if ah = true then c :: tl stem else 81 :: (tl stem ++ [c + 32]) := by
  unfold titleOf
  cases ah
  · show tl (("Q" : Str) ++ stem ++ chr (c + 32)) = _
    rw [tl_append, tl_append, tl_chr, tl_Q]
    rfl
  · show tl (chr c ++ stem) = _
    rw [tl_append, tl_chr]
    rfl
theorem title_class {ah : Bool} {stem : Str} {c : Nat} (hs : within 97 122 (tl stem) = true) (hl : stem.length ≤ 6) (h1 : 65 ≤ c) (h2 : c ≤ 90) : className (titleOf ah stem c) = true := by
  have e := title_tl ah stem c
  have el := len_tl (titleOf ah stem c)
  have es := len_tl stem
  unfold className
  cases ah
  · have e' : tl (titleOf false stem c) = 81 :: (tl stem ++ [c + 32]) := e
    rw [e', List.length_cons, List.length_append] at el
    have hc : within 97 122 [c + 32] = true := by
      show ((decide (97 ≤ c + 32) && decide (c + 32 ≤ 122)) && true) = true
      rw [decide_eq_true (by omega), decide_eq_true (by omega)]
      rfl
    rw [e', show (81 :: (tl stem ++ [c + 32])).take 1 = [81] from rfl, show (81 :: (tl stem ++ [c + 32])).drop 1 = tl stem ++ [c + 32] from rfl, within_app, hs, hc, decide_eq_true (by omega), decide_eq_true (by rw [el, ← es]; show stem.length + 1 + 1 ≤ 8; omega)]
    rfl
  · have e' : tl (titleOf true stem c) = c :: tl stem := e
    rw [e', List.length_cons] at el
    have hc : within 65 90 [c] = true := by
      show ((decide (65 ≤ c) && decide (c ≤ 90)) && true) = true
      rw [decide_eq_true h1, decide_eq_true h2]
      rfl
    rw [e', show (c :: tl stem).take 1 = [c] from rfl, show (c :: tl stem).drop 1 = tl stem from rfl, hs, hc, decide_eq_true (by omega), decide_eq_true (by omega)]
    rfl
theorem title_inj {ah : Bool} {stem : Str} {c d : Nat} (h : titleOf ah stem c = titleOf ah stem d) : c = d := by
  have e := congrArg tl h
  rw [title_tl, title_tl] at e
  cases ah
  · have e' : 81 :: (tl stem ++ [c + 32]) = 81 :: (tl stem ++ [d + 32]) := e
    injection e' with _ e2
    have := List.append_cancel_left e2
    injection this with e3
    omega
  · have e' : c :: tl stem = d :: tl stem := e
    injection e'
section
variable {P : Program} {w : World} {K : Fg} {mg : Str → Option Value} {base : Heap}
def spTitles : Sp := fun vs H Q _ => ∃ (b : Addr) (many : Nat), vs = [.ref b, .int (many : Nat)] ∧ BagAt H b ∧ many ≤ 26 ∧
  ∀ (p : Addr) (ws : List Str) (H' : Hp), Keep b H H' → BagAt H' b → H p = none → p ≠ b → StrsAt H' p ws → ws.length = many → ws.Nodup → (∀ w ∈ ws, className w = true) → Q (.ref p) H'
theorem ok_law_titles {f : Addr} {fd : FuncData} (F : Fun K "_law_titles" "_law_titles" s_law_titles f fd) (T : Cst K mg) (O_law_take : Ok P w K mg base 1 "_law_take" ["bag", "many"] spTake) (O_law_of : Ok P w K mg base 2 "_law_of" ["bag", "some"] spOf) :
    FnOk P w K mg base CX0 3 f fd ["bag", "many"] spTitles := by
  refine F.ok sc_law_titles (fun vs H Q E h => ?_) (fun cdv A outer s H vs Q E hr h => ?_)
  · obtain ⟨b, many, rfl, _⟩ := h
    rfl
  · obtain ⟨b, many, rfl, B, hm, k⟩ := h
    refine ⟨_, (pss_cons (ps_par3 (i := 2) (j := 3) (l := 4) (by rfl) sc_law_titles.nd rfl rfl rfl (by decide) (by decide) (by decide) rfl rfl rfl (pa_cons (pe_callTy (call_list_text rfl) (by rfl) T.n_list (by decide +kernel) (pa_cons pe_str pa_nil)) (pa_cons (pe_lst pa_nil) (pa_cons pe_str pa_nil))) (by rfl))
    (pss_cons (ps_for PassesOwn.never rfl (pi_range1 rfl T.n_range (pa_cons (pe_callO O_law_take (hr.mono (by decide)) (pa_cons (pv 0) (pa_cons pe_int pa_nil))) pa_nil)) (pg_name (i := 5) sc_law_titles.nd rfl (Or.inl rfl)) (pss_one (ps_set (i := 4) sc_law_titles.nd rfl (Or.inl rfl) (pe_op op_add_str (pv 4) (pe_callO O_law_of (hr.mono (by decide)) (pa_cons (pv 0) (pa_cons (pe_lst (pa_cons pe_str (pa_cons pe_str (pa_cons pe_str (pa_cons pe_str pa_nil))))) pa_nil)))))))
    (pss_cons (ps_set (i := 6) sc_law_titles.nd rfl (Or.inl rfl) (pe_cmpR op_eq (pe_callO O_law_take (hr.mono (by decide)) (pa_cons (pv 0) (pa_cons pe_int pa_nil))) pe_int (nomark _)))
    (pss_cons (ps_for PassesOwn.never rfl (pi_range1 rfl T.n_range (pa_cons (pv 1) pa_nil)) (pg_name (i := 5) sc_law_titles.nd rfl (Or.inl rfl)) (pss_cons (ps_set (i := 7) sc_law_titles.nd rfl (Or.inl rfl) (pe_bm PySem.F.plainAttrs_list PySem.F.slot_list_pop PySem.F.type_list_pop mt_popAt (pv 2) (pa_cons (pe_callO O_law_take (hr.mono (by decide)) (pa_cons (pv 0) (pa_cons (pe_callB call_len_seq (by rfl) T.n_len (by decide +kernel) (pa_cons (pv 2) pa_nil)) pa_nil))) pa_nil)))
    (pss_one (ps_expr (pe_bm PySem.F.plainAttrs_list PySem.F.slot_list_append PySem.F.type_list_append mt_append (pv 3) (pa_cons (pe_mid (pe_ifExp (pt_truth (pv 6) (by intro _; rfl)) (pe_op op_add_str (pv 7) (pv 4)) (pe_op op_add_str (pe_op op_add_str pe_str (pv 4)) (pe_lower (pv 7) )))) pa_nil))))))
    (pss_one (ps_ret (pv 3))))))), ?_⟩
    refine ⟨_, rfl, by decide +kernel, fun l nl => ⟨by show 0 ≤ sizeLine; decide, fun p np => ?_⟩⟩
    have hz0 : ∀ c ∈ alphaU, 65 ≤ c ∧ c ≤ 90 := by decide +kernel
    have pl : p ≠ l := fun e => by rw [e, upd_same] at np; cases np
    have npH : H p = none := (same_upd nl).free np
    have lb := B.ne nl
    have pb := B.ne npH
    have kG : Keep b H (upd (upd H l (.lst (signsV "ABCDEFGHIJKLMNOPQRSTUVWXYZ"))) p (.lst [])) := keep_new (keep_new (Keep.refl H) nl) npH
    have B0 : BagAt (upd (upd H l (.lst (signsV "ABCDEFGHIJKLMNOPQRSTUVWXYZ"))) p (.lst [])) b := (B.upd lb).upd pb
    have hl0 : upd (upd H l (.lst (signsV "ABCDEFGHIJKLMNOPQRSTUVWXYZ"))) p (.lst []) l = some (.lst (alphaU.map fun c => V.str (chr c))) := by
      rw [upd_ne (Ne.symm pl), upd_same, alphaU_signs]
    have hp0 : upd (upd H l (.lst (signsV "ABCDEFGHIJKLMNOPQRSTUVWXYZ"))) p (.lst []) p = some (.lst []) := upd_same
    generalize upd (upd H l (.lst (signsV "ABCDEFGHIJKLMNOPQRSTUVWXYZ"))) p (.lst []) = G0 at kG B0 hl0 hp0
    refine ⟨_, _, _, rfl, _, rfl, b, 7, rfl, B0, by decide, by decide, fun r H1 r0 r1 k1 B1 => ⟨r, rfl, by omega, by omega, ?_⟩⟩
    refine for_range (lo := 0) (n := r.toNat) (fun i σ G => ∃ (z : Str) (u : Option V), σ = [some (.ref b), some (.int (many : Nat)), some (.ref l), some (.ref p), some (.str z), u, none, none] ∧ z.length ≤ i ∧ within 97 122 (tl z) = true ∧ Keep b G0 G ∧ BagAt G b)
      ⟨"", none, rfl, by decide +kernel, by decide +kernel, k1, B1⟩ ?_ ?_
    · rintro i σ G hi ⟨z, u, rfl, hz, hw, kk, Bg⟩
      have i8 : i < 7 := by omega
      refine ⟨_, rfl, _, rfl, by show 4 ≤ sizeLine; decide, fun l2 nl2 => ⟨b, l2, _, rfl, Bg.same (same_upd nl2), upd_same, Bg.ne nl2, by show 0 < 4; decide, by show 4 ≤ 1000; decide, fun x G2 hx k2 B2 => ?_⟩⟩
      obtain ⟨s, rfl, sl, sw⟩ : ∃ s, x = V.str s ∧ s.length = 1 ∧ within 97 122 (tl s) = true := by
        simp only [List.mem_cons, List.not_mem_nil, or_false] at hx
        rcases hx with rfl | rfl | rfl | rfl <;> exact ⟨_, rfl, by decide +kernel, by decide +kernel⟩
      refine ⟨_, _, rfl, rfl, by rw [sl, sizeLine_eq]; omega, _, _, rfl, by rw [len_app, sl]; omega, by rw [tl_append, within_app, hw, sw]; rfl, kk.trans ((Keep.of (same_upd nl2)).trans k2), B2⟩
    · rintro σ G ⟨z, u, rfl, hz, hw, kk, Bg⟩
      have hz7 : z.length ≤ 6 := by omega
      refine ⟨_, rfl, b, 2, rfl, Bg, by decide, by decide, fun r2 G1 _ _ k2 B2 => ⟨rfl, ?_⟩⟩
      generalize decide (V.int r2 = V.int 0) = ah
      have k02 := kk.trans k2
      refine ⟨_, rfl, _, rfl, by omega, by omega, ?_⟩
      refine for_range (lo := 0) (n := (((many : Nat) : Int)).toNat) (fun i σ G => ∃ (cs L : List Nat) (u1 u2 : Option V), σ = [some (.ref b), some (.int (many : Nat)), some (.ref l), some (.ref p), some (.str z), u1, some (.bl ah), u2] ∧
          G l = some (.lst (L.map fun c => V.str (chr c))) ∧ StrsAt G p (cs.map (titleOf ah z)) ∧ (cs ++ L).Nodup ∧ (∀ c ∈ cs ++ L, c ∈ alphaU) ∧ cs.length = i ∧ L.length = 26 - i ∧ Keep b H G ∧ BagAt G b)
        ⟨[], alphaU, _, none, rfl, k02 _ _ lb hl0, k02 _ _ pb hp0, by decide +kernel, (fun c hc => hc), rfl, by decide +kernel, kG.trans k02, B2⟩ ?_ ?_
      · rintro i σ G hi ⟨cs, L, u1, u2, rfl, hl1, hp1, nd, hr, lc, lL, kH, Bg1⟩
        have hLp : 0 < L.length := by omega
        refine ⟨_, rfl, .inl ⟨rfl, _, SqL.of hl1⟩, _, rfl, _, rfl, l, _, rfl, .inl (SqL.of hl1), b, _, rfl, Bg1, by rw [List.length_map]; omega, small200 (by omega) (by rw [List.length_map]; omega), fun r' G1' q0 q1 k1' B1' => ?_⟩
        obtain ⟨j, rfl⟩ := Int.eq_ofNat_of_zero_le q0
        rw [List.length_map] at q1
        have hj : j < L.length := by omega
        have hseq : seqIndex? ((j : Nat) : Int) (L.map fun c => V.str (chr c)).length = some j := by
          refine (ixN_seq (n := (L.map fun c => V.str (chr c)).length) (i := ((j : Nat) : Int)) (j := j) ?_).1
          unfold ixN
          rw [if_pos (by omega), if_pos (by rw [List.length_map]; omega), Int.toNat_natCast]
        have hget : (L.map fun c => V.str (chr c))[j]? = some (V.str (chr L[j])) := by
          rw [List.getElem?_map, List.getElem?_eq_getElem hj]
          rfl
        refine ⟨l, _, ((j : Nat) : Int), j, _, rfl, rfl, k1' _ _ lb hl1, by omega, by omega, hseq, hget, ?_⟩
        have hl2 : upd G1' l (.lst ((L.map fun c => V.str (chr c)).eraseIdx j)) l = some (.lst ((L.eraseIdx j).map fun c => V.str (chr c))) := by
          rw [upd_same, erase_map]
        have hp2 : StrsAt (upd G1' l (.lst ((L.map fun c => V.str (chr c)).eraseIdx j))) p (cs.map (titleOf ah z)) := by
          show upd G1' l _ p = _
          rw [upd_ne pl]
          exact k1' _ _ pb hp1
        have kH2 : Keep b H (upd G1' l (.lst ((L.map fun c => V.str (chr c)).eraseIdx j))) := keep_new (kH.trans k1') nl
        have B2' : BagAt (upd G1' l (.lst ((L.map fun c => V.str (chr c)).eraseIdx j))) b := B1'.upd lb
        generalize upd G1' l (.lst ((L.map fun c => V.str (chr c)).eraseIdx j)) = G2 at hl2 hp2 kH2 B2'
        have hc := hr L[j] (List.mem_append_right _ (List.getElem_mem hj))
        have perm : (cs ++ [L[j]] ++ L.eraseIdx j).Perm (cs ++ L) := by
          rw [List.append_assoc]
          exact (List.Perm.refl cs).append (erase_perm L j hj)
        have lc1 : (chr L[j]).length = 1 := rfl
        generalize L[j] = c at hc perm lc1
        have lQ : ("Q" : Str).length = 1 := by decide +kernel
        refine ⟨_, rfl, .inl ⟨rfl, _, SqL.of hp2⟩, fun v G' => v = V.str (titleOf ah z c) ∧ Same G2 G', ⟨_, rfl, ah, rfl, ?_⟩, ?_⟩
        · cases ah with
          | true => exact iteT ⟨_, rfl, _, rfl, _, _, rfl, rfl, by rw [lc1, sizeLine_eq]; omega, rfl, Same.refl _⟩
          | false =>
            refine iteF ⟨_, rfl, _, _, rfl, rfl, by rw [lQ, sizeLine_eq]; omega, _, rfl, ⟨_, rfl⟩, _, rfl, rfl, by rw [lc1]; decide, _, _, rfl, rfl, ?_, ?_, Same.refl _⟩
            · rw [lower_chr c hc, len_app, lQ, show (chr (c + 32)).length = 1 from rfl, sizeLine_eq]
              omega
            · rw [lower_chr c hc]
              rfl
        · rintro v G3 ⟨rfl, s3⟩
          have hp3 := s3 _ _ hp2
          have pll : cs.length ≤ 26 := by omega
          refine ⟨p, _, _, rfl, rfl, hp3, by rw [List.length_map, List.length_map, sizeLine_eq]; omega, cs ++ [c], L.eraseIdx j, _, _, rfl, by rw [upd_ne (Ne.symm pl)]; exact s3 _ _ hl2, ?_, perm.nodup_iff.mpr nd, fun d hd => hr d (perm.mem_iff.mp hd), by rw [List.length_append, lc]; rfl, ?_, keep_new (kH2.trans (Keep.of s3)) npH, (B2'.same s3).upd pb⟩
          · show upd G3 p _ p = _
            rw [upd_same, List.map_append, List.map_append]
            rfl
          · rw [List.length_eraseIdx_of_lt hj, lL]
            omega
      · rintro σ G ⟨cs, L, u1, u2, rfl, hl1, hp1, nd, hr, lc, lL, kH, Bg1⟩
        refine ⟨_, rfl, k p (cs.map (titleOf ah z)) G kH Bg1 npH pb hp1 (by rw [List.length_map, lc]; omega) ?_ ?_⟩
        · rw [List.nodup_append] at nd
          refine List.Pairwise.map _ (fun a c hac e => hac (title_inj e)) nd.1
        · intro w hw'
          obtain ⟨c, hc, rfl⟩ := List.mem_map.mp hw'
          exact title_class hw hz7 (hz0 c (hr c (List.mem_append_left _ hc))).1 (hz0 c (hr c (List.mem_append_left _ hc))).2
end
end K03

namespace K03
open PySem PySem.Spec PyProof.Rows L2 EV TL LM
/-! ### the law's rows in the heap -/
def KAtP (P : Addr → Prop) (H : Hp) (t : Addr) : KRow → Prop
  | .lib x => H t = some (.tup [.str "library", .str (rowL (.lib x)), .str x])
  | .needs p => H t = some (.tup [.str "needs", .str (rowL (.needs p)), .str p])
  | .keeps n s => H t = some (.tup [.str "keeps", .str (rowL (.keeps n s)), .str n, .str s])
  | .hook => H t = some (.tup [.str "hook", .str "hook call", .str ""])
  | .by_ s ch m => ∃ c, P c ∧ H t = some (.tup [.str "by", .str (rowL (.by_ s ch m)), .str s, .ref c, .bl (m == "hook")]) ∧ StrsAt H c ch
theorem KAtP.mono {P P' : Addr → Prop} {H H' : Hp} {t : Addr} {r : KRow} (h : KAtP P H t r) (hT : ∀ a xs, H a = some (.tup xs) → H' a = some (.tup xs)) (hL : ∀ c, P c → ∀ xs, H c = some (.lst xs) → P' c ∧ H' c = some (.lst xs)) : KAtP P' H' t r := by
  cases r with
  | by_ s ch m =>
    obtain ⟨c, h1, h2, h3⟩ := h
    exact ⟨c, (hL c h1 _ h3).1, hT _ _ h2, (hL c h1 _ h3).2⟩
  | lib _ => exact hT _ _ h
  | needs _ => exact hT _ _ h
  | keeps _ _ => exact hT _ _ h
  | hook => exact hT _ _ h
/-- tuples that stand, stand on where a list is written -/
theorem tupU {H : Hp} {l : Addr} {xs : List V} {o : HO} (h : H l = some (.lst xs)) : ∀ t ys, H t = some (.tup ys) → upd H l o t = some (.tup ys) := fun t ys z => by
  rw [upd_ne (fun e => by rw [e, h] at z; cases z)]
  exact z
theorem tupK {H G : Hp} {b : Addr} (k : Keep b H G) (B : BagAt H b) : ∀ t ys, H t = some (.tup ys) → G t = some (.tup ys) := fun t ys z =>
  k _ _ (fun e => by obtain ⟨_, _, _, q, _⟩ := B; rw [e, q] at z; cases z) z
theorem ne_of_new {H : Hp} {a c : Addr} {o : HO} (h : H a = some o) (n : H c = none) : c ≠ a := fun e => by
  rw [e, h] at n
  cases n
theorem BagAt.nlst {H : Hp} {b : Addr} {xs : List V} {p : Addr} (B : BagAt H b) (h : H p = some (.lst xs)) (n : ∀ i : Int, xs[0]? ≠ some (.int i)) : p ≠ b := fun e => by
  obtain ⟨d, m, c, q, _⟩ := B
  rw [e, q] at h
  injection h with h
  injection h with h
  exact n d (by rw [← h]; rfl)
theorem BagAt.nstr {H : Hp} {b : Addr} {ws : List Str} {p : Addr} (B : BagAt H b) (h : StrsAt H p ws) : p ≠ b := B.nlst h fun i e => by
  rw [List.getElem?_map] at e
  cases q : ws[0]? with
  | none => rw [q] at e; cases e
  | some w => rw [q] at e; injection e with e; cases e
theorem ne_lists {K : Fg} {H : Hp} {p q : Addr} {ws zs : List Str} {Q : VK} (h1 : SqL K H p (ws.map V.str)) (h2 : SqL K H q (zs.map V.str)) (o1 : ∀ w ∈ ws, PyData.strOk w = true) (o2 : ∀ w ∈ zs, PyData.strOk w = true)
    (k : Q (.bl (!decide (ws = zs))) H) : rNeD K (.ref p) (.ref q) H Q := by
  refine ⟨_, _, dp_strs h1, dp_strs h2, shaped_strs ws o1, shaped_strs zs o2, ?_⟩
  show Q (.bl (!PyData.eqvAll (ws.map PyData.str) (zs.map PyData.str))) H
  rw [eqv_strs]
  exact k
section
variable {P : Program} {w : World} {K : Fg} {mg : Str → Option Value} {base : Heap}
def spOper : Sp := fun vs H Q _ => ∃ (b pl : Addr) (parts : List Str), vs = [.ref b, .ref pl] ∧ BagAt H b ∧ StrsAt H pl parts ∧ parts.length ≤ 3 ∧ (∀ p ∈ parts, fieldName p = true) ∧
  ∀ (t : Addr) (r : KRow) (H' : Hp), Keep b H H' → BagAt H' b → KAtP (fun c => H c = none) H' t r → RowOk r → Q (.ref t) H'
theorem ok_law_operation {f : Addr} {fd : FuncData} (F : Fun K "_law_operation" "_law_operation" s_law_operation f fd) (T : Cst K mg) (O_law_take : Ok P w K mg base 1 "_law_take" ["bag", "many"] spTake) (O_law_of : Ok P w K mg base 2 "_law_of" ["bag", "some"] spOf) :
    FnOk P w K mg base CX0 3 f fd ["bag", "parts"] spOper := by
  refine F.ok sc_law_operation (fun vs H Q E h => ?_) (fun cdv A outer s H vs Q E hr h => ?_)
  · obtain ⟨b, pl, parts, rfl, _⟩ := h
    rfl
  · obtain ⟨b, pl, parts, rfl, B, hpl, lp, fp, k⟩ := h
    refine ⟨_, (pss_cons (ps_set (i := 2) sc_law_operation.nd rfl (Or.inr rfl) (pe_callO O_law_of (hr.mono (by decide)) (pa_cons (pv 0) (pa_cons (pe_lst (pa_cons pe_str (pa_cons pe_str (pa_cons pe_str (pa_cons pe_str (pa_cons pe_str (pa_cons pe_str (pa_cons pe_str (pa_cons pe_str (pa_cons pe_str (pa_cons pe_str (pa_cons pe_str (pa_cons pe_str (pa_cons pe_str (pa_cons pe_str pa_nil))))))))))))))) pa_nil))))
    (pss_cons (ps_setLc (i := 3) (own := [("part", 6)]) rfl sc_law_operation.nd rfl rfl (sw_true rfl rfl rfl (by decide +kernel)) (pi_list (pv 1)) (blkOk_by (own := [("part", 6)]) (N := ["bag", "parts", "sign", "changed", "maker", "told", "part"]) (sc := defScope s_law_operation) (by decide +kernel)) (fun _ _ _ _ _ => (pg_name (i := 6) sc_law_operation.nd rfl (Or.inl rfl))) (fun _ _ _ _ _ => (pts_one (PW.pt (pw_and (pt_cmpR op_ne (pv 2) pe_str (nomark _)) (pw_and1 (pt_cmpR op_eq (pe_callO O_law_take (hr.mono (by decide)) (pa_cons (pv 0) (pa_cons pe_int pa_nil))) pe_int (nomark _))))))) (fun _ _ _ _ _ => (pv 6)))
    (pss_cons (ps_mid (ps_if (pt_cmpR op_eq (pe_callO O_law_take (hr.mono (by decide)) (pa_cons (pv 0) (pa_cons pe_int pa_nil))) pe_int (nomark _)) (pss_one (ps_set (i := 3) sc_law_operation.nd rfl (Or.inl rfl) (pe_revL (pv 3)))) pss_nil))
    (pss_cons (ps_set (i := 4) sc_law_operation.nd rfl (Or.inl rfl) (pe_callO O_law_of (hr.mono (by decide)) (pa_cons (pv 0) (pa_cons (pe_lst (pa_cons pe_str (pa_cons pe_str (pa_cons pe_str (pa_cons pe_str (pa_cons pe_str pa_nil)))))) pa_nil))))
    (pss_cons (ps_set (i := 4) sc_law_operation.nd rfl (Or.inl rfl) (pe_mid (pe_ifExp (PW.pt (pw_and (pt_cmpR op_eq (pv 2) pe_str (nomark _)) (pw_and1 (pt_cmpR op_eq (pv 4) pe_str (nomark _))))) pe_str (pv 4))))
    (pss_cons (ps_set (i := 5) sc_law_operation.nd rfl (Or.inl rfl) (pe_mid (pe_ifExp (pt_cmpR (op_neD hr.units) (pv 3) (pe_lst pa_nil) (nomark _)) (pe_op op_add_str pe_str (pe_join pe_str (pv 3))) pe_str)))
    (pss_one (ps_ret (pe_tup (pa_cons pe_str (pa_cons (pe_op op_add_str (pe_op op_add_str (pe_op op_add_str (pv 2) (pv 5)) pe_str) (pv 4)) (pa_cons (pv 2) (pa_cons (pv 3) (pa_cons (pe_cmpR op_eq (pv 4) pe_str (nomark _)) pa_nil)))))))))))))), ?_⟩
    have plb : pl ≠ b := B.nstr hpl
    refine ⟨_, rfl, by show 14 ≤ sizeLine; decide, fun l nl => ⟨b, l, _, rfl, B.same (same_upd nl), upd_same, B.ne nl, by show 0 < 14; decide, by show 14 ≤ 1000; decide, fun x G1 hx k1 B1 => ?_⟩⟩
    obtain ⟨s, hs, rfl⟩ := List.mem_map.mp (show x ∈ sgn14.map V.str from hx)
    have K1 : Keep b H G1 := (Keep.of (same_upd nl)).trans k1
    have hpl1 : StrsAt G1 pl parts := K1 _ _ plb hpl
    clear k1 hx
    refine ⟨_, rfl, pl, rfl, ⟨_, SqL.of hpl1⟩, fun D nD => ?_⟩
    have Db := B1.ne nD
    refine lc_it (walk_list (xs := parts.map V.str)) (fun j G' => ∃ ch : List Str, (∀ p ∈ ch, p ∈ parts) ∧ ch.length ≤ j ∧ (s = "make zero" → ch = []) ∧ StrsAt G' D ch ∧ Keep b G1 G' ∧ BagAt G' b)
      ⟨[], (fun p hp => by cases hp), Nat.le_refl _, fun _ => rfl, upd_same, Keep.of (same_upd nD), B1.upd Db⟩ (fun j G' _ q => by
        obtain ⟨_, _, _, _, _, q, _⟩ := q
        exact SqL.of (q _ _ plb hpl1)) ?_ ?_
    · rintro j x G0 G' hj ⟨ch, h1, h2, h3, h4, k4, B4⟩ ⟨rfl, hx⟩
      obtain ⟨y, hy, rfl⟩ : ∃ y, parts[j]? = some y ∧ V.str y = x := by
        rw [List.getElem?_map] at hx
        cases e : parts[j]? with
        | none => rw [e] at hx; cases hx
        | some y => rw [e] at hx; exact ⟨y, rfl, by injection hx⟩
      rw [List.length_map] at hj
      refine ⟨rfl, _, rfl, rfl, _, rfl, ?_⟩
      refine ite2 (fun hz => ?_) (fun hz => ?_)
      · refine ⟨_, rfl, b, 3, rfl, B4, by decide, by decide, fun r4 G4 _ _ k5 B5 => ⟨rfl, _, rfl, ite2 (fun _ => ?_) (fun _ => ?_)⟩⟩
        · refine ⟨_, rfl, ch.map V.str, k5 _ _ Db h4, by rw [List.length_map, sizeLine_eq]; omega, ch ++ [y], ?_, by rw [List.length_append]; show ch.length + 1 ≤ _; omega, fun e => ?_, ?_, keep_new (k4.trans k5) nD, B5.upd Db⟩
          · intro p hp
            rcases List.mem_append.mp hp with hp | hp
            · exact h1 p hp
            · rw [List.mem_singleton.mp hp]
              exact List.mem_of_getElem? hy
          · rw [e] at hz
            exact absurd hz (by decide +kernel)
          · show upd G4 D _ D = _
            rw [upd_same, List.map_append]
            rfl
        · exact ⟨ch, h1, by omega, h3, k5 _ _ Db h4, k4.trans k5, B5⟩
      · exact iteF ⟨ch, h1, by omega, h3, h4, k4, B4⟩
    rintro G2 ⟨ch, h1, h2, h3, h4, k4, B4⟩
    rw [List.length_map] at h2
    refine ⟨fun σ' G => ∃ (D' : Addr) (ch : List Str), σ' = [some (.ref b), some (.ref pl), some (.str s), some (.ref D'), none, none, none] ∧ (∀ p ∈ ch, p ∈ parts) ∧ ch.length ≤ 3 ∧ (s = "make zero" → ch = []) ∧ StrsAt G D' ch ∧ H D' = none ∧ Keep b H G ∧ BagAt G b, ?_, ?_⟩
    · have nDH : H D = none := by
        cases e : H D with
        | none => rfl
        | some o => rw [K1 _ _ Db e] at nD; cases nD
      refine ⟨_, rfl, b, 8, rfl, B4, by decide, by decide, fun r4 G4 _ _ k5 B5 => ⟨rfl, _, rfl, ite2 (fun _ => ?_) (fun _ => ?_)⟩⟩
      · refine ⟨_, rfl, D, _, rfl, SqL.of (k5 _ _ Db h4), fun D2 nD2 => ?_⟩
        have D2b := B5.ne nD2
        refine ⟨D2, ch.reverse, rfl, (fun p hp => h1 p (List.mem_reverse.mp hp)), by rw [List.length_reverse]; omega, fun e => by rw [h3 e]; rfl, ?_, ?_, keep_new ((K1.trans k4).trans k5) ?_, B5.upd D2b⟩
        · show upd G4 D2 _ D2 = _
          rw [upd_same, List.map_reverse]
        all_goals
          cases e : H D2 with
          | none => rfl
          | some o => rw [k5 _ _ D2b (k4 _ _ D2b (K1 _ _ D2b e))] at nD2; cases nD2
      · exact ⟨D, ch, rfl, h1, by omega, h3, k5 _ _ Db h4, nDH, (K1.trans k4).trans k5, B5⟩
    clear h1 h2 h3 h4 k4 B4 K1 hpl1 nD Db B1
    rintro σ' G ⟨D', ch, rfl, h1, h2, h3, h4, h5, KG, BG⟩
    have okc : ∀ p ∈ ch, PyData.strOk p = true := fun p hp => strOk_field (fp p (h1 p hp))
    have Db : D' ≠ b := BG.nstr h4
    refine ⟨_, rfl, by show 5 ≤ sizeLine; decide, fun l nl => ⟨b, l, _, rfl, BG.same (same_upd nl), upd_same, BG.ne nl, by show 0 < 5; decide, by show 5 ≤ 1000; decide, fun x G2 hx k2 B2 => ?_⟩⟩
    obtain ⟨m0, hm0, rfl⟩ := List.mem_map.mp (show x ∈ mk5.map V.str from hx)
    have K2 : Keep b G G2 := (Keep.of (same_upd nl)).trans k2
    have h42 : StrsAt G2 D' ch := K2 _ _ Db h4
    clear hx k2
    refine ⟨fun v G' => ∃ m : Str, v = V.str m ∧ G2 = G' ∧ m ∈ mk5 ∧ (s = "make zero" → m ≠ "hook"), ⟨_, rfl, rfl, _, rfl, ?_⟩, ?_⟩
    · rw [eq_str]
      refine ite2 (fun e1 => ⟨_, rfl, rfl, _, rfl, ?_⟩) (fun e1 => ?_)
      · rw [eq_str]
        refine ite2 (fun e2 => ⟨"named", rfl, rfl, by decide +kernel, fun _ => by decide +kernel⟩) (fun e2 => ⟨_, rfl, m0, rfl, rfl, hm0, fun _ e => e2 (by rw [e]; exact beq_self_eq_true _)⟩)
      · exact iteF ⟨_, rfl, m0, rfl, rfl, hm0, fun e => absurd (by rw [e]; exact beq_self_eq_true _) e1⟩
    rintro _ _ ⟨m, rfl, rfl, hm, hz⟩
    have okr : ByOk s ch m := ⟨hs, fun p hp => fp p (h1 p hp), h2, hm, fun e => ⟨h3 e, hz e⟩⟩
    have rf := row_fine (r := .by_ s ch m) okr
    obtain ⟨n1, n2, n3, n4, n5, n6, n7, n8, n9, n10⟩ := n_lib
    have ls := (sgn_fine s hs).1
    have lm := (mk5_fine m hm).len
    have lj := len_joined " " ch 8 fun p hp => le8_field (fp p (h1 p hp))
    rw [n9] at lj
    have lj2 : ch.length * (8 + 1) ≤ 3 * (8 + 1) := Nat.mul_le_mul_right _ h2
    have l0 : ("" : Str).length = 0 := by decide +kernel
    refine ⟨fun v G' => v = V.str (if ch = [] then ("" : Str) else (" changes " : Str) ++ Str.join " " ch) ∧ Same G2 G', ⟨_, rfl, by show 0 ≤ sizeLine; decide, fun l2 nl2 => ?_⟩, ?_⟩
    · have h43 := same_upd (o := .lst []) nl2 _ _ h42
      have s3 : Same G2 (upd G2 l2 (.lst [])) := same_upd nl2
      have hl2 : upd G2 l2 (.lst []) l2 = some (.lst (([] : List Str).map V.str)) := upd_same
      generalize upd G2 l2 (.lst []) = G3 at h43 s3 hl2
      refine ne_lists (zs := []) (SqL.of h43) (SqL.of hl2) okc (fun w hw => by cases hw) ⟨_, rfl, ite2 (fun e => ?_) (fun e => ?_)⟩
      · have hne : ch ≠ [] := fun q => by rw [q] at e; simp at e
        refine ⟨⟨_, rfl⟩, _, rfl, _, D', ch, rfl, rfl, .inl (SqL.of h43), ?_, ?_⟩
        · rw [n9]
          have := sum_short (b := 8) fun p hp => le8_field (fp p (h1 p hp))
          omega
        · rw [join_eq]
          refine ⟨_, _, rfl, rfl, by rw [n8, sizeLine_eq]; omega, ?_, s3⟩
          rw [if_neg hne]
      · have hne : ch = [] := Classical.byContradiction fun q => e (by rw [decide_eq_false q]; rfl)
        exact ⟨by rw [if_pos hne], s3⟩
    rintro _ G4 ⟨rfl, s4⟩
    have lt : (if ch = [] then ("" : Str) else (" changes " : Str) ++ Str.join " " ch).length ≤ 40 := by
      split
      · omega
      · rw [LM.len_cat, n8]
        omega
    refine ⟨_, rfl, _, rfl, _, _, rfl, rfl, by rw [sizeLine_eq]; omega, _, _, rfl, rfl, by rw [LM.len_cat, n7, sizeLine_eq]; omega, _, rfl, _, _, rfl, rfl, by rw [LM.len_cat, LM.len_cat, n7, sizeLine_eq]; omega, _, rfl, _, rfl, _, rfl, rfl, by show 5 ≤ sizeLine; decide, fun t nt => ?_⟩
    rw [eq_str]
    have h44 : StrsAt G4 D' ch := s4 _ _ h42
    have tD : D' ≠ t := fun e => by
      have z : G4 D' = _ := h44
      rw [e, nt] at z
      cases z
    have KF : Keep b H G4 := (KG.trans K2).trans (Keep.of s4)
    refine k t (.by_ s ch m) _ (keep_new KF ?_) ((B2.same s4).upd ((B2.same s4).ne nt)) ⟨D', h5, ?_, ?_⟩ okr
    · cases e : H t with
      | none => rfl
      | some o => rw [KF _ _ ((B2.same s4).ne nt) e] at nt; cases nt
    · rw [upd_same]
      rfl
    · show upd G4 t _ D' = _
      rw [upd_ne tD]
      exact h44
end
end K03

namespace K03
open PySem PySem.Spec PyProof.Rows L2 EV TL LM
/-- the law's list of rows -/
structure KsAt (b fl : Addr) (G : Hp) (ps : List (Addr × KRow)) : Prop where
  hf : G fl = some (.lst (ps.map fun p => V.ref p.1))
  all : ∀ p ∈ ps, KAtP (fun c => c ≠ b ∧ c ≠ fl) G p.1 p.2 ∧ RowOk p.2
structure RS (b pf D fl : Addr) (H G : Hp) (ws parts : List Str) (ps : List (Addr × KRow)) (n : Nat) : Prop where
  ks : KsAt b fl G ps
  len : ps.length ≤ n
  keep : Keep b H G
  bag : BagAt G b
  hw : StrsAt G pf ws
  hd : StrsAt G D parts
section
variable {b pf D fl : Addr} {H G G' : Hp} {ws parts : List Str} {ps : List (Addr × KRow)} {n : Nat}
theorem KsAt.draw (h : KsAt b fl G ps) (k : Keep b G G') (B : BagAt G b) (n : fl ≠ b) : KsAt b fl G' ps :=
  ⟨k _ _ n h.hf, fun p hp => ⟨(h.all p hp).1.mono (tupK k B) fun c hc xs z => ⟨hc, k _ _ hc.1 z⟩, (h.all p hp).2⟩⟩
theorem KsAt.same (h : KsAt b fl G ps) (s : Same G G') : KsAt b fl G' ps :=
  ⟨s _ _ h.hf, fun p hp => ⟨(h.all p hp).1.mono (fun _ _ z => s _ _ z) fun c hc xs z => ⟨hc, s _ _ z⟩, (h.all p hp).2⟩⟩
theorem KsAt.put {qs : List (Addr × KRow)} (h : KsAt b fl G ps) (hq : ∀ p ∈ qs, KAtP (fun c => c ≠ b ∧ c ≠ fl) G p.1 p.2 ∧ RowOk p.2) : KsAt b fl (upd G fl (.lst (qs.map fun p => V.ref p.1))) qs :=
  ⟨upd_same, fun p hp => ⟨(hq p hp).1.mono (tupU h.hf) fun c hc xs z => ⟨hc, by rw [upd_ne hc.2]; exact z⟩, (hq p hp).2⟩⟩
theorem RS.draw (h : RS b pf D fl H G ws parts ps n) (k : Keep b G G') (B : BagAt G' b) (n1 : fl ≠ b) (n2 : pf ≠ b) (n3 : D ≠ b) : RS b pf D fl H G' ws parts ps n :=
  ⟨h.ks.draw k h.bag n1, h.len, h.keep.trans k, B, k _ _ n2 h.hw, k _ _ n3 h.hd⟩
theorem RS.same (h : RS b pf D fl H G ws parts ps n) (s : Same G G') : RS b pf D fl H G' ws parts ps n :=
  ⟨h.ks.same s, h.len, h.keep.trans (Keep.of s), h.bag.same s, s _ _ h.hw, s _ _ h.hd⟩
theorem RS.put {qs : List (Addr × KRow)} {m : Nat} (h : RS b pf D fl H G ws parts ps n) (hq : ∀ p ∈ qs, KAtP (fun c => c ≠ b ∧ c ≠ fl) G p.1 p.2 ∧ RowOk p.2) (hm : qs.length ≤ m) (n1 : fl ≠ b) (n2 : pf ≠ fl) (n3 : D ≠ fl) (nH : H fl = none) :
    RS b pf D fl H (upd G fl (.lst (qs.map fun p => V.ref p.1))) ws parts qs m :=
  ⟨h.ks.put hq, hm, keep_new h.keep nH, h.bag.upd n1, by show upd G fl _ pf = _; rw [upd_ne n2]; exact h.hw, by show upd G fl _ D = _; rw [upd_ne n3]; exact h.hd⟩
theorem RS.push {t : Addr} {r : KRow} (h : RS b pf D fl H G ws parts ps n) (hk : KAtP (fun c => c ≠ b ∧ c ≠ fl) G t r) (hr : RowOk r) (n1 : fl ≠ b) (n2 : pf ≠ fl) (n3 : D ≠ fl) (nH : H fl = none) :
    RS b pf D fl H (upd G fl (.lst ((ps.map fun p => V.ref p.1) ++ [V.ref t]))) ws parts (ps ++ [(t, r)]) (n + 1) := by
  have q := h.put (qs := ps ++ [(t, r)]) (m := n + 1) (fun p hp => by
    rcases List.mem_append.mp hp with hp | hp
    · exact h.ks.all p hp
    · rw [List.mem_singleton.mp hp]
      exact ⟨hk, hr⟩) (by rw [List.length_append]; have := h.len; show ps.length + 1 ≤ _; omega) n1 n2 n3 nH
  rw [List.map_append] at q
  exact q
end
theorem set_mem {α : Type} {l : List α} {i : Nat} {x : α} {p : α} (h : p ∈ l.set i x) (hx : x ∈ l) : p ∈ l := by
  rcases List.mem_or_eq_of_mem_set h with h | h
  · exact h
  · rw [h]
    exact hx
theorem upd_upd {H : Hp} {p : Addr} {o u : HO} : upd (upd H p o) p u = upd H p u := by
  funext a
  by_cases e : a = p
  · subst e
    rw [upd_same, upd_same]
  · rw [upd_ne e, upd_ne e, upd_ne e]
theorem ix_ok {n j : Nat} (h : j < n) : ixN n ((j : Nat) : Int) = some j := by
  unfold ixN
  rw [if_pos (by omega), if_pos (by omega), Int.toNat_natCast]
theorem sq_ok {n j : Nat} (h : j < n) : seqIndex? ((j : Nat) : Int) n = some j := (ixN_seq (n := n) (i := ((j : Nat) : Int)) (j := j) (ix_ok h)).1
section
variable {P : Program} {w : World} {K : Fg} {mg : Str → Option Value} {base : Heap}
def spRows : Sp := fun vs H Q _ => ∃ b : Addr, vs = [.ref b] ∧ BagAt H b ∧
  ∀ (fl : Addr) (ps : List (Addr × KRow)) (H' : Hp), Keep b H H' → BagAt H' b → H fl = none → fl ≠ b → KsAt b fl H' ps → ps.length ≤ 30 → Q (.ref fl) H'
theorem ok_law_rows {f : Addr} {fd : FuncData} (F : Fun K "_law_rows" "_law_rows" s_law_rows f fd) (T : Cst K mg) (O_law_take : Ok P w K mg base 1 "_law_take" ["bag", "many"] spTake) (O_law_of : Ok P w K mg base 2 "_law_of" ["bag", "some"] spOf)
    (O_law_words : Ok P w K mg base 3 "_law_words" ["bag", "many"] spWords) (O_law_titles : Ok P w K mg base 3 "_law_titles" ["bag", "many"] spTitles) (O_law_operation : Ok P w K mg base 3 "_law_operation" ["bag", "parts"] spOper) :
    FnOk P w K mg base CX0 4 f fd ["bag"] spRows := by
  refine F.ok sc_law_rows (fun vs H Q E h => ?_) (fun cdv A outer s H vs Q E hr h => ?_)
  · obtain ⟨b, rfl, _⟩ := h
    rfl
  · obtain ⟨b, rfl, B, k⟩ := h
    refine ⟨_, (pss_cons (ps_set (i := 1) sc_law_rows.nd rfl (Or.inr rfl) (pe_callO O_law_words (hr.mono (by decide)) (pa_cons (pv 0) (pa_cons pe_int pa_nil))))
    (pss_cons (ps_set (i := 2) sc_law_rows.nd rfl (Or.inl rfl) (pe_ix ix_list (pe_callO O_law_titles (hr.mono (by decide)) (pa_cons (pv 0) (pa_cons pe_int pa_nil))) pe_int (fun _ _ => rfl)))
    (pss_cons (ps_setLc (i := 3) (own := [("turn", 5)]) rfl sc_law_rows.nd rfl rfl (sw_true rfl rfl rfl (by decide +kernel)) (pi_range1 rfl T.n_range (pa_cons (pe_callO O_law_take (hr.mono (by decide)) (pa_cons (pv 0) (pa_cons pe_int pa_nil))) pa_nil)) (blkOk_by (own := [("turn", 5)]) (N := ["bag", "fields", "title", "parts", "found", "turn", "name", "source", "one", "two", "part"]) (sc := defScope s_law_rows) (by decide +kernel)) (fun _ _ _ _ _ => (pg_name (i := 5) sc_law_rows.nd rfl (Or.inl rfl))) (fun _ _ _ _ _ => pts_nil) (fun _ _ _ _ _ => (pe_ix (show IxR _ (rIxL K) from ix_list) (pv 1) (pe_mid (pe_ifExp (pt_cmpR op_eq (pe_callO O_law_take (hr.mono (by decide)) (pa_cons (pv 0) (pa_cons pe_int pa_nil))) pe_int (nomark _)) (pe_callO O_law_take (hr.mono (by decide)) (pa_cons (pv 0) (pa_cons pe_int pa_nil))) (pv 5))) (fun _ _ => rfl))))
    (pss_cons (ps_set (i := 4) sc_law_rows.nd rfl (Or.inl rfl) (pe_op op_cat (pe_lst (pa_cons (pe_tup (pa_cons pe_str (pa_cons (pe_op op_add_str pe_str (pv 2)) (pa_cons (pv 2) pa_nil)))) pa_nil)) (pe_lc (own := [("part", 10)]) rfl sc_law_rows.nd (pi_list (pv 3)) (blkOk_by (own := [("part", 10)]) (N := ["bag", "fields", "title", "parts", "found", "turn", "name", "source", "one", "two", "part"]) (sc := defScope s_law_rows) (by decide +kernel)) (fun _ _ _ _ _ => (pg_name (i := 10) sc_law_rows.nd rfl (Or.inl rfl))) (fun _ _ _ _ _ => pts_nil) (fun _ _ _ _ _ => (pe_tup (pa_cons pe_str (pa_cons (pe_op op_add_str pe_str (pv 10)) (pa_cons (pv 10) pa_nil))))))))
    (pss_cons (ps_for PassesOwn.never rfl (pi_range1 rfl T.n_range (pa_cons (pe_callO O_law_take (hr.mono (by decide)) (pa_cons (pv 0) (pa_cons pe_int pa_nil))) pa_nil)) (pg_name (i := 5) sc_law_rows.nd rfl (Or.inl rfl)) (pss_cons (ps_set (i := 6) sc_law_rows.nd rfl (Or.inl rfl) (pe_ix ix_list (pv 1) (pe_mid (pe_ifExp (pt_cmpR op_eq (pe_callO O_law_take (hr.mono (by decide)) (pa_cons (pv 0) (pa_cons pe_int pa_nil))) pe_int (nomark _)) (pe_callO O_law_take (hr.mono (by decide)) (pa_cons (pv 0) (pa_cons pe_int pa_nil))) (pe_op op_add pe_int (pv 5)))) (fun _ _ => rfl)))
    (pss_cons (ps_set (i := 7) sc_law_rows.nd rfl (Or.inl rfl) (pe_mid (pe_ifExp (PW.pt (pw_or (pt_cmpR op_eq (pe_callO O_law_take (hr.mono (by decide)) (pa_cons (pv 0) (pa_cons pe_int pa_nil))) pe_int (nomark _)) (pw_or1 (pt_cmpR (op_eqD hr.units) (pv 3) (pe_lst pa_nil) (nomark _))))) (pe_callO O_law_of (hr.mono (by decide)) (pa_cons (pv 0) (pa_cons (pv 1) pa_nil))) (pe_callO O_law_of (hr.mono (by decide)) (pa_cons (pv 0) (pa_cons (pv 3) pa_nil))))))
    (pss_one (ps_expr (pe_bm PySem.F.plainAttrs_list PySem.F.slot_list_append PySem.F.type_list_append mt_append (pv 4) (pa_cons (pe_tup (pa_cons pe_str (pa_cons (pe_op op_add_str (pe_op op_add_str (pe_op op_add_str pe_str (pv 6)) pe_str) (pv 7)) (pa_cons (pv 6) (pa_cons (pv 7) pa_nil))))) pa_nil)))))))
    (pss_cons (ps_for PassesOwn.never rfl (pi_range1 rfl T.n_range (pa_cons (pe_callO O_law_of (hr.mono (by decide)) (pa_cons (pv 0) (pa_cons (pe_lst (pa_cons pe_int (pa_cons pe_int (pa_cons pe_int (pa_cons pe_int pa_nil))))) pa_nil))) pa_nil)) (pg_name (i := 5) sc_law_rows.nd rfl (Or.inl rfl)) (pss_one (ps_expr (pe_bm PySem.F.plainAttrs_list PySem.F.slot_list_append PySem.F.type_list_append mt_append (pv 4) (pa_cons (pe_tup (pa_cons pe_str (pa_cons pe_str (pa_cons pe_str pa_nil)))) pa_nil)))))
    (pss_cons (ps_for PassesOwn.never rfl (pi_range1 rfl T.n_range (pa_cons (pe_callO O_law_take (hr.mono (by decide)) (pa_cons (pv 0) (pa_cons pe_int pa_nil))) pa_nil)) (pg_name (i := 5) sc_law_rows.nd rfl (Or.inl rfl)) (pss_one (ps_expr (pe_bm PySem.F.plainAttrs_list PySem.F.slot_list_append PySem.F.type_list_append mt_append (pv 4) (pa_cons (pe_callO O_law_operation (hr.mono (by decide)) (pa_cons (pv 0) (pa_cons (pe_slice sl_list (pv 3) po_none (po_some pe_int)) pa_nil))) pa_nil)))))
    (pss_cons (ps_for PassesOwn.never rfl (pi_range1 rfl T.n_range (pa_cons (pe_callO O_law_of (hr.mono (by decide)) (pa_cons (pv 0) (pa_cons (pe_lst (pa_cons pe_int (pa_cons pe_int (pa_cons pe_int (pa_cons pe_int pa_nil))))) pa_nil))) pa_nil)) (pg_name (i := 5) sc_law_rows.nd rfl (Or.inl rfl)) (pss_cons (ps_par (i := 8) (j := 9) (by rfl) sc_law_rows.nd rfl rfl (by decide) rfl rfl (pa_cons (pe_callO O_law_take (hr.mono (by decide)) (pa_cons (pv 0) (pa_cons (pe_callB call_len_seq (by rfl) T.n_len (by decide +kernel) (pa_cons (pv 4) pa_nil)) pa_nil))) (pa_cons (pe_callO O_law_take (hr.mono (by decide)) (pa_cons (pv 0) (pa_cons (pe_callB call_len_seq (by rfl) T.n_len (by decide +kernel) (pa_cons (pv 4) pa_nil)) pa_nil))) pa_nil)) (by rfl))
    (pss_one (ps_asg (pe_tup (pa_cons (pe_ix ix_list (pv 4) (pv 9) (fun _ _ => rfl)) (pa_cons (pe_ix ix_list (pv 4) (pv 8) (fun _ _ => rfl)) pa_nil))) (pg_tup rfl (pgs_cons (pg_sub (pv 4) (pv 8) set_list) (pgs_cons (pg_sub (pv 4) (pv 9) set_list) pgs_nil)))))))
    (pss_cons (ps_mid (ps_if (pt_cmpR op_eq (pe_callO O_law_take (hr.mono (by decide)) (pa_cons (pv 0) (pa_cons pe_int pa_nil))) pe_int (nomark _)) (pss_one (ps_expr (pe_bm PySem.F.plainAttrs_list PySem.F.slot_list_insert PySem.F.type_list_insert mt_insert (pv 4) (pa_cons (pe_callO O_law_take (hr.mono (by decide)) (pa_cons (pv 0) (pa_cons (pe_op op_add (pe_callB call_len_seq (by rfl) T.n_len (by decide +kernel) (pa_cons (pv 4) pa_nil)) pe_int) pa_nil))) (pa_cons (pe_callO O_law_of (hr.mono (by decide)) (pa_cons (pv 0) (pa_cons (pv 4) pa_nil))) pa_nil))))) pss_nil))
    (pss_cons (ps_mid (ps_if (pt_cmpR op_eq (pe_callO O_law_take (hr.mono (by decide)) (pa_cons (pv 0) (pa_cons pe_int pa_nil))) pe_int (nomark _)) (pss_one (ps_expr (pe_bm PySem.F.plainAttrs_list PySem.F.slot_list_pop PySem.F.type_list_pop mt_popAt (pv 4) (pa_cons (pe_callO O_law_take (hr.mono (by decide)) (pa_cons (pv 0) (pa_cons (pe_callB call_len_seq (by rfl) T.n_len (by decide +kernel) (pa_cons (pv 4) pa_nil)) pa_nil))) pa_nil)))) pss_nil))
    (pss_one (ps_ret (pv 4))))))))))))), ?_⟩
    refine ⟨_, rfl, b, 8, rfl, B, by decide, fun pf ws G1 k1 B1 npf pfb hpf lws ndw fw => ⟨_, rfl, b, 1, rfl, B1, by decide, fun tlp ts G2 k2 B2 ntl tlb htl lts ndt ft => ?_⟩⟩
    obtain ⟨title, ets⟩ : ∃ title, ts = [title] := by
      match ts, lts with
      | [x], _ => exact ⟨x, rfl⟩
    subst ets
    have htc := ft title (List.mem_singleton.mpr rfl)
    refine ⟨tlp, _, ((0 : Nat) : Int), _, rfl, rfl, SqL.of htl, at_str (r := [title]) rfl, _, rfl, b, 5, rfl, B2, by decide, by decide, fun r G3 r0 r1 k3 B3 => ⟨r, rfl, by omega, by omega, fun D nD => ?_⟩⟩
    have K3 : Keep b H G3 := (k1.trans k2).trans k3
    have hpf3 : StrsAt G3 pf ws := k3 _ _ pfb (k2 _ _ pfb hpf)
    have Db := B3.ne nD
    have wf8 : ∀ {j : Nat}, j < 8 → ∃ wd, ws[j]? = some wd ∧ wd ∈ ws := fun {j} hj => ⟨ws[j]'(by omega), List.getElem?_eq_getElem (by omega), List.getElem_mem _⟩
    clear k1 k2 k3 htl hpf
    refine lc_it (walk_range (lo := 0) (n := r.toNat)) (fun i G => ∃ parts : List Str, parts.length = i ∧ (∀ p ∈ parts, p ∈ ws) ∧ StrsAt G D parts ∧ Keep b G3 G ∧ BagAt G b)
      ⟨[], rfl, (fun p hp => by cases hp), upd_same, Keep.of (same_upd nD), B3.upd Db⟩ (fun _ _ _ _ => trivial) ?_ ?_
    · rintro i x G0 G hi ⟨parts, lp, h1, h2, k4, B4⟩ ⟨rfl, rfl⟩
      refine ⟨rfl, _, rfl, fun v G' => ∃ j : Nat, v = V.int (j : Nat) ∧ j < 8 ∧ Keep b G G' ∧ BagAt G' b, ⟨_, rfl, b, 6, rfl, B4, by decide, by decide, fun r4 G4 _ _ k5 B5 => ⟨rfl, _, rfl, ite2 (fun _ => ⟨_, rfl, b, 8, rfl, B5, by decide, by decide, fun r5 G5 q0 q1 k6 B6 => ?_⟩) (fun _ => ⟨_, rfl, i, by simp, by omega, k5, B5⟩)⟩⟩, ?_⟩
      · obtain ⟨j, rfl⟩ := Int.eq_ofNat_of_zero_le q0
        exact ⟨j, rfl, by omega, k5.trans k6, B6⟩
      · rintro _ G' ⟨j, rfl, hj, k5, B5⟩
        obtain ⟨wd, hwd, mwd⟩ := wf8 hj
        refine ⟨pf, _, _, _, rfl, rfl, SqL.of (k5 _ _ pfb (k4 _ _ pfb hpf3)), at_str hwd, parts.map V.str, k5 _ _ Db h2, by rw [List.length_map, sizeLine_eq]; omega, parts ++ [wd], by rw [List.length_append, lp]; rfl, ?_, ?_, keep_new (k4.trans k5) nD, B5.upd Db⟩
        · intro p hp
          rcases List.mem_append.mp hp with hp | hp
          · exact h1 p hp
          · rw [List.mem_singleton.mp hp]
            exact mwd
        · show upd G' D _ D = _
          rw [upd_same, List.map_append]
          rfl
    rintro G4 ⟨parts, lp, h1, h2, k4, B4⟩
    have lp5 : parts.length ≤ 4 := by omega
    have K4 := K3.trans k4
    have hpf4 := k4 _ _ pfb hpf3
    have fpp : ∀ p ∈ parts, fieldName p = true := fun p hp => fw p (h1 p hp)
    clear hpf3 k4 K3 B3
    have lt8 := le8_class htc
    have n1 := n_lib.1
    have n2 := n_lib.2.1
    refine ⟨_, rfl, _, _, rfl, rfl, by rw [n1, sizeLine_eq]; omega, _, rfl, by show 3 ≤ sizeLine; decide, fun t0 nt0 => ⟨by show 1 ≤ sizeLine; decide, fun l0 nl0 => ?_⟩⟩
    have tl0 : t0 ≠ l0 := fun e => by rw [← e, upd_same] at nl0; cases nl0
    have s5 : Same G4 (upd (upd G4 t0 (.tup [.str "library", .str (("library " : Str) ++ title), .str title])) l0 (.lst [.ref t0])) := (same_upd nt0).trans (same_upd nl0)
    have ht0 : upd (upd G4 t0 (.tup [.str "library", .str (("library " : Str) ++ title), .str title])) l0 (.lst [.ref t0]) t0 = some (.tup [.str "library", .str (("library " : Str) ++ title), .str title]) := by rw [upd_ne tl0]; exact upd_same
    have hl0 : upd (upd G4 t0 (.tup [.str "library", .str (("library " : Str) ++ title), .str title])) l0 (.lst [.ref t0]) l0 = some (.lst [.ref t0]) := upd_same
    generalize upd (upd G4 t0 (.tup [.str "library", .str (("library " : Str) ++ title), .str title])) l0 (.lst [.ref t0]) = G5 at s5 ht0 hl0
    refine ⟨_, rfl, D, rfl, ⟨_, SqL.of (s5 _ _ h2)⟩, fun E2 nE2 => ?_⟩
    refine lc_it (walk_list (xs := parts.map V.str)) (fun i G => ∃ qs : List (Addr × Str), G E2 = some (.lst (qs.map fun q => V.ref q.1)) ∧ (∀ q ∈ qs, G q.1 = some (.tup [.str "needs", .str (rowL (.needs q.2)), .str q.2]) ∧ q.2 ∈ parts) ∧ qs.length ≤ i ∧ Same G5 G)
      ⟨[], upd_same, (fun q hq => by cases hq), Nat.le_refl _, same_upd nE2⟩ (fun i G _ q => by
        obtain ⟨_, _, _, _, q⟩ := q
        exact SqL.of (q _ _ (s5 _ _ h2))) ?_ ?_
    · rintro i x G0 G hi ⟨qs, q1, q2, q3, sG⟩ ⟨rfl, hx⟩
      obtain ⟨y, hy, rfl⟩ : ∃ y, parts[i]? = some y ∧ V.str y = x := by
        rw [List.getElem?_map] at hx
        cases e : parts[i]? with
        | none => rw [e] at hx; cases hx
        | some y => rw [e] at hx; exact ⟨y, rfl, by injection hx⟩
      have ym := List.mem_of_getElem? hy
      have ly := le8_field (fpp y ym)
      rw [List.length_map] at hi
      refine ⟨rfl, _, rfl, _, _, rfl, rfl, by rw [n2, sizeLine_eq]; omega, _, rfl, by show 3 ≤ sizeLine; decide, fun t nt => ?_⟩
      have tE : E2 ≠ t := fun e => by rw [e, nt] at q1; cases q1
      refine ⟨qs.map fun q => V.ref q.1, by rw [upd_ne tE]; exact q1, by rw [List.length_map, sizeLine_eq]; omega, qs ++ [(t, y)], by rw [upd_same, List.map_append]; rfl, ?_, by rw [List.length_append]; show qs.length + 1 ≤ _; omega, same_upd' (sG.trans (same_upd nt)) nE2⟩
      intro q hq
      rcases List.mem_append.mp hq with hq | hq
      · obtain ⟨z1, z2⟩ := q2 q hq
        exact ⟨tupU (by rw [upd_ne tE]; exact q1) _ _ (same_upd nt _ _ z1), z2⟩
      · rw [List.mem_singleton.mp hq]
        exact ⟨by rw [upd_ne (Ne.symm tE)]; exact upd_same, ym⟩
    rintro G6 ⟨qs, q1, q2, q3, s6⟩
    rw [List.length_map] at q3
    refine ⟨l0, E2, _, _, rfl, rfl, s6 _ _ hl0, q1, by rw [List.length_map, sizeLine_eq]; show 1 + _ ≤ _; omega, fun fl nfl => ?_⟩
    have s46 : Same G4 G6 := s5.trans s6
    have flb := (B4.same s46).ne nfl
    have pff : pf ≠ fl := Ne.symm (ne_of_new (s46 _ _ hpf4) nfl)
    have Df : D ≠ fl := Ne.symm (ne_of_new (s46 _ _ h2) nfl)
    have nflH : H fl = none := by
      cases e : H fl with
      | none => rfl
      | some o => rw [s46 _ _ (K4 _ _ flb e)] at nfl; cases nfl
    have sf := same_upd (o := .lst ([.ref t0] ++ qs.map fun q => V.ref q.1)) nfl
    have R0 : RS b pf D fl H (upd G6 fl (.lst ([.ref t0] ++ qs.map fun q => V.ref q.1))) ws parts ((t0, .lib title) :: qs.map fun q => (q.1, .needs q.2)) 5 := by
      refine ⟨⟨?_, ?_⟩, ?_, (K4.trans (Keep.of s46)).trans (Keep.of sf), (B4.same s46).same sf, sf _ _ (s46 _ _ hpf4), sf _ _ (s46 _ _ h2)⟩
      · rw [upd_same, List.map_cons, List.map_map]
        rfl
      · intro p hp
        rcases List.mem_cons.mp hp with e | hp
        · rw [e]
          exact ⟨sf _ _ (s6 _ _ ht0), htc⟩
        · obtain ⟨q, hq, rfl⟩ := List.mem_map.mp hp
          exact ⟨sf _ _ (q2 q hq).1, fpp _ (q2 q hq).2⟩
      · rw [List.length_cons, List.length_map]
        omega
    generalize upd G6 fl (.lst ([.ref t0] ++ qs.map fun q => V.ref q.1)) = G7 at R0
    clear sf s46 s6 s5 q1 q2 hl0 ht0 h2 hpf4 nfl nE2 nl0 nt0 B4 K4 nD
    obtain ⟨n1', n2', n3, n4, _⟩ := n_lib
    -- kept fields
    refine ⟨_, rfl, b, 4, rfl, R0.bag, by decide, by decide, fun r H2 r0 r1 k2 B2 => ⟨r, rfl, by omega, by omega, ?_⟩⟩
    refine for_range (lo := 0) (n := r.toNat) (fun i σ G => ∃ (ps : List (Addr × KRow)) (u5 u6 u7 : Option V), σ = [some (.ref b), some (.ref pf), some (.str title), some (.ref D), some (.ref fl), u5, u6, u7, none, none, none] ∧ 0 < ps.length ∧ RS b pf D fl H G ws parts ps (5 + i))
      ⟨(t0, KRow.lib title) :: qs.map fun q => (q.1, KRow.needs q.2), none, none, none, rfl, Nat.succ_pos _, R0.draw k2 B2 flb pfb Db⟩ ?_ ?_
    · rintro i σ G hi ⟨ps, u5, u6, u7, rfl, lps0, R⟩
      refine ⟨_, rfl, fun v G' => ∃ j : Nat, v = V.int (j : Nat) ∧ j < 8 ∧ Keep b G G' ∧ BagAt G' b, ⟨_, rfl, b, 6, rfl, R.bag, by decide, by decide, fun r4 G4 _ _ k5 B5 => ⟨rfl, _, rfl, ite2 (fun _ => ⟨_, rfl, b, 8, rfl, B5, by decide, by decide, fun r5 G5 q0 q1 k6 B6 => ?_⟩) (fun _ => ⟨_, rfl, _, _, rfl, rfl, 4 + i, ?_, by omega, k5, B5⟩)⟩⟩, ?_⟩
      · obtain ⟨j, rfl⟩ := Int.eq_ofNat_of_zero_le q0
        exact ⟨j, rfl, by omega, k5.trans k6, B6⟩
      · show V.int (4 + (0 + (i : Int))) = V.int (((4 + i : Nat)) : Int)
        rw [show (4 : Int) + (0 + (i : Int)) = ((4 + i : Nat) : Int) by omega]
      rintro _ G' ⟨j, rfl, hj, k5, B5⟩
      have R1 := R.draw k5 B5 flb pfb Db
      obtain ⟨nm, hnm, mnm⟩ := wf8 hj
      have fnm := fw nm mnm
      refine ⟨pf, _, _, _, rfl, rfl, SqL.of R1.hw, at_str hnm, ?_⟩
      refine ⟨fun v G2 => ∃ sc : Str, v = V.str sc ∧ sc ∈ ws ∧ RS b pf D fl H G2 ws parts ps (5 + i), ⟨_, rfl, b, 4, rfl, R1.bag, by decide, by decide, fun r6 G6 _ _ k6 B6 => ⟨rfl, _, rfl, ?_⟩⟩, ?_⟩
      · have R2 := R1.draw k6 B6 flb pfb Db
        have fields : ∀ G8, RS b pf D fl H G8 ws parts ps (5 + i) → spOf [.ref b, .ref pf] G8 (fun v G2 => ∃ sc : Str, v = V.str sc ∧ sc ∈ ws ∧ RS b pf D fl H G2 ws parts ps (5 + i)) E0 := fun G8 R8 =>
          ⟨b, pf, _, rfl, R8.bag, R8.hw, pfb, by rw [List.length_map]; omega, by rw [List.length_map]; omega, fun x G9 hx k9 B9 => by
            obtain ⟨sc, hsc, rfl⟩ := List.mem_map.mp hx
            exact ⟨sc, rfl, hsc, R8.draw k9 B9 flb pfb Db⟩⟩
        refine ite2 (fun _ => iteT ⟨_, rfl, _, rfl, fields _ R2⟩) (fun _ => ⟨_, rfl, by show 0 ≤ sizeLine; decide, fun l nl => ?_⟩)
        have sl : Same G6 (upd G6 l (.lst [])) := same_upd nl
        have hl : upd G6 l (.lst []) l = some (.lst (([] : List Str).map V.str)) := upd_same
        generalize upd G6 l (.lst []) = G7' at sl hl
        have R3 := R2.same sl
        refine eq_lists (zs := []) (SqL.of R3.hd) (SqL.of hl) (fun p hp => strOk_field (fpp p hp)) (fun p hp => by cases hp) ⟨_, rfl, ite2 (fun _ => ⟨_, rfl, _, rfl, fields _ R3⟩) (fun e => ⟨_, rfl, _, rfl, b, D, _, rfl, R3.bag, R3.hd, Db, ?_, by rw [List.length_map]; omega, fun x G9 hx k9 B9 => ?_⟩)⟩
        · cases parts with
          | nil => exact absurd (decide_eq_true rfl) e
          | cons _ _ => simp
        · obtain ⟨sc, hsc, rfl⟩ := List.mem_map.mp hx
          exact ⟨sc, rfl, h1 sc hsc, R3.draw k9 B9 flb pfb Db⟩
      rintro _ G2 ⟨sc, rfl, hsc, R2⟩
      have fsc := fw sc hsc
      have l1 := le8_field fnm
      have l2 := le8_field fsc
      have lps := R2.len
      refine ⟨_, rfl, .inl ⟨rfl, _, SqL.of R2.ks.hf⟩, _, rfl, _, _, rfl, rfl, by rw [n3, sizeLine_eq]; omega, _, _, rfl, rfl, by rw [LM.len_cat, n3, n4, sizeLine_eq]; omega, _, rfl, _, _, rfl, rfl, by rw [LM.len_cat, LM.len_cat, n3, n4, sizeLine_eq]; omega, _, rfl, _, rfl, by show 4 ≤ sizeLine; decide, fun t nt => ?_⟩
      have R3 := R2.same (same_upd (o := .tup [.str "keeps", .str (rowL (.keeps nm sc)), .str nm, .str sc]) nt)
      exact ⟨fl, _, _, rfl, rfl, R3.ks.hf, by rw [List.length_map, sizeLine_eq]; omega, ps ++ [(t, KRow.keeps nm sc)], _, _, _, rfl, by rw [List.length_append]; omega, R3.push (t := t) (r := KRow.keeps nm sc) upd_same ⟨fnm, fsc⟩ flb pff Df nflH⟩
    rintro σ G ⟨ps, u5, u6, u7, rfl, lps0, R⟩
    have Ra : RS b pf D fl H G ws parts ps 8 := ⟨R.ks, by have := R.len; omega, R.keep, R.bag, R.hw, R.hd⟩
    clear R R0 k2 B2 r0 r1
    -- hooks
    have drawn : ∀ (G8 : Hp) (x : V) (l : Addr), x ∈ ([V.int 0, V.int 1, V.int 1, V.int 2] : List V) ∨ x ∈ ([V.int 0, V.int 0, V.int 1, V.int 2] : List V) → ∃ j : Nat, x = V.int (j : Nat) ∧ j ≤ 2 := fun G8 x l hx => by
      simp only [List.mem_cons, List.not_mem_nil, or_false] at hx
      rcases hx with (rfl | rfl | rfl | rfl) | (rfl | rfl | rfl | rfl)
      · exact ⟨0, rfl, by decide⟩
      · exact ⟨1, rfl, by decide⟩
      · exact ⟨1, rfl, by decide⟩
      · exact ⟨2, rfl, by decide⟩
      · exact ⟨0, rfl, by decide⟩
      · exact ⟨0, rfl, by decide⟩
      · exact ⟨1, rfl, by decide⟩
      · exact ⟨2, rfl, by decide⟩
    refine ⟨_, rfl, by show 4 ≤ sizeLine; decide, fun l nl => ⟨b, l, _, rfl, Ra.bag.same (same_upd nl), upd_same, Ra.bag.ne nl, by show 0 < 4; decide, by show 4 ≤ 1000; decide, fun x G2 hx k2 B2 => ?_⟩⟩
    obtain ⟨j, rfl, hj⟩ := drawn G2 x l (.inl hx)
    have Rb := (Ra.same (same_upd nl)).draw k2 B2 flb pfb Db
    refine ⟨_, rfl, by omega, by omega, ?_⟩
    refine for_range (lo := 0) (n := ((j : Nat) : Int).toNat) (fun i σ G => ∃ (ps : List (Addr × KRow)) (u5 : Option V), σ = [some (.ref b), some (.ref pf), some (.str title), some (.ref D), some (.ref fl), u5, u6, u7, none, none, none] ∧ 0 < ps.length ∧ RS b pf D fl H G ws parts ps (8 + i))
      ⟨ps, u5, rfl, lps0, Rb⟩ ?_ ?_
    · rintro i σ G hi ⟨ps, u5, rfl, lps0, R⟩
      have lps := R.len
      refine ⟨_, rfl, .inl ⟨rfl, _, SqL.of R.ks.hf⟩, by show 3 ≤ sizeLine; decide, fun t nt => ?_⟩
      have R3 := R.same (same_upd (o := .tup [.str "hook", .str "hook call", .str ""]) nt)
      exact ⟨fl, _, _, rfl, rfl, R3.ks.hf, by rw [List.length_map, sizeLine_eq]; omega, ps ++ [(t, KRow.hook)], _, rfl, by rw [List.length_append]; omega, R3.push (t := t) (r := KRow.hook) upd_same trivial flb pff Df nflH⟩
    rintro σ G ⟨ps, u5, rfl, lps0, R⟩
    have Rc : RS b pf D fl H G ws parts ps 10 := ⟨R.ks, by have := R.len; omega, R.keep, R.bag, R.hw, R.hd⟩
    clear R Ra Rb k2 B2 hj hx
    -- operations
    refine ⟨_, rfl, b, 9, rfl, Rc.bag, by decide, by decide, fun r H2 r0 r1 k2 B2 => ⟨r, rfl, by omega, by omega, ?_⟩⟩
    refine for_range (lo := 0) (n := r.toNat) (fun i σ G => ∃ (ps : List (Addr × KRow)) (u5 : Option V), σ = [some (.ref b), some (.ref pf), some (.str title), some (.ref D), some (.ref fl), u5, u6, u7, none, none, none] ∧ 0 < ps.length ∧ RS b pf D fl H G ws parts ps (10 + i))
      ⟨_, _, rfl, lps0, Rc.draw k2 B2 flb pfb Db⟩ ?_ ?_
    · rintro i σ G hi ⟨ps, u5, rfl, lps0, R⟩
      have lps := R.len
      refine ⟨_, rfl, .inl ⟨rfl, _, SqL.of R.ks.hf⟩, _, rfl, _, rfl, 3, rfl, D, _, rfl, SqL.of R.hd, fun c nc => ?_⟩
      have ec : upd G c (.lst (cutV (parts.map V.str) none (some 3))) c = some (.lst ((parts.take 3).map V.str)) := by
        rw [upd_same, show cutV (parts.map V.str) none (some 3) = (parts.map V.str).take 3 from cut_take _ 3, ← List.map_take]
      have R1 := R.same (same_upd (o := .lst (cutV (parts.map V.str) none (some 3))) nc)
      generalize upd G c (.lst (cutV (parts.map V.str) none (some 3))) = G1 at ec R1
      refine ⟨b, c, parts.take 3, rfl, R1.bag, ec, by rw [List.length_take]; omega, fun p hp => fpp p (List.mem_of_mem_take hp), fun t r' G2 k5 B5 hk hr' => ?_⟩
      have R2 := R1.draw k5 B5 flb pfb Db
      have hk2 : KAtP (fun c => c ≠ b ∧ c ≠ fl) G2 t r' := hk.mono (fun _ _ z => z) fun c' hc xs z => ⟨⟨R1.bag.ne hc, ne_of_new R1.ks.hf hc⟩, z⟩
      exact ⟨fl, _, _, rfl, rfl, R2.ks.hf, by rw [List.length_map, sizeLine_eq]; omega, _, _, rfl, by rw [List.length_append]; omega, R2.push hk2 hr' flb pff Df nflH⟩
    rintro σ G ⟨ps, u5, rfl, lps0, R⟩
    have Rd : RS b pf D fl H G ws parts ps 18 := ⟨R.ks, by have := R.len; omega, R.keep, R.bag, R.hw, R.hd⟩
    clear R Rc k2 B2 r0 r1
    -- exchanges
    refine ⟨_, rfl, by show 4 ≤ sizeLine; decide, fun l nl => ⟨b, l, _, rfl, Rd.bag.same (same_upd nl), upd_same, Rd.bag.ne nl, by show 0 < 4; decide, by show 4 ≤ 1000; decide, fun x G2 hx k2 B2 => ?_⟩⟩
    obtain ⟨j, rfl, hj⟩ := drawn G2 x l (.inr hx)
    have Re := (Rd.same (same_upd nl)).draw k2 B2 flb pfb Db
    refine ⟨_, rfl, by omega, by omega, ?_⟩
    refine for_range (lo := 0) (n := ((j : Nat) : Int).toNat) (fun i σ G => ∃ (ps : List (Addr × KRow)) (u5 u8 u9 : Option V), σ = [some (.ref b), some (.ref pf), some (.str title), some (.ref D), some (.ref fl), u5, u6, u7, u8, u9, none] ∧ 0 < ps.length ∧ RS b pf D fl H G ws parts ps 18)
      ⟨ps, u5, _, _, rfl, lps0, Re⟩ ?_ ?_
    · rintro i σ G hi ⟨ps, u5, u8, u9, rfl, lp0, R⟩
      have lps := R.len
      refine ⟨_, rfl, _, rfl, fl, _, rfl, .inl (SqL.of R.ks.hf), b, _, rfl, R.bag, by rw [List.length_map]; omega, small200 (by omega) (by rw [List.length_map]; omega), fun r1' G3 z0 z1 k3 B3 => ?_⟩
      obtain ⟨i1, rfl⟩ := Int.eq_ofNat_of_zero_le z0
      have R1 := R.draw k3 B3 flb pfb Db
      refine ⟨_, rfl, _, rfl, fl, _, rfl, .inl (SqL.of R1.ks.hf), b, _, rfl, R1.bag, by rw [List.length_map]; omega, small200 (by omega) (by rw [List.length_map]; omega), fun r2' G4 y0 y1 k4' B4' => ?_⟩
      obtain ⟨i2, rfl⟩ := Int.eq_ofNat_of_zero_le y0
      have R2 := R1.draw k4' B4' flb pfb Db
      rw [List.length_map] at z1 y1
      have h1' : i1 < ps.length := by omega
      have h2' : i2 < ps.length := by omega
      have g1 : (ps.map fun p => V.ref p.1)[i1]? = some (V.ref ps[i1].1) := by rw [List.getElem?_map, List.getElem?_eq_getElem h1']; rfl
      have g2 : (ps.map fun p => V.ref p.1)[i2]? = some (V.ref ps[i2].1) := by rw [List.getElem?_map, List.getElem?_eq_getElem h2']; rfl
      refine ⟨_, _, rfl, _, rfl, _, rfl, fl, _, _, _, rfl, rfl, SqL.of R2.ks.hf, atI_nat g2, _, rfl, _, rfl, fl, _, _, _, rfl, rfl, SqL.of R2.ks.hf, atI_nat g1, by show 2 ≤ sizeLine; decide, fun tt ntt => ?_⟩
      have R3 := R2.same (same_upd (o := .tup [V.ref ps[i2].1, V.ref ps[i1].1]) ntt)
      have htt : upd G4 tt (.tup [V.ref ps[i2].1, V.ref ps[i1].1]) tt = some (.tup [V.ref ps[i2].1, V.ref ps[i1].1]) := upd_same
      generalize upd G4 tt (.tup [V.ref ps[i2].1, V.ref ps[i1].1]) = G5' at R3 htt
      refine ⟨tt, _, rfl, SqT.of htt, rfl, _, _, rfl, _, rfl, _, rfl, fl, _, _, i1, rfl, rfl, R3.ks.hf, by rw [List.length_map]; exact ix_ok h1', _, _, rfl, _, rfl, _, rfl, fl, _, _, i2, rfl, rfl, upd_same, by rw [List.length_set, List.length_map]; exact ix_ok h2', ?_⟩
      have m1 : ps[i1] ∈ ps := List.getElem_mem h1'
      have m2 : ps[i2] ∈ ps := List.getElem_mem h2'
      have R4 := R3.put (qs := (ps.set i1 ps[i2]).set i2 ps[i1]) (m := 18) (fun p hp => R3.ks.all p (by
        rcases List.mem_or_eq_of_mem_set hp with hp | hp
        · exact set_mem hp m2
        · rw [hp]
          exact m1)) (by rw [List.length_set, List.length_set]; exact lps) flb pff Df nflH
      rw [List.map_set, List.map_set] at R4
      refine ⟨rfl, (ps.set i1 ps[i2]).set i2 ps[i1], _, _, _, rfl, by rw [List.length_set, List.length_set]; exact lp0, ?_⟩
      rw [upd_upd]
      exact R4
    rintro σ G ⟨ps, u5, u8, u9, rfl, lp0, Rf⟩
    clear Rd Re k2 B2 hj hx
    -- one more, one less
    have lpsf := Rf.len
    refine ⟨fun σ' G' => ∃ (ps : List (Addr × KRow)), σ' = [some (.ref b), some (.ref pf), some (.str title), some (.ref D), some (.ref fl), u5, u6, u7, u8, u9, none] ∧ 0 < ps.length ∧ RS b pf D fl H G' ws parts ps 19, ?_, ?_⟩
    · refine ⟨_, rfl, b, 4, rfl, Rf.bag, by decide, by decide, fun r G2 _ _ k2 B2 => ⟨rfl, _, rfl, ?_⟩⟩
      have R1 := Rf.draw k2 B2 flb pfb Db
      refine ite2 (fun _ => ?_) (fun _ => ⟨ps, rfl, lp0, ⟨R1.ks, by omega, R1.keep, R1.bag, R1.hw, R1.hd⟩⟩)
      refine ⟨_, rfl, .inl ⟨rfl, _, SqL.of R1.ks.hf⟩, _, rfl, _, rfl, fl, _, rfl, .inl (SqL.of R1.ks.hf), _, _, rfl, rfl, b, _, rfl, R1.bag, by rw [List.length_map]; omega, small200 (by omega) (by rw [List.length_map]; omega), fun r1' G3 z0 z1 k3 B3 => ?_⟩
      obtain ⟨i1, rfl⟩ := Int.eq_ofNat_of_zero_le z0
      have R2 := R1.draw k3 B3 flb pfb Db
      refine ⟨_, rfl, _, rfl, b, fl, _, rfl, R2.bag, R2.ks.hf, flb, by rw [List.length_map]; exact lp0, by rw [List.length_map]; omega, fun x G4 hx k4' B4' => ?_⟩
      obtain ⟨q, hq, rfl⟩ := List.mem_map.mp hx
      have R3 := R2.draw k4' B4' flb pfb Db
      refine ⟨fl, _, _, _, rfl, rfl, R3.ks.hf, by rw [List.length_map, sizeLine_eq]; omega, by omega, by rw [List.length_map] at z1; omega, ?_⟩
      have R4 := R3.put (qs := ps.take i1 ++ [q] ++ ps.drop i1) (m := 19) (fun p hp => R3.ks.all p (by
        simp only [List.mem_append, List.mem_singleton] at hp
        rcases hp with (hp | hp) | hp
        · exact List.mem_of_mem_take hp
        · rw [hp]
          exact hq
        · exact List.mem_of_mem_drop hp)) (by simp only [List.length_append, List.length_take, List.length_drop, List.length_cons, List.length_nil]; omega) flb pff Df nflH
      rw [List.map_append, List.map_append, List.map_take, List.map_drop] at R4
      exact ⟨_, rfl, by simp only [List.length_append, List.length_cons]; omega, R4⟩
    rintro σ' G' ⟨ps, rfl, lp0, Rg⟩
    have lpsg := Rg.len
    refine ⟨fun σ' G' => ∃ (ps : List (Addr × KRow)), σ' = [some (.ref b), some (.ref pf), some (.str title), some (.ref D), some (.ref fl), u5, u6, u7, u8, u9, none] ∧ RS b pf D fl H G' ws parts ps 19, ?_, ?_⟩
    · refine ⟨_, rfl, b, 4, rfl, Rg.bag, by decide, by decide, fun r G2 _ _ k2 B2 => ⟨rfl, _, rfl, ?_⟩⟩
      have R1 := Rg.draw k2 B2 flb pfb Db
      refine ite2 (fun _ => ?_) (fun _ => ⟨ps, rfl, R1⟩)
      refine ⟨_, rfl, .inl ⟨rfl, _, SqL.of R1.ks.hf⟩, _, rfl, _, rfl, fl, _, rfl, .inl (SqL.of R1.ks.hf), b, _, rfl, R1.bag, by rw [List.length_map]; omega, small200 (by omega) (by rw [List.length_map]; omega), fun r1' G3 z0 z1 k3 B3 => ?_⟩
      obtain ⟨i1, rfl⟩ := Int.eq_ofNat_of_zero_le z0
      have R2 := R1.draw k3 B3 flb pfb Db
      rw [List.length_map] at z1
      have h1' : i1 < ps.length := by omega
      refine ⟨fl, _, ((i1 : Nat) : Int), i1, V.ref ps[i1].1, rfl, rfl, R2.ks.hf, by omega, by omega, by rw [List.length_map]; exact sq_ok h1', by rw [List.getElem?_map, List.getElem?_eq_getElem h1']; rfl, ?_⟩
      have R4 := R2.put (qs := ps.eraseIdx i1) (m := 19) (fun p hp => R2.ks.all p (List.mem_of_mem_eraseIdx hp)) (by rw [List.length_eraseIdx_of_lt h1']; omega) flb pff Df nflH
      rw [← erase_map] at R4
      exact ⟨_, rfl, R4⟩
    rintro σ' G' ⟨ps, rfl, Rh⟩
    exact ⟨_, rfl, k fl ps G' Rh.keep Rh.bag nflH flb Rh.ks (Nat.le_trans Rh.len (by decide))⟩
end
end K03

namespace K03
open PySem PySem.Spec PyProof.Rows L2 EV TL LM
/-! ### a row as data -/
def kindK : KRow → Str
  | .lib _ => "library"
  | .needs _ => "needs"
  | .keeps .. => "keeps"
  | .hook => "hook"
  | .by_ .. => "by"
def kcode : KRow → Nat
  | .lib _ => 0
  | .needs _ => 1
  | .keeps .. => 2
  | _ => 3
def dataK : KRow → PyData
  | .lib x => .tuple [.str "library", .str (rowL (.lib x)), .str x]
  | .needs p => .tuple [.str "needs", .str (rowL (.needs p)), .str p]
  | .keeps n s => .tuple [.str "keeps", .str (rowL (.keeps n s)), .str n, .str s]
  | .hook => .tuple [.str "hook", .str "hook call", .str ""]
  | .by_ s ch m => .tuple [.str "by", .str (rowL (.by_ s ch m)), .str s, .list (ch.map PyData.str), .bool (m == "hook")]
theorem dp_row {K : Fg} {H : Hp} {P : Addr → Prop} {t : Addr} {r : KRow} (h : KAtP P H t r) : Dp K H (.ref t) (dataK r) := by
  cases r with
  | lib x => exact .tup (SqT.of h) (.cons (.str _) (.cons (.str _) (.cons (.str _) .nil)))
  | needs x => exact .tup (SqT.of h) (.cons (.str _) (.cons (.str _) (.cons (.str _) .nil)))
  | keeps a b => exact .tup (SqT.of h) (.cons (.str _) (.cons (.str _) (.cons (.str _) (.cons (.str _) .nil))))
  | hook => exact .tup (SqT.of h) (.cons (.str _) (.cons (.str _) (.cons (.str _) .nil)))
  | by_ s ch m =>
    obtain ⟨c, _, h2, h3⟩ := h
    exact .tup (SqT.of h2) (.cons (.str _) (.cons (.str _) (.cons (.str _) (.cons (dp_strs (SqL.of h3)) (.cons (.bl _) .nil)))))
theorem fine_row {r : KRow} (h : RowOk r) : PyData.canLay0 (dataK r) = true ∧ PyData.depth (dataK r) ≤ 3 := by
  have rl := (row_fine h).2.1.ok
  cases r with
  | lib x =>
    refine ⟨?_, by simp [dataK, PyData.depth, PyData.depthAll]⟩
    show (PyData.strOk "library" && (PyData.strOk (rowL (.lib x)) && (PyData.strOk x && true))) = true
    rw [rl, (asc_class (w := x) h).ok]
    decide +kernel
  | needs x =>
    refine ⟨?_, by simp [dataK, PyData.depth, PyData.depthAll]⟩
    show (PyData.strOk "needs" && (PyData.strOk (rowL (.needs x)) && (PyData.strOk x && true))) = true
    rw [rl, strOk_field (w := x) h]
    decide +kernel
  | keeps a b =>
    refine ⟨?_, by simp [dataK, PyData.depth, PyData.depthAll]⟩
    show (PyData.strOk "keeps" && (PyData.strOk (rowL (.keeps a b)) && (PyData.strOk a && (PyData.strOk b && true)))) = true
    rw [rl, strOk_field h.1, strOk_field h.2]
    decide +kernel
  | hook =>
    refine ⟨?_, by simp [dataK, PyData.depth, PyData.depthAll]⟩
    show (PyData.strOk "hook" && (PyData.strOk "hook call" && (PyData.strOk "" && true))) = true
    decide +kernel
  | by_ s ch m =>
    have hb : ByOk s ch m := h
    have q := depth_strs ch
    refine ⟨?_, ?_⟩
    · show (PyData.strOk "by" && (PyData.strOk (rowL (.by_ s ch m)) && (PyData.strOk s && (PyData.canLayAll0 (ch.map PyData.str) && true)))) = true
      rw [rl, (sgn_fine s hb.sg).2.1.ok, can_strs ch fun p hp => strOk_field (hb.chf p hp)]
      decide +kernel
    · simp only [dataK, PyData.depth, PyData.depthAll]
      omega
theorem dp_rows {K : Fg} {H : Hp} {P : Addr → Prop} : ∀ (ps : List (Addr × KRow)), (∀ p ∈ ps, KAtP P H p.1 p.2) → DpAll K H (ps.map fun p => V.ref p.1) (ps.map fun p => dataK p.2)
  | [], _ => .nil
  | p :: ps, h => .cons (dp_row (h p (List.mem_cons_self ..))) (dp_rows ps fun q hq => h q (List.mem_cons_of_mem _ hq))
theorem fine_rows : ∀ (ps : List (Addr × KRow)), (∀ p ∈ ps, RowOk p.2) → PyData.canLayAll0 (ps.map fun p => dataK p.2) = true ∧ PyData.depthAll (ps.map fun p => dataK p.2) ≤ 3
  | [], _ => ⟨rfl, by simp [PyData.depthAll]⟩
  | p :: ps, h => by
    obtain ⟨h1, h2⟩ := fine_row (h p (List.mem_cons_self ..))
    obtain ⟨i1, i2⟩ := fine_rows ps fun q hq => h q (List.mem_cons_of_mem _ hq)
    constructor
    · show (PyData.canLay0 (dataK p.2) && PyData.canLayAll0 (ps.map fun p => dataK p.2)) = true
      rw [h1, i1]
      rfl
    · simp only [List.map_cons, PyData.depthAll]
      omega
/-- a list of rows compared with an empty list -/
theorem eq_rows {K : Fg} {H : Hp} {P : Addr → Prop} {al l : Addr} {ps : List (Addr × KRow)} {Q : VK} (ha : SqL K H al (ps.map fun p => V.ref p.1)) (hp : ∀ p ∈ ps, KAtP P H p.1 p.2 ∧ RowOk p.2) (hl : H l = some (.lst [])) (k : Q (.bl ps.isEmpty) H) : rEqD K (.ref al) (.ref l) H Q := by
  obtain ⟨f1, f2⟩ := fine_rows ps fun p h => (hp p h).2
  refine ⟨.list (ps.map fun p => dataK p.2), .list [], .lst ha (dp_rows ps fun p h => (hp p h).1), .lst (SqL.of hl) .nil, ?_, by decide, ?_⟩
  · unfold SeqAt.shaped
    rw [show PyData.canLay0 (.list (ps.map fun p => dataK p.2)) = true from f1, Bool.true_and]
    refine decide_eq_true ?_
    rw [PyData.depth]
    omega
  · have e : PyData.eqv (.list (ps.map fun p => dataK p.2)) (.list []) = ps.isEmpty := by cases ps <;> rfl
    rw [e]
    exact k
theorem kat_head {P : Addr → Prop} {H : Hp} {t : Addr} {r : KRow} (h : KAtP P H t r) : ∃ rest, H t = some (.tup (.str (kindK r) :: rest)) := by
  cases r with
  | by_ s ch m =>
    obtain ⟨c, _, h2, _⟩ := h
    exact ⟨_, h2⟩
  | _ => exact ⟨_, h⟩
theorem fm_congr {α β : Type} {f g : α → Option β} : ∀ (l : List α), (∀ a ∈ l, f a = g a) → l.filterMap f = l.filterMap g
  | [], _ => rfl
  | a :: l, h => by
    rw [List.filterMap_cons, List.filterMap_cons, h a (List.mem_cons_self ..), fm_congr l fun b hb => h b (List.mem_cons_of_mem _ hb)]
theorem lastK_kcode {l : List KRow} {r : KRow} (h : l.getLast? = some r) : lastK l = kcode r := by
  unfold lastK
  rw [h]
  cases r <;> rfl
theorem in_ln (r : KRow) : (["library", "needs"] : List Str).contains (kindK r) = decide (kcode r ≤ 1) := by
  cases r with
  | lib _ => exact (by decide +kernel : (["library", "needs"] : List Str).contains ("library" : Str) = decide (0 ≤ 1))
  | needs _ => exact (by decide +kernel : (["library", "needs"] : List Str).contains ("needs" : Str) = decide (1 ≤ 1))
  | keeps _ _ => exact (by decide +kernel : (["library", "needs"] : List Str).contains ("keeps" : Str) = decide (2 ≤ 1))
  | hook => exact (by decide +kernel : (["library", "needs"] : List Str).contains ("hook" : Str) = decide (3 ≤ 1))
  | by_ _ _ _ => exact (by decide +kernel : (["library", "needs"] : List Str).contains ("by" : Str) = decide (3 ≤ 1))
theorem in_nk (r : KRow) : (["needs", "keeps"] : List Str).contains (kindK r) = (decide (1 ≤ kcode r) && decide (kcode r ≤ 2)) := by
  cases r with
  | lib _ => exact (by decide +kernel : (["needs", "keeps"] : List Str).contains ("library" : Str) = (decide (1 ≤ 0) && decide (0 ≤ 2)))
  | needs _ => exact (by decide +kernel : (["needs", "keeps"] : List Str).contains ("needs" : Str) = (decide (1 ≤ 1) && decide (1 ≤ 2)))
  | keeps _ _ => exact (by decide +kernel : (["needs", "keeps"] : List Str).contains ("keeps" : Str) = (decide (1 ≤ 2) && decide (2 ≤ 2)))
  | hook => exact (by decide +kernel : (["needs", "keeps"] : List Str).contains ("hook" : Str) = (decide (1 ≤ 3) && decide (3 ≤ 2)))
  | by_ _ _ _ => exact (by decide +kernel : (["needs", "keeps"] : List Str).contains ("by" : Str) = (decide (1 ≤ 3) && decide (3 ≤ 2)))
theorem hook_in (l : List KRow) : (l.map kindK).contains ("hook" : Str) = hookK l := by
  unfold hookK
  induction l with
  | nil => rfl
  | cons r l ih =>
    rw [List.map_cons, List.contains_cons, ih, List.any_cons]
    congr 1
    cases r <;> simp only [kindK] <;> decide +kernel
section
variable {P : Program} {w : World} {K : Fg} {mg : Str → Option Value} {base : Heap}
/-- a row's third word, of the rows of a kind -/
def thirdK (kd : Str) : KRow → Option Str
  | .lib x => if kd = "library" then some x else none
  | .needs p => if kd = "needs" then some p else none
  | .keeps n _ => if kd = "keeps" then some n else none
  | .hook => none
  | .by_ s _ _ => if kd = "by" then some s else none
theorem third_needs (l : List KRow) : l.filterMap (thirdK "needs") = partsK l := by
  unfold partsK
  refine fm_congr l fun r _ => ?_
  cases r with
  | hook => rfl
  | lib x => exact (if_neg (by decide +kernel) : (if ("needs" : Str) = "library" then some x else none) = none)
  | needs x => exact (if_pos rfl : (if ("needs" : Str) = "needs" then some x else none) = some x)
  | keeps a b => exact (if_neg (by decide +kernel) : (if ("needs" : Str) = "keeps" then some a else none) = none)
  | by_ a b c => exact (if_neg (by decide +kernel) : (if ("needs" : Str) = "by" then some a else none) = none)
theorem third_keeps (l : List KRow) : l.filterMap (thirdK "keeps") = keptK l := by
  unfold keptK
  refine fm_congr l fun r _ => ?_
  cases r with
  | hook => rfl
  | lib x => exact (if_neg (by decide +kernel) : (if ("keeps" : Str) = "library" then some x else none) = none)
  | needs x => exact (if_neg (by decide +kernel) : (if ("keeps" : Str) = "needs" then some x else none) = none)
  | keeps a b => exact (if_pos rfl : (if ("keeps" : Str) = "keeps" then some a else none) = some a)
  | by_ a b c => exact (if_neg (by decide +kernel) : (if ("keeps" : Str) = "by" then some a else none) = none)
theorem third_by (l : List KRow) : l.filterMap (thirdK "by") = signsK l := by
  unfold signsK
  refine fm_congr l fun r _ => ?_
  cases r with
  | hook => rfl
  | lib x => exact (if_neg (by decide +kernel) : (if ("by" : Str) = "library" then some x else none) = none)
  | needs x => exact (if_neg (by decide +kernel) : (if ("by" : Str) = "needs" then some x else none) = none)
  | keeps a b => exact (if_neg (by decide +kernel) : (if ("by" : Str) = "keeps" then some a else none) = none)
  | by_ a b c => exact (if_pos rfl : (if ("by" : Str) = "by" then some a else none) = some a)
theorem kk_self {a : Str} {C : Prop} (h : (a == a) = false) : C := by
  rw [beq_self_eq_true] at h
  cases h
/-- one turn over the rows: is it of the kind, then its third word -/
theorem third_at {P : Addr → Prop} {H : Hp} {t : Addr} {r : KRow} {kd : Str} (h : KAtP P H t r) (hk : kd = "needs" ∨ kd = "keeps" ∨ kd = "by") : ∃ rest, H t = some (.tup (.str (kindK r) :: rest)) ∧ ((kindK r == kd) = false → thirdK kd r = none) ∧ ((kindK r == kd) = true → ∃ x, rest[1]? = some (.str x) ∧ thirdK kd r = some x) := by
  have ne : ∀ a ∈ (["library", "needs", "keeps", "hook", "by"] : List Str), ∀ b ∈ (["library", "needs", "keeps", "hook", "by"] : List Str), (a == b) = true → a = b := fun a _ b _ e => eq_of_beq e
  have hm : kd ∈ (["library", "needs", "keeps", "hook", "by"] : List Str) := by rcases hk with rfl | rfl | rfl <;> simp
  cases r with
  | lib x => exact ⟨_, h, fun e => if_neg fun q => (by rw [q] at e; exact kk_self e), fun e => ⟨x, rfl, if_pos (eq_of_beq e).symm⟩⟩
  | needs x => exact ⟨_, h, fun e => if_neg fun q => (by rw [q] at e; exact kk_self e), fun e => ⟨x, rfl, if_pos (eq_of_beq e).symm⟩⟩
  | keeps a b => exact ⟨_, h, fun e => if_neg fun q => (by rw [q] at e; exact kk_self e), fun e => ⟨a, rfl, if_pos (eq_of_beq e).symm⟩⟩
  | hook => exact ⟨_, h, fun _ => rfl, fun e => by rcases hk with rfl | rfl | rfl <;> exact absurd e (by decide +kernel)⟩
  | by_ s ch m =>
    obtain ⟨c, _, h2, _⟩ := h
    exact ⟨_, h2, fun e => if_neg fun q => (by rw [q] at e; exact kk_self e), fun e => ⟨s, rfl, if_pos (eq_of_beq e).symm⟩⟩
end
end K03

namespace K03
open PySem PySem.Spec PyProof.Rows L2 EV TL LM
theorem iteTd {A B : Prop} {c : Bool} (h : c = true) (a : A) : if c = true then A else B := by rw [if_pos h]; exact a
theorem iteFd {A B : Prop} {c : Bool} (h : c = false) (a : B) : if c = true then A else B := by rw [if_neg (by rw [h]; exact Bool.false_ne_true)]; exact a
theorem fm_third (kd : Str) : ∀ ps : List (Addr × KRow), ps.filterMap (fun p => (thirdK kd p.2).map V.str) = ((ps.map (·.2)).filterMap (thirdK kd)).map V.str
  | [] => rfl
  | p :: ps => by
    rw [List.filterMap_cons, List.map_cons, List.filterMap_cons, fm_third kd ps]
    cases thirdK kd p.2 <;> rfl
section
variable {P : Program} {w : World} {K : Fg} {mg : Str → Option Value} {base : Heap}
def spRight : Sp := fun vs H Q _ => ∃ (t al : Addr) (r : KRow) (ps : List (Addr × KRow)), vs = [.ref t, .ref al] ∧ KAtP (fun _ => True) H t r ∧ RowOk r ∧ H al = some (.lst (ps.map fun p => V.ref p.1)) ∧ (∀ p ∈ ps, KAtP (fun _ => True) H p.1 p.2 ∧ RowOk p.2) ∧
  ps.length ≤ 30 ∧ ∀ H', Same H H' → Q (.bl (rightK r (ps.map (·.2)))) H'
theorem ok_law_right {f : Addr} {fd : FuncData} (F : Fun K "_law_right" "_law_right" s_law_right f fd) (T : Cst K mg) : FnOk P w K mg base CX0 1 f fd ["row", "above"] spRight := by
  refine F.ok sc_law_right (fun vs H Q E h => ?_) (fun cdv A outer s H vs Q E hr h => ?_)
  · obtain ⟨t, al, r, ps, rfl, _⟩ := h
    rfl
  · obtain ⟨t, al, r, ps, rfl, ht, okr, hal, hps, l30, k⟩ := h
    refine ⟨_, (pss_cons (ps_setLc (i := 2) (own := [("one", 6)]) rfl sc_law_right.nd rfl rfl (sw_true rfl rfl rfl (by decide +kernel)) (pi_list (pv 1)) (blkOk_by (own := [("one", 6)]) (N := ["row", "above", "kinds", "parts", "fields", "signs", "one", "part"]) (sc := defScope s_law_right) (by decide +kernel)) (fun _ _ _ _ _ => (pg_name (i := 6) sc_law_right.nd rfl (Or.inl rfl))) (fun _ _ _ _ _ => pts_nil) (fun _ _ _ _ _ => (pe_ix (show IxR _ (rIxT K) from ix_tup) (pv 6) pe_int (fun _ _ => rfl))))
    (pss_cons (ps_setLc (i := 3) (own := [("one", 6)]) rfl sc_law_right.nd rfl rfl (sw_true rfl rfl rfl (by decide +kernel)) (pi_list (pv 1)) (blkOk_by (own := [("one", 6)]) (N := ["row", "above", "kinds", "parts", "fields", "signs", "one", "part"]) (sc := defScope s_law_right) (by decide +kernel)) (fun _ _ _ _ _ => (pg_name (i := 6) sc_law_right.nd rfl (Or.inl rfl))) (fun _ _ _ _ _ => (pts_one (pt_cmpR op_eq (pe_ix (show IxR _ (rIxT K) from ix_tup) (pv 6) pe_int (fun _ _ => rfl)) pe_str (nomark _)))) (fun _ _ _ _ _ => (pe_ix (show IxR _ (rIxT K) from ix_tup) (pv 6) pe_int (fun _ _ => rfl))))
    (pss_cons (ps_set (i := 4) sc_law_right.nd rfl (Or.inl rfl) (pe_op op_cat (pv 3) (pe_lc (own := [("one", 6)]) rfl sc_law_right.nd (pi_list (pv 1)) (blkOk_by (own := [("one", 6)]) (N := ["row", "above", "kinds", "parts", "fields", "signs", "one", "part"]) (sc := defScope s_law_right) (by decide +kernel)) (fun _ _ _ _ _ => (pg_name (i := 6) sc_law_right.nd rfl (Or.inl rfl))) (fun _ _ _ _ _ => (pts_one (pt_cmpR op_eq (pe_ix (show IxR _ (rIxT K) from ix_tup) (pv 6) pe_int (fun _ _ => rfl)) pe_str (nomark _)))) (fun _ _ _ _ _ => (pe_ix (show IxR _ (rIxT K) from ix_tup) (pv 6) pe_int (fun _ _ => rfl))))))
    (pss_cons (ps_if (PW.pt (pw_or (pt_cmpR op_eq (pe_ix ix_tup (pv 0) pe_int (fun _ _ => rfl)) pe_str (nomark _)) (pw_or1 (pt_cmpR (op_eqD hr.units) (pv 1) (pe_lst pa_nil) (nomark _))))) (pss_one (ps_ret (pe_and (pe_cmpR op_eq (pe_ix ix_tup (pv 0) pe_int (fun _ _ => rfl)) pe_str (nomark _)) (pe_one (pe_cmpR (op_eqD hr.units) (pv 1) (pe_lst pa_nil) (nomark _)))))) pss_nil)
    (pss_cons (ps_if (pt_cmpR op_eq (pe_ix ix_tup (pv 0) pe_int (fun _ _ => rfl)) pe_str (nomark _)) (pss_one (ps_ret (pe_and (pe_cmpR op_in_seq (pe_ix ix_list (pv 2) (pe_un un_neg pe_int) (fun _ _ => rfl)) (pe_lst (pa_cons pe_str (pa_cons pe_str pa_nil))) (by rfl)) (pe_and (pe_cmpR op_lt (pe_callB call_len_seq (by rfl) T.n_len (by decide +kernel) (pa_cons (pv 3) pa_nil)) pe_int (nomark _)) (pe_one (pe_cmpR op_notIn_seq (pe_ix ix_tup (pv 0) pe_int (fun _ _ => rfl)) (pv 3) (by rfl))))))) pss_nil)
    (pss_cons (ps_if (pt_cmpR (op_eqD hr.units) (pv 3) (pe_lst pa_nil) (nomark _)) (pss_one (ps_ret pe_bl)) pss_nil)
    (pss_cons (ps_if (pt_cmpR op_eq (pe_ix ix_tup (pv 0) pe_int (fun _ _ => rfl)) pe_str (nomark _)) (pss_cons (ps_if (PW.pt (pw_or (pt_cmpR op_notIn_seq (pe_ix ix_list (pv 2) (pe_un un_neg pe_int) (fun _ _ => rfl)) (pe_lst (pa_cons pe_str (pa_cons pe_str pa_nil))) (by rfl)) (pw_or1 (pt_cmpR op_eq (pe_op op_sub (pe_callB call_len_seq (by rfl) T.n_len (by decide +kernel) (pa_cons (pv 4) pa_nil)) (pe_callB call_len_seq (by rfl) T.n_len (by decide +kernel) (pa_cons (pv 3) pa_nil))) pe_int (nomark _))))) (pss_one (ps_ret pe_bl)) pss_nil)
    (pss_one (ps_ret (pe_and (pe_cmpR op_notIn_seq (pe_ix ix_tup (pv 0) pe_int (fun _ _ => rfl)) (pv 4) (by rfl)) (pe_one (pe_cmpR op_in_seq (pe_ix (show IxR _ (rIxT K) from ix_tup) (pv 0) pe_int (fun _ _ => rfl)) (pv 4) (by rfl))))))) pss_nil)
    (pss_cons (ps_if (pt_cmpR op_eq (pe_ix ix_tup (pv 0) pe_int (fun _ _ => rfl)) pe_str (nomark _)) (pss_one (ps_ret (pe_cmpR op_in_seq (pe_ix ix_list (pv 2) (pe_un un_neg pe_int) (fun _ _ => rfl)) (pe_lst (pa_cons pe_str (pa_cons pe_str pa_nil))) (by rfl)))) pss_nil)
    (pss_cons (ps_setLc (i := 5) (own := [("one", 6)]) rfl sc_law_right.nd rfl rfl (sw_true rfl rfl rfl (by decide +kernel)) (pi_list (pv 1)) (blkOk_by (own := [("one", 6)]) (N := ["row", "above", "kinds", "parts", "fields", "signs", "one", "part"]) (sc := defScope s_law_right) (by decide +kernel)) (fun _ _ _ _ _ => (pg_name (i := 6) sc_law_right.nd rfl (Or.inl rfl))) (fun _ _ _ _ _ => (pts_one (pt_cmpR op_eq (pe_ix (show IxR _ (rIxT K) from ix_tup) (pv 6) pe_int (fun _ _ => rfl)) pe_str (nomark _)))) (fun _ _ _ _ _ => (pe_ix (show IxR _ (rIxT K) from ix_tup) (pv 6) pe_int (fun _ _ => rfl))))
    (pss_cons (ps_if (PW.pt (pw_or (pt_cmpR op_in_seq (pe_ix ix_tup (pv 0) pe_int (fun _ _ => rfl)) (pv 5) (by rfl)) (pw_or (pt_cmpR op_eq (pe_callB call_len_seq (by rfl) T.n_len (by decide +kernel) (pa_cons (pv 5) pa_nil)) pe_int (nomark _)) (pw_or1 (PW.pt (pw_and (pt_val (pe_ix ix_tup (pv 0) pe_int (fun _ _ => rfl))) (pw_and1 (pt_cmpR op_notIn_seq pe_str (pv 2) (by rfl))))))))) (pss_one (ps_ret pe_bl)) pss_nil)
    (pss_one (ps_ret (pe_cmpR (op_eqD hr.units) (pe_ix (show IxR _ (rIxT K) from ix_tup) (pv 0) pe_int (fun _ _ => rfl)) (pe_lc (own := [("part", 7)]) rfl sc_law_right.nd (pi_list (pv 3)) (blkOk_by (own := [("part", 7)]) (N := ["row", "above", "kinds", "parts", "fields", "signs", "one", "part"]) (sc := defScope s_law_right) (by decide +kernel)) (fun _ _ _ _ _ => (pg_name (i := 7) sc_law_right.nd rfl (Or.inl rfl))) (fun _ _ _ _ _ => (pts_one (pt_cmpR (show OpR _ _ (rIn K false) from op_in_seq) (pv 7) (pe_ix (show IxR _ (rIxT K) from ix_tup) (pv 0) pe_int (fun _ _ => rfl)) (by rfl)))) (fun _ _ _ _ _ => (pv 7))) (nomark _)))))))))))))), ?_⟩
    have s0 : Same H H := Same.refl _
    have pfs : ∀ l : List KRow, (∀ r ∈ l, RowOk r) → (∀ x ∈ partsK l, fieldName x = true) ∧ (∀ x ∈ keptK l, fieldName x = true) := by
      intro l hl
      constructor
      · intro x hx
        obtain ⟨a, h1, h2⟩ := List.mem_filterMap.mp hx
        have := hl a h1
        cases a <;> simp at h2
        rw [← h2]
        exact this
      · intro x hx
        obtain ⟨a, h1, h2⟩ := List.mem_filterMap.mp hx
        have := hl a h1
        cases a <;> simp at h2
        rw [← h2]
        exact this.1
    have okall : ∀ r ∈ ps.map (·.2), RowOk r := fun r hr => by
      obtain ⟨p, hp, rfl⟩ := List.mem_map.mp hr
      exact (hps p hp).2
    obtain ⟨pf1, pf2⟩ := pfs _ okall
    have lp1 : (partsK (ps.map (·.2))).length ≤ 30 := Nat.le_trans (List.length_filterMap_le _ _) (by rw [List.length_map]; exact l30)
    have lk1 : (keptK (ps.map (·.2))).length ≤ 30 := Nat.le_trans (List.length_filterMap_le _ _) (by rw [List.length_map]; exact l30)
    have lsg : (signsK (ps.map (·.2))).length ≤ 30 := Nat.le_trans (List.length_filterMap_le _ _) (by rw [List.length_map]; exact l30)
    -- kinds
    refine ⟨_, rfl, al, rfl, ⟨_, SqL.of hal⟩, fun D1 nD1 => ?_⟩
    refine lc_fm (walk_list (xs := ps.map fun p => V.ref p.1)) (fun i => ps[i]?.map fun p => V.str (kindK p.2)) nD1 (by rw [List.length_map]; omega) (fun _ s => SqL.of (s _ _ hal)) ?_ ?_
    · rintro i x G0 G NT NE hi sg ⟨rfl, hx⟩ w0 w1
      obtain ⟨p, hp, rfl⟩ : ∃ p, ps[i]? = some p ∧ V.ref p.1 = x := by
        rw [List.getElem?_map] at hx
        cases e : ps[i]? with
        | none => rw [e] at hx; cases hx
        | some p => rw [e] at hx; exact ⟨p, rfl, by injection hx⟩
      obtain ⟨rest, hh⟩ := kat_head (hps p (List.mem_of_getElem? hp)).1
      refine ⟨rfl, _, rfl, p.1, _, ((0 : Nat) : Int), _, rfl, rfl, SqT.of (sg _ _ hh), atI_nat (j := 0) rfl, w1 _ _ ?_ (Same.refl _)⟩
      rw [hp]
      rfl
    intro G1 s1 hD1
    rw [gath_map ps _ (by rw [List.length_map])] at hD1
    have hD1' : StrsAt G1 D1 ((ps.map (·.2)).map kindK) := by
      show G1 D1 = _
      rw [hD1, List.map_map, List.map_map]
      rfl
    clear hD1
    have hal1 := s1 _ _ hal
    -- parts
    refine ⟨_, rfl, al, rfl, ⟨_, SqL.of hal1⟩, fun D2 nD2 => ?_⟩
    refine lc_fm (walk_list (xs := ps.map fun p => V.ref p.1)) (fun i => ps[i]?.bind fun p => (thirdK "needs" p.2).map V.str) nD2 (by rw [List.length_map]; omega) (fun _ s => SqL.of (s _ _ hal1)) ?_ ?_
    · skip
      rintro i x G0 G NT NE hi sg ⟨rfl, hx⟩ w0 w1
      obtain ⟨p, hp, rfl⟩ : ∃ p, ps[i]? = some p ∧ V.ref p.1 = x := by
        rw [List.getElem?_map] at hx
        cases e : ps[i]? with
        | none => rw [e] at hx; cases hx
        | some p => rw [e] at hx; exact ⟨p, rfl, by injection hx⟩
      obtain ⟨rest, z1, z2, z3⟩ := third_at (kd := "needs") (((hps p (List.mem_of_getElem? hp)).1.mono (fun _ _ z => (s1.trans sg) _ _ z) fun c _ xs z => ⟨trivial, (s1.trans sg) _ _ z⟩) : KAtP (fun _ => True) G p.1 p.2) (by simp)
      refine ⟨rfl, _, rfl, p.1, _, ((0 : Nat) : Int), _, rfl, rfl, SqT.of z1, atI_nat (j := 0) rfl, rfl, _, rfl, ?_⟩
      rw [eq_str]
      cases e : (kindK p.2 == ("needs" : Str)) with
      | false => exact iteF (w0 (by rw [hp]; show (thirdK "needs" p.2).map V.str = none; rw [z2 e]; rfl) _ (Same.refl _))
      | true =>
        obtain ⟨y, y1, y2⟩ := z3 e
        exact iteT ⟨_, rfl, p.1, _, ((2 : Nat) : Int), _, rfl, rfl, SqT.of z1, atI_nat (j := 2) y1, w1 _ _ (by rw [hp]; show (thirdK "needs" p.2).map V.str = some (.str y); rw [y2]; rfl) (Same.refl _)⟩
    intro G2 s2 hD2
    rw [gath_fm ps _ _ (by rw [List.length_map]; exact Nat.le_refl _), List.length_map, List.take_length, fm_third, third_needs] at hD2
    have s12 := s1.trans s2
    have hal2 := s12 _ _ hal
    -- fields
    refine ⟨_, rfl, _, rfl, al, rfl, ⟨_, SqL.of hal2⟩, fun D3 nD3 => ?_⟩
    refine lc_fm (walk_list (xs := ps.map fun p => V.ref p.1)) (fun i => ps[i]?.bind fun p => (thirdK "keeps" p.2).map V.str) nD3 (by rw [List.length_map]; omega) (fun _ s => SqL.of (s _ _ hal2)) ?_ ?_
    · skip
      rintro i x G0 G NT NE hi sg ⟨rfl, hx⟩ w0 w1
      obtain ⟨p, hp, rfl⟩ : ∃ p, ps[i]? = some p ∧ V.ref p.1 = x := by
        rw [List.getElem?_map] at hx
        cases e : ps[i]? with
        | none => rw [e] at hx; cases hx
        | some p => rw [e] at hx; exact ⟨p, rfl, by injection hx⟩
      obtain ⟨rest, z1, z2, z3⟩ := third_at (kd := "keeps") (((hps p (List.mem_of_getElem? hp)).1.mono (fun _ _ z => (s12.trans sg) _ _ z) fun c _ xs z => ⟨trivial, (s12.trans sg) _ _ z⟩) : KAtP (fun _ => True) G p.1 p.2) (by simp)
      refine ⟨rfl, _, rfl, p.1, _, ((0 : Nat) : Int), _, rfl, rfl, SqT.of z1, atI_nat (j := 0) rfl, rfl, _, rfl, ?_⟩
      rw [eq_str]
      cases e : (kindK p.2 == ("keeps" : Str)) with
      | false => exact iteF (w0 (by rw [hp]; show (thirdK "keeps" p.2).map V.str = none; rw [z2 e]; rfl) _ (Same.refl _))
      | true =>
        obtain ⟨y, y1, y2⟩ := z3 e
        exact iteT ⟨_, rfl, p.1, _, ((2 : Nat) : Int), _, rfl, rfl, SqT.of z1, atI_nat (j := 2) y1, w1 _ _ (by rw [hp]; show (thirdK "keeps" p.2).map V.str = some (.str y); rw [y2]; rfl) (Same.refl _)⟩
    intro G3 s3 hD3
    rw [gath_fm ps _ _ (by rw [List.length_map]; exact Nat.le_refl _), List.length_map, List.take_length, fm_third, third_keeps] at hD3
    refine ⟨D2, D3, _, _, rfl, rfl, s3 _ _ hD2, hD3, by rw [List.length_map, List.length_map, sizeLine_eq]; omega, fun D4 nD4 => ?_⟩
    have hD4 : StrsAt (upd G3 D4 (.lst ((partsK (ps.map (·.2))).map V.str ++ (keptK (ps.map (·.2))).map V.str))) D4 (partsK (ps.map (·.2)) ++ keptK (ps.map (·.2))) := by
      show upd _ D4 _ D4 = _
      rw [upd_same, List.map_append]
    have s4 : Same G3 (upd G3 D4 (.lst ((partsK (ps.map (·.2))).map V.str ++ (keptK (ps.map (·.2))).map V.str))) := same_upd nD4
    generalize upd G3 D4 (.lst ((partsK (ps.map (·.2))).map V.str ++ (keptK (ps.map (·.2))).map V.str)) = G4 at hD4 s4
    have S4 : Same H G4 := (s12.trans s3).trans s4
    have kinds4 : StrsAt G4 D1 ((ps.map (·.2)).map kindK) := s4 _ _ (s3 _ _ (s2 _ _ hD1'))
    have parts4 : StrsAt G4 D2 (partsK (ps.map (·.2))) := s4 _ _ (s3 _ _ hD2)
    have al4 := S4 _ _ hal
    have hps4 : ∀ p ∈ ps, KAtP (fun _ => True) G4 p.1 p.2 ∧ RowOk p.2 := fun p hp => ⟨(hps p hp).1.mono (fun _ _ z => S4 _ _ z) fun c _ xs z => ⟨trivial, S4 _ _ z⟩, (hps p hp).2⟩
    have ht4 : KAtP (fun _ => True) G4 t r := ht.mono (fun _ _ z => S4 _ _ z) fun c _ xs z => ⟨trivial, S4 _ _ z⟩
    clear hD1' hD2 hD3 nD1 nD2 nD3 nD4 s1 s2 s3 s4 s12 hal1 hal2 ht hps
    have last4 : ps ≠ [] → ∃ rl, (ps.map (·.2)).getLast? = some rl ∧ atI (((ps.map (·.2)).map kindK).map V.str) (-1) = some (V.str (kindK rl)) := fun hne => by
      have hne2 : ps.map (·.2) ≠ [] := fun z => hne (List.map_eq_nil_iff.mp z)
      obtain ⟨init, x, e⟩ := List.eq_nil_or_concat (ps.map (·.2)) |>.resolve_left hne2
      rw [e]
      rw [List.concat_eq_append]
      refine ⟨x, List.getLast?_concat, ?_⟩
      rw [List.map_append, List.map_append]
      exact atI_last _ _
    obtain ⟨rows, hrows⟩ : ∃ rows, ps.map (·.2) = rows := ⟨_, rfl⟩
    simp only [hrows] at k kinds4 parts4 hD4 last4 lp1 lk1 lsg pf1 pf2 okall
    have hemp : ps.isEmpty = rows.isEmpty := by rw [← hrows]; cases ps <;> rfl
    obtain ⟨rest0, hh⟩ := kat_head ht4
    have hps5 : ∀ l, G4 l = none → ∀ p ∈ ps, KAtP (fun _ => True) (upd G4 l (.lst [])) p.1 p.2 ∧ RowOk p.2 := fun l nl p hp => ⟨(hps4 p hp).1.mono (fun _ _ z => same_upd nl _ _ z) fun c _ xs z => ⟨trivial, same_upd nl _ _ z⟩, (hps4 p hp).2⟩
    obtain ⟨lb, hlb⟩ : ∃ lb, (match r with | .lib _ => true | _ => false) = lb := ⟨_, rfl⟩
    have kl : (kindK r == ("library" : Str)) = lb := by
      rw [← hlb]
      cases r with
      | lib x => exact (by decide +kernel : (("library" : Str) == "library") = true)
      | needs x => exact (by decide +kernel : (("needs" : Str) == "library") = false)
      | keeps a b => exact (by decide +kernel : (("keeps" : Str) == "library") = false)
      | hook => exact (by decide +kernel : (("hook" : Str) == "library") = false)
      | by_ a b c => exact (by decide +kernel : (("by" : Str) == "library") = false)
    refine ⟨_, rfl, t, _, ((0 : Nat) : Int), _, rfl, rfl, SqT.of hh, atI_nat (j := 0) rfl, rfl, _, rfl, ?_⟩
    rw [eq_str, kl]
    by_cases hr0 : rows = []
    · have hre : rows.isEmpty = true := by rw [hr0]; rfl
      have hnr : rightK r [] = lb := by rw [← hlb]; cases r <;> rfl
      cases lb with
      | true =>
        refine iteT ⟨_, rfl, t, _, ((0 : Nat) : Int), _, rfl, rfl, SqT.of hh, atI_nat (j := 0) rfl, rfl, _, rfl, ?_⟩
        rw [eq_str, kl]
        refine iteT ⟨_, rfl, by show 0 ≤ sizeLine; decide, fun l nl => eq_rows (P := fun _ => True) (SqL.of (same_upd nl _ _ al4)) (hps5 l nl) upd_same ?_⟩
        have q := k _ (S4.trans (same_upd (o := .lst []) nl))
        rw [hr0, hnr] at q
        rw [hemp, hre]
        exact q
      | false =>
        refine iteF ⟨_, rfl, by show 0 ≤ sizeLine; decide, fun l nl => eq_rows (P := fun _ => True) (SqL.of (same_upd nl _ _ al4)) (hps5 l nl) upd_same ⟨_, rfl, ?_⟩⟩
        rw [hemp, hre]
        refine iteT ⟨_, rfl, t, _, ((0 : Nat) : Int), _, rfl, rfl, SqT.of (same_upd nl _ _ hh), atI_nat (j := 0) rfl, rfl, _, rfl, ?_⟩
        rw [eq_str, kl]
        have q := k _ (S4.trans (same_upd (o := .lst []) nl))
        rw [hr0, hnr] at q
        exact iteF q
    · have hne : rows ≠ [] := hr0
      have hre : rows.isEmpty = false := by
        cases e : rows with
        | nil => exact absurd e hne
        | cons _ _ => rfl
      clear hr0
      obtain ⟨rl, hl1, hl2⟩ := last4 (fun z => hne (by rw [← hrows, z]; rfl))
      have hlast := lastK_kcode hl1
      have okp : ∀ x ∈ partsK rows, PyData.strOk x = true := fun x hx => strOk_field (pf1 x hx)
      cases r with
      | lib x =>
        have hht : G4 t = some (.tup [.str "library", .str (rowL (.lib x)), .str x]) := ht4
        subst hlb
        refine iteT ⟨_, rfl, t, _, ((0 : Nat) : Int), _, rfl, rfl, SqT.of hht, atI_nat (j := 0) rfl, rfl, _, rfl, ?_⟩
        rw [eq_str, beq_self_eq_true]
        refine iteT ⟨_, rfl, by show 0 ≤ sizeLine; decide, fun l nl => eq_rows (P := fun _ => True) (SqL.of (same_upd nl _ _ al4)) (hps5 l nl) upd_same ?_⟩
        have q := k _ (S4.trans (same_upd (o := .lst []) nl))
        rw [hemp]
        exact q
      | needs x =>
        subst hlb
        refine iteF ⟨_, rfl, by show 0 ≤ sizeLine; decide, fun l nl => eq_rows (P := fun _ => True) (SqL.of (same_upd nl _ _ al4)) (hps5 l nl) upd_same ⟨_, rfl, ?_⟩⟩
        rw [hemp, hre]
        have S5 := S4.trans (same_upd (o := .lst []) nl)
        have sn5 : Same G4 (upd G4 l (.lst [])) := same_upd nl
        have hht : upd G4 l (.lst []) t = some (.tup [.str "needs", .str (rowL (.needs x)), .str x]) := same_upd nl _ _ ht4
        have k5 : StrsAt (upd G4 l (.lst [])) D1 (rows.map kindK) := same_upd nl _ _ kinds4
        have p5 : StrsAt (upd G4 l (.lst [])) D2 (partsK rows) := same_upd nl _ _ parts4
        have f5 : StrsAt (upd G4 l (.lst [])) D4 (partsK rows ++ keptK rows) := same_upd nl _ _ hD4
        generalize upd G4 l (.lst []) = G5 at S5 sn5 hht k5 p5 f5
        refine iteF ⟨_, rfl, t, _, ((0 : Nat) : Int), _, rfl, rfl, SqT.of hht, atI_nat (j := 0) rfl, rfl, _, rfl, ?_⟩
        rw [eq_str, beq_self_eq_true]
        refine iteT ⟨_, rfl, _, rfl, D1, _, _, _, rfl, rfl, SqL.of k5, hl2, by show 2 ≤ sizeLine; decide, fun l2 nl2 => ⟨l2, _, rfl, .inl (SqL.of upd_same), rfl, flat_strs ["library", "needs"], ?_⟩⟩
        rw [show inV (V.str (kindK rl)) [V.str "library", V.str "needs"] = (["library", "needs"] : List Str).contains (kindK rl) from inV_strs _ ["library", "needs"], in_ln, ← hlast]
        have S6 := S5.trans (same_upd (o := .lst [V.str "library", V.str "needs"]) nl2)
        have p6 : StrsAt (upd G5 l2 (.lst [V.str "library", V.str "needs"])) D2 (partsK rows) := same_upd nl2 _ _ p5
        have hht6 := same_upd (o := .lst [V.str "library", V.str "needs"]) nl2 _ _ hht
        generalize upd G5 l2 (.lst [V.str "library", V.str "needs"]) = G6 at S6 p6 hht6
        have q := k _ S6
        refine ⟨_, rfl, ite2 (fun h1 => ?_) (fun h1 => ?_)⟩
        · have h1' : decide (lastK rows ≤ 1) = true := h1
          refine ⟨_, rfl, D2, _, rfl, .inl (SqL.of p6), _, _, rfl, rfl, _, rfl, ?_⟩
          rw [List.length_map]
          have e3 : decide (((partsK rows).length : Int) < 3) = decide ((partsK rows).length < 3) := by
            by_cases z : (partsK rows).length < 3
            · rw [decide_eq_true z, decide_eq_true (by omega)]
            · rw [decide_eq_false z, decide_eq_false (by omega)]
          rw [e3]
          refine ite2 (fun h2 => ?_) (fun h2 => ?_)
          · refine ⟨_, rfl, t, _, ((2 : Nat) : Int), _, rfl, rfl, SqT.of hht6, atI_nat (j := 2) rfl, _, rfl, D2, _, rfl, .inl (SqL.of p6), rfl, flat_strs _, ?_⟩
            rw [inV_strs]
            have e : rightK (.needs x) rows = !(partsK rows).contains x := by
              show (!rows.isEmpty && decide (lastK rows ≤ 1) && decide ((partsK rows).length < 3) && !(partsK rows).contains x) = _
              rw [hre, h1', h2]
              rfl
            rw [e] at q
            exact q
          · have e : rightK (.needs x) rows = false := by
              show (!rows.isEmpty && decide (lastK rows ≤ 1) && decide ((partsK rows).length < 3) && !(partsK rows).contains x) = _
              rw [Bool.eq_false_iff.mpr h2, Bool.and_false, Bool.false_and]
            rw [e] at q
            exact q
        · have h1' : decide (lastK rows ≤ 1) = false := Bool.eq_false_iff.mpr h1
          have e : rightK (.needs x) rows = false := by
            show (!rows.isEmpty && decide (lastK rows ≤ 1) && decide ((partsK rows).length < 3) && !(partsK rows).contains x) = _
            rw [h1', Bool.and_false, Bool.false_and, Bool.false_and]
          rw [e] at q
          exact q
      | keeps a b =>
        subst hlb
        refine iteF ⟨_, rfl, by show 0 ≤ sizeLine; decide, fun l nl => eq_rows (P := fun _ => True) (SqL.of (same_upd nl _ _ al4)) (hps5 l nl) upd_same ⟨_, rfl, ?_⟩⟩
        rw [hemp, hre]
        have S5 := S4.trans (same_upd (o := .lst []) nl)
        have sn5 : Same G4 (upd G4 l (.lst [])) := same_upd nl
        have hht : upd G4 l (.lst []) t = some (.tup [.str "keeps", .str (rowL (.keeps a b)), .str a, .str b]) := same_upd nl _ _ ht4
        have k5 : StrsAt (upd G4 l (.lst [])) D1 (rows.map kindK) := same_upd nl _ _ kinds4
        have p5 : StrsAt (upd G4 l (.lst [])) D2 (partsK rows) := same_upd nl _ _ parts4
        have f5 : StrsAt (upd G4 l (.lst [])) D4 (partsK rows ++ keptK rows) := same_upd nl _ _ hD4
        generalize upd G4 l (.lst []) = G5 at S5 sn5 hht k5 p5 f5
        refine iteF ⟨_, rfl, t, _, ((0 : Nat) : Int), _, rfl, rfl, SqT.of hht, atI_nat (j := 0) rfl, rfl, _, rfl, ?_⟩
        rw [eq_str, show (("keeps" : Str) == "needs") = false by decide +kernel]
        refine iteF ⟨_, rfl, by show 0 ≤ sizeLine; decide, fun l6 nl6 => ?_⟩
        have S6 := S5.trans (same_upd (o := .lst []) nl6)
        have sn6 : Same G5 (upd G5 l6 (.lst [])) := same_upd nl6
        have l6e : upd G5 l6 (.lst []) l6 = some (.lst (([] : List Str).map V.str)) := upd_same
        generalize upd G5 l6 (.lst []) = G6 at S6 sn6 l6e
        have hht6 := sn6 _ _ hht
        have k6 : StrsAt G6 D1 (rows.map kindK) := sn6 _ _ k5
        have p6 : StrsAt G6 D2 (partsK rows) := sn6 _ _ p5
        have f6 : StrsAt G6 D4 (partsK rows ++ keptK rows) := sn6 _ _ f5
        refine eq_lists (zs := []) (SqL.of p6) (SqL.of l6e) okp (fun p hp => by cases hp) ⟨_, rfl, ite2 (fun e0 => ?_) (fun e0 => ?_)⟩
        · have e1 : partsK rows = [] := of_decide_eq_true e0
          have q := k _ S6
          rw [show rightK (.keeps a b) rows = false by
            show (!rows.isEmpty && !(partsK rows).isEmpty && _ && _ && _ && _) = false
            rw [e1]
            simp] at q
          exact q
        have pe : (partsK rows).isEmpty = false := by
          cases e : partsK rows with
          | nil => rw [e] at e0; exact absurd (decide_eq_true rfl) e0
          | cons _ _ => rfl
        refine ⟨_, rfl, t, _, ((0 : Nat) : Int), _, rfl, rfl, SqT.of hht6, atI_nat (j := 0) rfl, rfl, _, rfl, ?_⟩
        rw [eq_str, beq_self_eq_true]
        refine iteT ⟨_, rfl, _, rfl, D1, _, _, _, rfl, rfl, SqL.of k6, hl2, by show 2 ≤ sizeLine; decide, fun l2 nl2 => ⟨l2, _, rfl, .inl (SqL.of upd_same), rfl, flat_strs ["needs", "keeps"], _, rfl, ?_⟩⟩
        rw [show inV (V.str (kindK rl)) [V.str "needs", V.str "keeps"] = (["needs", "keeps"] : List Str).contains (kindK rl) from inV_strs _ ["needs", "keeps"], in_nk, ← hlast]
        have S7 := S6.trans (same_upd (o := .lst [V.str "needs", V.str "keeps"]) nl2)
        have p7 : StrsAt (upd G6 l2 (.lst [V.str "needs", V.str "keeps"])) D2 (partsK rows) := same_upd nl2 _ _ p6
        have f7 : StrsAt (upd G6 l2 (.lst [V.str "needs", V.str "keeps"])) D4 (partsK rows ++ keptK rows) := same_upd nl2 _ _ f6
        have hht7 := same_upd (o := .lst [V.str "needs", V.str "keeps"]) nl2 _ _ hht6
        generalize upd G6 l2 (.lst [V.str "needs", V.str "keeps"]) = G7 at S7 p7 f7 hht7
        have q := k _ S7
        have er : rightK (.keeps a b) rows = (!rows.isEmpty && !(partsK rows).isEmpty && (decide (1 ≤ lastK rows) && decide (lastK rows ≤ 2)) && decide ((keptK rows).length ≠ 2) && !(partsK rows ++ keptK rows).contains a && (partsK rows ++ keptK rows).contains b) := rfl
        cases h1 : (decide (1 ≤ lastK rows) && decide (lastK rows ≤ 2)) with
        | false =>
          rw [er, h1, Bool.and_false, Bool.false_and, Bool.false_and, Bool.false_and] at q
          exact iteT q
        | true =>
          refine iteF ⟨_, rfl, D4, _, rfl, .inl (SqL.of f7), _, rfl, D2, _, rfl, .inl (SqL.of p7), _, _, rfl, rfl, rfl, _, rfl, ?_⟩
          rw [List.length_map, List.length_map, List.length_append]
          have e3 : decide (V.int (((partsK rows).length + (keptK rows).length : Nat) - ((partsK rows).length : Nat) : Int) = V.int 2) = decide ((keptK rows).length = 2) := by
            rw [show (((partsK rows).length + (keptK rows).length : Nat) - ((partsK rows).length : Nat) : Int) = (((keptK rows).length : Nat) : Int) by omega]
            exact len_is (k := 2)
          rw [e3]
          refine ite2 (fun h2 => ?_) (fun h2 => ?_)
          · rw [er, h1, decide_eq_false (fun z => z (of_decide_eq_true h2)), Bool.and_false, Bool.false_and, Bool.false_and] at q
            exact q
          · have h2' : (keptK rows).length ≠ 2 := fun z => h2 (decide_eq_true z)
            rw [er, hre, pe, h1, decide_eq_true h2'] at q
            refine ⟨_, rfl, t, _, ((2 : Nat) : Int), _, rfl, rfl, SqT.of hht7, atI_nat (j := 2) rfl, _, rfl, D4, _, rfl, .inl (SqL.of f7), rfl, flat_strs _, ?_⟩
            rw [inV_strs]
            cases h3 : (partsK rows ++ keptK rows).contains a with
            | true =>
              rw [h3] at q
              exact ⟨_, rfl, iteF q⟩
            | false =>
              rw [h3] at q
              refine ⟨_, rfl, iteT ⟨_, rfl, t, _, ((3 : Nat) : Int), _, rfl, rfl, SqT.of hht7, atI_nat (j := 3) rfl, _, rfl, D4, _, rfl, .inl (SqL.of f7), rfl, flat_strs _, ?_⟩⟩
              rw [inV_strs]
              exact q
      | hook =>
        subst hlb
        refine iteF ⟨_, rfl, by show 0 ≤ sizeLine; decide, fun l nl => eq_rows (P := fun _ => True) (SqL.of (same_upd nl _ _ al4)) (hps5 l nl) upd_same ⟨_, rfl, ?_⟩⟩
        rw [hemp, hre]
        have S5 := S4.trans (same_upd (o := .lst []) nl)
        have sn5 : Same G4 (upd G4 l (.lst [])) := same_upd nl
        have hht : upd G4 l (.lst []) t = some (.tup [.str "hook", .str "hook call", .str ""]) := same_upd nl _ _ ht4
        have k5 : StrsAt (upd G4 l (.lst [])) D1 (rows.map kindK) := same_upd nl _ _ kinds4
        have p5 : StrsAt (upd G4 l (.lst [])) D2 (partsK rows) := same_upd nl _ _ parts4
        have f5 : StrsAt (upd G4 l (.lst [])) D4 (partsK rows ++ keptK rows) := same_upd nl _ _ hD4
        generalize upd G4 l (.lst []) = G5 at S5 sn5 hht k5 p5 f5
        refine iteF ⟨_, rfl, t, _, ((0 : Nat) : Int), _, rfl, rfl, SqT.of hht, atI_nat (j := 0) rfl, rfl, _, rfl, ?_⟩
        rw [eq_str, show (("hook" : Str) == "needs") = false by decide +kernel]
        refine iteF ⟨_, rfl, by show 0 ≤ sizeLine; decide, fun l6 nl6 => ?_⟩
        have S6 := S5.trans (same_upd (o := .lst []) nl6)
        have sn6 : Same G5 (upd G5 l6 (.lst [])) := same_upd nl6
        have l6e : upd G5 l6 (.lst []) l6 = some (.lst (([] : List Str).map V.str)) := upd_same
        generalize upd G5 l6 (.lst []) = G6 at S6 sn6 l6e
        have hht6 := sn6 _ _ hht
        have k6 : StrsAt G6 D1 (rows.map kindK) := sn6 _ _ k5
        have p6 : StrsAt G6 D2 (partsK rows) := sn6 _ _ p5
        have f6 : StrsAt G6 D4 (partsK rows ++ keptK rows) := sn6 _ _ f5
        refine eq_lists (zs := []) (SqL.of p6) (SqL.of l6e) okp (fun p hp => by cases hp) ⟨_, rfl, ite2 (fun e0 => ?_) (fun e0 => ?_)⟩
        · have e1 : partsK rows = [] := of_decide_eq_true e0
          have q := k _ S6
          rw [show rightK .hook rows = false by
            show (!rows.isEmpty && !(partsK rows).isEmpty && _) = false
            rw [e1]
            simp] at q
          exact q
        have pe : (partsK rows).isEmpty = false := by
          cases e : partsK rows with
          | nil => rw [e] at e0; exact absurd (decide_eq_true rfl) e0
          | cons _ _ => rfl
        refine ⟨_, rfl, t, _, ((0 : Nat) : Int), _, rfl, rfl, SqT.of hht6, atI_nat (j := 0) rfl, rfl, _, rfl, ?_⟩
        rw [eq_str, show (("hook" : Str) == "keeps") = false by decide +kernel]
        refine iteF ⟨_, rfl, t, _, ((0 : Nat) : Int), _, rfl, rfl, SqT.of hht6, atI_nat (j := 0) rfl, rfl, _, rfl, ?_⟩
        rw [eq_str, beq_self_eq_true]
        refine iteT ⟨_, rfl, _, rfl, D1, _, _, _, rfl, rfl, SqL.of k6, hl2, by show 2 ≤ sizeLine; decide, fun l2 nl2 => ⟨l2, _, rfl, .inl (SqL.of upd_same), rfl, flat_strs ["needs", "keeps"], ?_⟩⟩
        rw [show inV (V.str (kindK rl)) [V.str "needs", V.str "keeps"] = (["needs", "keeps"] : List Str).contains (kindK rl) from inV_strs _ ["needs", "keeps"], in_nk, ← hlast]
        have q := k _ (S6.trans (same_upd (o := .lst [V.str "needs", V.str "keeps"]) nl2))
        rw [show rightK .hook rows = (decide (1 ≤ lastK rows) && decide (lastK rows ≤ 2)) by
          show (!rows.isEmpty && !(partsK rows).isEmpty && (decide (1 ≤ lastK rows) && decide (lastK rows ≤ 2))) = _
          rw [hre, pe]
          rfl] at q
        exact q
      | by_ sg ch mk =>
        subst hlb
        refine iteF ⟨_, rfl, by show 0 ≤ sizeLine; decide, fun l nl => eq_rows (P := fun _ => True) (SqL.of (same_upd nl _ _ al4)) (hps5 l nl) upd_same ⟨_, rfl, ?_⟩⟩
        rw [hemp, hre]
        have S5 := S4.trans (same_upd (o := .lst []) nl)
        have sn5 : Same G4 (upd G4 l (.lst [])) := same_upd nl
        obtain ⟨c, _, hh1, hh2⟩ := ht4
        have hht : upd G4 l (.lst []) t = some (.tup [.str "by", .str (rowL (.by_ sg ch mk)), .str sg, .ref c, .bl (mk == "hook")]) := same_upd nl _ _ hh1
        have hcc : StrsAt (upd G4 l (.lst [])) c ch := same_upd nl _ _ hh2
        have k5 : StrsAt (upd G4 l (.lst [])) D1 (rows.map kindK) := same_upd nl _ _ kinds4
        have p5 : StrsAt (upd G4 l (.lst [])) D2 (partsK rows) := same_upd nl _ _ parts4
        have f5 : StrsAt (upd G4 l (.lst [])) D4 (partsK rows ++ keptK rows) := same_upd nl _ _ hD4
        generalize upd G4 l (.lst []) = G5 at S5 sn5 hht hcc k5 p5 f5
        refine iteF ⟨_, rfl, t, _, ((0 : Nat) : Int), _, rfl, rfl, SqT.of hht, atI_nat (j := 0) rfl, rfl, _, rfl, ?_⟩
        rw [eq_str, show (("by" : Str) == "needs") = false by decide +kernel]
        refine iteF ⟨_, rfl, by show 0 ≤ sizeLine; decide, fun l6 nl6 => ?_⟩
        have S6 := S5.trans (same_upd (o := .lst []) nl6)
        have sn6 : Same G5 (upd G5 l6 (.lst [])) := same_upd nl6
        have l6e : upd G5 l6 (.lst []) l6 = some (.lst (([] : List Str).map V.str)) := upd_same
        generalize upd G5 l6 (.lst []) = G6 at S6 sn6 l6e
        have hht6 := sn6 _ _ hht
        have k6 : StrsAt G6 D1 (rows.map kindK) := sn6 _ _ k5
        have p6 : StrsAt G6 D2 (partsK rows) := sn6 _ _ p5
        have f6 : StrsAt G6 D4 (partsK rows ++ keptK rows) := sn6 _ _ f5
        refine eq_lists (zs := []) (SqL.of p6) (SqL.of l6e) okp (fun p hp => by cases hp) ⟨_, rfl, ite2 (fun e0 => ?_) (fun e0 => ?_)⟩
        · have e1 : partsK rows = [] := of_decide_eq_true e0
          have q := k _ S6
          rw [show rightK (.by_ sg ch mk) rows = false by
            show (!rows.isEmpty && !(partsK rows).isEmpty && _ && _ && _ && _) = false
            rw [e1]
            simp] at q
          exact q
        have pe : (partsK rows).isEmpty = false := by
          cases e : partsK rows with
          | nil => rw [e] at e0; exact absurd (decide_eq_true rfl) e0
          | cons _ _ => rfl
        refine ⟨_, rfl, t, _, ((0 : Nat) : Int), _, rfl, rfl, SqT.of hht6, atI_nat (j := 0) rfl, rfl, _, rfl, ?_⟩
        rw [eq_str, show (("by" : Str) == "keeps") = false by decide +kernel]
        refine iteF ⟨_, rfl, t, _, ((0 : Nat) : Int), _, rfl, rfl, SqT.of hht6, atI_nat (j := 0) rfl, rfl, _, rfl, ?_⟩
        rw [eq_str, show (("by" : Str) == "hook") = false by decide +kernel]
        have al6 : G6 al = _ := (sn5.trans sn6) _ _ al4
        have sn46 : Same G4 G6 := sn5.trans sn6
        have hcc6 : StrsAt G6 c ch := sn6 _ _ hcc
        refine iteF ⟨_, rfl, al, rfl, ⟨_, SqL.of al6⟩, fun D5 nD5 => ?_⟩
        refine lc_fm (walk_list (xs := ps.map fun p => V.ref p.1)) (fun i => ps[i]?.bind fun p => (thirdK "by" p.2).map V.str) nD5 (by rw [List.length_map]; omega) (fun _ s => SqL.of (s _ _ al6)) ?_ ?_
        · skip
          rintro i x G0 G NT NE hi sg ⟨rfl, hx⟩ w0 w1
          obtain ⟨p, hp, rfl⟩ : ∃ p, ps[i]? = some p ∧ V.ref p.1 = x := by
            rw [List.getElem?_map] at hx
            cases e : ps[i]? with
            | none => rw [e] at hx; cases hx
            | some p => rw [e] at hx; exact ⟨p, rfl, by injection hx⟩
          obtain ⟨rest, z1, z2, z3⟩ := third_at (kd := "by") (((hps4 p (List.mem_of_getElem? hp)).1.mono (fun _ _ z => (sn46.trans sg) _ _ z) fun c _ xs z => ⟨trivial, (sn46.trans sg) _ _ z⟩) : KAtP (fun _ => True) G p.1 p.2) (by simp)
          refine ⟨rfl, _, rfl, p.1, _, ((0 : Nat) : Int), _, rfl, rfl, SqT.of z1, atI_nat (j := 0) rfl, rfl, _, rfl, ?_⟩
          rw [eq_str]
          cases e : (kindK p.2 == ("by" : Str)) with
          | false => exact iteF (w0 (by rw [hp]; show (thirdK "by" p.2).map V.str = none; rw [z2 e]; rfl) _ (Same.refl _))
          | true =>
            obtain ⟨y, y1, y2⟩ := z3 e
            exact iteT ⟨_, rfl, p.1, _, ((2 : Nat) : Int), _, rfl, rfl, SqT.of z1, atI_nat (j := 2) y1, w1 _ _ (by rw [hp]; show (thirdK "by" p.2).map V.str = some (.str y); rw [y2]; rfl) (Same.refl _)⟩
        intro G7 s7 hD5
        rw [gath_fm ps _ _ (by rw [List.length_map]; exact Nat.le_refl _), List.length_map, List.take_length, fm_third, third_by, hrows] at hD5
        have S7 := S6.trans s7
        have hht7 := s7 _ _ hht6
        have k7 : StrsAt G7 D1 (rows.map kindK) := s7 _ _ k6
        have p7 : StrsAt G7 D2 (partsK rows) := s7 _ _ p6
        have hcc7 : StrsAt G7 c ch := s7 _ _ hcc6
        have q := k _ S7
        have er : rightK (.by_ sg ch mk) rows = (!rows.isEmpty && !(partsK rows).isEmpty && !(signsK rows).contains sg && decide ((signsK rows).length ≠ 6) && !(mk == "hook" && !hookK rows) && decide (ch = (partsK rows).filter fun f => ch.contains f)) := rfl
        refine ⟨_, rfl, t, _, ((2 : Nat) : Int), _, rfl, rfl, SqT.of hht7, atI_nat (j := 2) rfl, _, rfl, D5, _, rfl, .inl (SqL.of hD5), rfl, flat_strs _, _, rfl, ?_⟩
        rw [inV_strs]
        cases h1 : (signsK rows).contains sg with
        | true =>
          rw [er, h1] at q
          simp only [Bool.not_true, Bool.and_false, Bool.false_and] at q
          exact iteT q
        | false =>
          refine iteF ⟨_, rfl, D5, _, rfl, .inl (SqL.of hD5), rfl, _, rfl, ?_⟩
          rw [List.length_map, show decide (V.int (((signsK rows).length : Nat) : Int) = V.int 6) = decide ((signsK rows).length = 6) from len_is (k := 6)]
          refine ite2 (fun h2 => ?_) (fun h2 => ?_)
          · rw [er, decide_eq_false (fun z => z (of_decide_eq_true h2)), Bool.and_false, Bool.false_and, Bool.false_and] at q
            exact q
          · have h2' : (signsK rows).length ≠ 6 := fun z => h2 (decide_eq_true z)
            rw [er, hre, pe, h1, decide_eq_true h2'] at q
            refine ⟨_, rfl, t, _, ((4 : Nat) : Int), _, rfl, rfl, SqT.of hht7, atI_nat (j := 4) rfl, _, rfl, ?_⟩
            have okc : ∀ x ∈ ch, PyData.strOk x = true := fun x hx => strOk_field ((show ByOk sg ch mk from okr).chf x hx)
            cases hm : (mk == ("hook" : Str)) with
            | true =>
              refine iteT ⟨_, rfl, D1, _, rfl, .inl (SqL.of k7), rfl, flat_strs _, _, rfl, ?_⟩
              rw [inV_strs, hook_in]
              cases hk : hookK rows with
              | false =>
                rw [hm, hk] at q
                exact iteT q
              | true =>
                have hcond : (mk == ("hook" : Str) && !hookK rows) = false := by rw [hm, hk]; rfl
                refine iteF ?_
                refine ⟨_, rfl, t, _, ((3 : Nat) : Int), _, rfl, rfl, SqT.of hht7, atI_nat (j := 3) rfl, _, rfl, D2, rfl, ⟨_, SqL.of p7⟩, fun D6 nD6 => ?_⟩
                refine lc_fm (walk_list (xs := (partsK rows).map V.str)) (fun i => (partsK rows)[i]?.bind fun x => if ch.contains x = true then some (V.str x) else none) nD6 (by rw [List.length_map]; omega) (fun _ s => SqL.of (s _ _ p7)) ?_ ?_
                · rintro i x G0 G NT NE hi sg ⟨rfl, hx⟩ w0 w1
                  obtain ⟨y, hy, rfl⟩ : ∃ y, (partsK rows)[i]? = some y ∧ V.str y = x := by
                    rw [List.getElem?_map] at hx
                    cases e : (partsK rows)[i]? with
                    | none => rw [e] at hx; cases hx
                    | some y => rw [e] at hx; exact ⟨y, rfl, by injection hx⟩
                  refine ⟨rfl, _, rfl, _, rfl, t, _, ((3 : Nat) : Int), _, rfl, rfl, SqT.of (sg _ _ hht7), atI_nat (j := 3) rfl, c, _, rfl, .inl (SqL.of (sg _ _ hcc7)), rfl, flat_strs _, _, rfl, ?_⟩
                  rw [inV_strs]
                  cases e : ch.contains y with
                  | true => exact iteT ⟨_, rfl, w1 _ _ (by rw [hy]; show (if ch.contains y = true then some (V.str y) else none) = _; rw [if_pos e]) (Same.refl _)⟩
                  | false => exact iteF (w0 (by rw [hy]; show (if ch.contains y = true then some (V.str y) else none) = _; rw [if_neg (by rw [e]; exact Bool.false_ne_true)]) _ (Same.refl _))
                intro G8 s8 hD6
                rw [gath_filter (partsK rows) (fun x => ch.contains x) V.str (by rw [List.length_map])] at hD6
                refine eq_lists (SqL.of (s8 _ _ hcc7)) (SqL.of hD6) okc (fun x hx => okp x (List.mem_filter.mp hx).1) ?_
                have q8 := k _ (S7.trans s8)
                rw [er, hre, pe, h1, decide_eq_true h2', hcond] at q8
                exact q8
            | false =>
              have hcond : (mk == ("hook" : Str) && !hookK rows) = false := by rw [hm]; rfl
              refine iteF ?_
              refine ⟨_, rfl, t, _, ((3 : Nat) : Int), _, rfl, rfl, SqT.of hht7, atI_nat (j := 3) rfl, _, rfl, D2, rfl, ⟨_, SqL.of p7⟩, fun D6 nD6 => ?_⟩
              refine lc_fm (walk_list (xs := (partsK rows).map V.str)) (fun i => (partsK rows)[i]?.bind fun x => if ch.contains x = true then some (V.str x) else none) nD6 (by rw [List.length_map]; omega) (fun _ s => SqL.of (s _ _ p7)) ?_ ?_
              · rintro i x G0 G NT NE hi sg ⟨rfl, hx⟩ w0 w1
                obtain ⟨y, hy, rfl⟩ : ∃ y, (partsK rows)[i]? = some y ∧ V.str y = x := by
                  rw [List.getElem?_map] at hx
                  cases e : (partsK rows)[i]? with
                  | none => rw [e] at hx; cases hx
                  | some y => rw [e] at hx; exact ⟨y, rfl, by injection hx⟩
                refine ⟨rfl, _, rfl, _, rfl, t, _, ((3 : Nat) : Int), _, rfl, rfl, SqT.of (sg _ _ hht7), atI_nat (j := 3) rfl, c, _, rfl, .inl (SqL.of (sg _ _ hcc7)), rfl, flat_strs _, _, rfl, ?_⟩
                rw [inV_strs]
                cases e : ch.contains y with
                | true => exact iteT ⟨_, rfl, w1 _ _ (by rw [hy]; show (if ch.contains y = true then some (V.str y) else none) = _; rw [if_pos e]) (Same.refl _)⟩
                | false => exact iteF (w0 (by rw [hy]; show (if ch.contains y = true then some (V.str y) else none) = _; rw [if_neg (by rw [e]; exact Bool.false_ne_true)]) _ (Same.refl _))
              intro G8 s8 hD6
              rw [gath_filter (partsK rows) (fun x => ch.contains x) V.str (by rw [List.length_map])] at hD6
              refine eq_lists (SqL.of (s8 _ _ hcc7)) (SqL.of hD6) okc (fun x hx => okp x (List.mem_filter.mp hx).1) ?_
              have q8 := k _ (S7.trans s8)
              rw [er, hre, pe, h1, decide_eq_true h2', hcond] at q8
              exact q8
end
end K03

namespace K03
open PySem PySem.Spec PyProof.Rows L2 EV TL LM
/-- what the text says of the error's class where it is caught -/
structure CatchC (K : Fg) (mg : Str → Option Value) (x : Str) (C : Addr) : Prop where
  nm : mg x = some (.ref C)
  te : PySem.W.exmOne K (.ref C) (.ref C) = some true
theorem sc_lawE : FnScope ["script", "at", "bag", "turn", "rows", "due", "lines", "is_whole", "text", "told", "row", "e"] ["script"] (defScope s_law) := ⟨rfl, rfl, rfl, by decide +kernel, rfl, by decide +kernel, by decide +kernel⟩
/-- a list of rows unlike an empty list -/
theorem ne_rows {K : Fg} {H : Hp} {P : Addr → Prop} {al l : Addr} {ps : List (Addr × KRow)} {Q : VK} (ha : SqL K H al (ps.map fun p : Addr × KRow => V.ref p.1)) (hp : ∀ p ∈ ps, KAtP P H p.1 p.2 ∧ RowOk p.2) (hl : H l = some (.lst [])) (k : Q (.bl (!ps.isEmpty)) H) : rNeD K (.ref al) (.ref l) H Q := by
  obtain ⟨f1, f2⟩ := fine_rows ps fun p h => (hp p h).2
  refine ⟨.list (ps.map fun p => dataK p.2), .list [], .lst ha (dp_rows ps fun p h => (hp p h).1), .lst (SqL.of hl) .nil, ?_, by decide, ?_⟩
  · unfold SeqAt.shaped
    rw [show PyData.canLay0 (.list (ps.map fun p => dataK p.2)) = true from f1, Bool.true_and]
    refine decide_eq_true ?_
    rw [PyData.depth]
    omega
  · have e : PyData.eqv (.list (ps.map fun p => dataK p.2)) (.list []) = ps.isEmpty := by cases ps <;> rfl
    rw [e]
    exact k
theorem kat_line {P : Addr → Prop} {H : Hp} {t : Addr} {r : KRow} (h : KAtP P H t r) : ∃ a rest, H t = some (.tup (a :: .str (rowL r) :: rest)) := by
  cases r with
  | by_ s ch m =>
    obtain ⟨c, _, h2, _⟩ := h
    exact ⟨_, _, h2⟩
  | _ => exact ⟨_, _, h⟩
theorem by_kind (r : KRow) : (kindK r == ("by" : Str)) = isBy r := by
  cases r with
  | lib _ => exact (by decide +kernel : (("library" : Str) == "by") = false)
  | needs _ => exact (by decide +kernel : (("needs" : Str) == "by") = false)
  | keeps _ _ => exact (by decide +kernel : (("keeps" : Str) == "by") = false)
  | hook => exact (by decide +kernel : (("hook" : Str) == "by") = false)
  | by_ _ _ _ => exact (by decide +kernel : (("by" : Str) == "by") = true)
theorem due_next {rows : List KRow} {i : Nat} {r : KRow} (e : rows[i]? = some r) (h : rightK r (rows.take i) = true) : dueK (rows.take i) (rows.drop i) = dueK (rows.take (i + 1)) (rows.drop (i + 1)) := by
  have hi := (List.getElem?_eq_some_iff.mp e).1
  have er : rows[i] = r := (List.getElem?_eq_some_iff.mp e).2
  rw [List.drop_eq_getElem_cons hi, er]
  show (if rightK r (rows.take i) = true then dueK (rows.take i ++ [r]) (rows.drop (i + 1)) else _) = _
  rw [if_pos h, List.take_succ, e]
  rfl
theorem due_here {rows : List KRow} {i : Nat} {r : KRow} (e : rows[i]? = some r) (h : rightK r (rows.take i) = false) : dueK (rows.take i) (rows.drop i) = i := by
  have hi := (List.getElem?_eq_some_iff.mp e).1
  have er : rows[i] = r := (List.getElem?_eq_some_iff.mp e).2
  rw [List.drop_eq_getElem_cons hi, er]
  show (if rightK r (rows.take i) = true then _ else (rows.take i).length) = _
  rw [if_neg (by rw [h]; exact Bool.false_ne_true), List.length_take]
  omega
theorem read_all {rows : List KRow} (hR : ∀ r ∈ rows, RowOk r) :
    ((decide (dueK [] rows = rows.length) && rows.any isBy) = true → ∃ L, readM (textK rows) = .ok L ∧ textM L = textK rows) ∧ ((decide (dueK [] rows = rows.length) && rows.any isBy) = false → readM (textK rows) = .error (dueK [] rows)) := by
  by_cases hne : rows = []
  · subst hne
    refine ⟨(fun z => by cases z), fun _ => ?_⟩
    show readRows (rowsM ("" : Str)) = .error 0
    rw [show rowsM ("" : Str) = [[("" : Str)]] by decide +kernel]
    rfl
  · obtain ⟨h1, h2⟩ := read_due hR hne
    constructor
    · intro z
      rw [Bool.and_eq_true, decide_eq_true_eq] at z
      exact h1 z
    · intro z
      refine h2 fun ⟨z1, z2⟩ => ?_
      rw [decide_eq_true z1, z2] at z
      cases z
section
variable {P : Program} {w : World} {K : Fg} {mg : Str → Option Value} {base : Heap}
def spStr (K : Fg) (C : Addr) : Sp := fun vs H Q _ => ∃ (a : Addr) (L : Lib), vs = [.ref a] ∧ LibAt K H C a L ∧ Q (.str (textM L)) H
theorem ok_str {f C : Addr} {fd : FuncData} (F : Fun K "__str__" "Library.__str__" s_Library___str__ f fd) (T : Cst K mg) (hC : LibC K C) : FnOk P w K mg base CX0 1 f fd ["self"] (spStr K C) := by
  refine F.ok sc_Library___str__ (fun vs H Q E h => ?_) (fun cdv A outer s H vs Q E hr h => ?_)
  · obtain ⟨a, L, rfl, _⟩ := h
    rfl
  · obtain ⟨a, L, rfl, ⟨dx, pa, pk, po, psg, pc, pm, ha, R⟩, k⟩ := h
    refine ⟨_, (pss_one (ps_ret (pe_callTy SkE.call_str_str (by rfl) T.n_str (by decide +kernel) (pa_cons (pe_fld (pv 0) rfl) pa_nil)))), ?_⟩
    exact ⟨_, rfl, a, C, dx, _, _, rfl, ha, hC.cls, hC.no _ (by simp), lookF.text, _, rfl, k⟩
def spLaw (K : Fg) : Sp := fun vs H Q _ => ∃ (a : Addr) (ns : List Int), vs = [.ref a] ∧ SqL K H a (ns.map V.int) ∧ ns.length ≤ 63 ∧ ∀ H', Q (.bl true) H'
theorem ok_law {f C CB : Addr} {fd : FuncData} (F : Fun K "law" "law" s_law f fd) (T : Cst K mg) (hC : LibC K C) (gL : mg "Library" = some (.ref C)) (cB : CatchC K mg "BadLibrary" CB) (xB : XCls K CB) (nB : NoAttr K CB "at")
    (O_law_bag : Ok P w K mg base 1 "_law_bag" ["script", "at", "salt"] (spBag K)) (O_law_rows : Ok P w K mg base 4 "_law_rows" ["bag"] spRows) (O_law_right : Ok P w K mg base 1 "_law_right" ["row", "above"] spRight)
    (O_read : OkCM P w K mg base 7 C "read" ["cls", "text"] (spRead K C CB)) (O_str : OkM CX0 P w K mg base 1 C "__str__" ["self"] (spStr K C)) :
    FnOk P w K mg base CX0 8 f fd ["script"] (spLaw K) := by
  refine F.ok sc_lawE (fun vs H Q E h => ?_) (fun cdv A outer s H vs Q E hr h => ?_)
  · obtain ⟨a, ns, rfl, _⟩ := h
    rfl
  · obtain ⟨a, ns, rfl, hS, hlen, k⟩ := h
    refine ⟨_, (pss_cons (ps_for PassesOwn.never rfl (pi_range1 rfl T.n_range (pa_cons (pe_callB (call_max2 rfl) (by rfl) T.n_max (by decide +kernel) (pa_cons pe_int (pa_cons (pe_callB (call_min2 rfl) (by rfl) T.n_min (by decide +kernel) (pa_cons pe_int (pa_cons (pe_callB call_len_seq (by rfl) T.n_len (by decide +kernel) (pa_cons (pv 0) pa_nil)) pa_nil))) pa_nil))) pa_nil)) (pg_name (i := 1) sc_lawE.nd rfl (Or.inl rfl)) (pss_cons (ps_set (i := 2) sc_lawE.nd rfl (Or.inl rfl) (pe_callO O_law_bag (hr.mono (by decide)) (pa_cons (pv 0) (pa_cons (pv 1) (pa_cons pe_int pa_nil)))))
    (pss_one (ps_for PassesOwn.never rfl (pi_range1 rfl T.n_range (pa_cons pe_int pa_nil)) (pg_name (i := 3) sc_lawE.nd rfl (Or.inl rfl)) (pss_cons (ps_set (i := 4) sc_lawE.nd rfl (Or.inl rfl) (pe_callO O_law_rows (hr.mono (by decide)) (pa_cons (pv 2) pa_nil)))
    (pss_cons (ps_par (i := 5) (j := 6) (by rfl) sc_lawE.nd rfl rfl (by decide) rfl rfl (pa_cons pe_int (pa_cons (pe_lc (own := [("row", 10)]) rfl sc_lawE.nd (pi_list (pv 4)) (blkOk_by (own := [("row", 10)]) (N := ["script", "at", "bag", "turn", "rows", "due", "lines", "is_whole", "text", "told", "row", "e"]) (sc := defScope s_law) (by decide +kernel)) (fun _ _ _ _ _ => (pg_name (i := 10) sc_lawE.nd rfl (Or.inl rfl))) (fun _ _ _ _ _ => pts_nil) (fun _ _ _ _ _ => (pe_ix (show IxR _ (rIxT K) from ix_tup) (pv 10) pe_int (fun _ _ => rfl)))) pa_nil)) (by rfl))
    (pss_cons (ps_mid (ps_while PassesOwn.never (PW.pt (pw_and (pt_cmpR op_lt (pv 5) (pe_callB call_len_seq (by rfl) T.n_len (by decide +kernel) (pa_cons (pv 4) pa_nil)) (nomark _)) (pw_and1 (pt_val (pe_callO O_law_right (hr.mono (by decide)) (pa_cons (pe_ix ix_list (pv 4) (pv 5) (fun _ _ => rfl)) (pa_cons (pe_slice sl_list (pv 4) po_none (po_some (pv 5))) pa_nil))))))) (pss_one (ps_set (i := 5) sc_lawE.nd rfl (Or.inl rfl) (pe_op op_add (pv 5) pe_int)))))
    (pss_cons (ps_set (i := 7) sc_lawE.nd rfl (Or.inl rfl) (pe_mid (pe_and (pe_cmpR op_eq (pv 5) (pe_callB call_len_seq (by rfl) T.n_len (by decide +kernel) (pa_cons (pv 4) pa_nil)) (nomark _)) (pe_one (pe_cmpR (op_neD hr.units) (pe_lc (own := [("row", 10)]) rfl sc_lawE.nd (pi_list (pv 4)) (blkOk_by (own := [("row", 10)]) (N := ["script", "at", "bag", "turn", "rows", "due", "lines", "is_whole", "text", "told", "row", "e"]) (sc := defScope s_law) (by decide +kernel)) (fun _ _ _ _ _ => (pg_name (i := 10) sc_lawE.nd rfl (Or.inl rfl))) (fun _ _ _ _ _ => (pts_one (pt_cmpR op_eq (pe_ix (show IxR _ (rIxT K) from ix_tup) (pv 10) pe_int (fun _ _ => rfl)) pe_str (nomark _)))) (fun _ _ _ _ _ => (pv 10))) (pe_lst pa_nil) (nomark _))))))
    (pss_cons (ps_set (i := 8) sc_lawE.nd rfl (Or.inl rfl) (pe_join pe_str (pv 6)))
    (pss_cons (ps_try_as (i := 11) rfl rfl sc_lawE.nd rfl rfl ⟨rfl, by decide, .inl cB.nm⟩ takes0
      (fun W pn xe tk _ => pss_one (ps_set (i := 9) sc_lawE.nd rfl (Or.inl rfl) (pe_callTy (call_strO O_str (hr.mono (by decide))) (by rfl) T.n_str (by decide +kernel) (pa_cons (pe_cmethX tk (pe_glob (v := .ref C) rfl gL rfl) O_read (hr.mono (by decide)) (pa_cons (pv 8) pa_nil)) pa_nil))))
      (fun a oe cls d pn hz hv => pss_one (ps_set (i := 9) sc_lawE.nd rfl (Or.inl rfl) (pe_byX xB nB hz hv (pv 11)))))
    (pss_one (ps_if (pt_cmpR op_ne (pv 9) (pe_mid (pe_ifExp (pt_truth (pv 7) (by intro _; rfl)) (pv 8) (pv 5))) (nomark _)) (pss_one (ps_ret pe_bl)) pss_nil))))))))))))
    (pss_one (ps_ret pe_bl))), ?_⟩
    have hN : ∀ m : Int, m = (if (ns.map V.int).length < (5 : Int) then ((ns.map V.int).length : Int) else 5) → 1 ≤ (if m > 1 then m else 1) ∧ (if m > 1 then m else 1) ≤ 5 := fun m hm => by
      have q : m ≤ 5 := by rw [hm]; split <;> omega
      split <;> omega
    obtain ⟨n1, n5⟩ := hN _ rfl
    refine ⟨_, rfl, a, _, rfl, .inl hS, _, _, rfl, _, _, rfl, _, rfl, by omega, by omega, ?_⟩
    refine for_range (lo := 0) (fun i σ G => Same H G ∧ ∃ u1 u2 u3 u4 u5 u6 u7 u8 u9 u10 u11 : Option V, σ = [some (.ref a), u1, u2, u3, u4, u5, u6, u7, u8, u9, u10, u11]) ⟨Same.refl _, ⟨_, _, _, _, _, _, _, _, _, _, _, rfl⟩⟩ ?_ ?_
    · rintro i σ G hi ⟨S0, u1, u2, u3, u4, u5, u6, u7, u8, u9, u10, u11, rfl⟩
      refine ⟨_, rfl, _, rfl, a, ns, i, 2417, by simp, S0.seq hS, by omega, by decide, fun b G1 nb S1 B1 => ?_⟩
      have nbH : H b = none := S0.free nb
      refine ⟨3, rfl, by decide, by decide, for_range (lo := 0) (n := 3) (fun j σ G => Same H G ∧ BagAt G b ∧ ∃ u3 u4 u5 u6 u7 u8 u9 u10 u11 : Option V, σ = [some (.ref a), some (.int (0 + (i : Int))), some (.ref b), u3, u4, u5, u6, u7, u8, u9, u10, u11]) ⟨S0.trans S1, B1, ⟨_, _, _, _, _, _, _, _, _, rfl⟩⟩ ?_ ?_⟩
      · rintro j σ G hj ⟨SG, BG, v3, v4, v5, v6, v7, v8, v9, v10, v11, rfl⟩
        refine ⟨_, rfl, b, rfl, BG, fun fl ps G2 k2 B2 nfl flb hK l30 => ?_⟩
        have SG2 : Same H G2 := same_keep SG nbH k2
        have refs : ∀ {G' : Hp}, Same G2 G' → SqL K G' fl (ps.map fun p : Addr × KRow => V.ref p.1) := fun s => SqL.of (s _ _ hK.hf)
        have kat : ∀ {G' : Hp}, Same G2 G' → ∀ p ∈ ps, KAtP (fun _ => True) G' p.1 p.2 ∧ RowOk p.2 := fun s p hp => ⟨(hK.all p hp).1.mono (fun _ _ z => s _ _ z) fun c _ xs z => ⟨trivial, s _ _ z⟩, (hK.all p hp).2⟩
        obtain ⟨rows, hrows⟩ : ∃ rows, ps.map (·.2) = rows := ⟨_, rfl⟩
        have okall : ∀ r ∈ rows, RowOk r := fun r hr => by
          rw [← hrows] at hr
          obtain ⟨p, hp, rfl⟩ := List.mem_map.mp hr
          exact (hK.all p hp).2
        have lrows : rows.length = ps.length := by rw [← hrows, List.length_map]
        -- the lines
        refine ⟨_, rfl, fl, rfl, ⟨_, refs (Same.refl _)⟩, fun D1 nD1 => ?_⟩
        refine lc_fm (walk_list (xs := ps.map fun p : Addr × KRow => V.ref p.1)) (fun i => ps[i]?.map fun p => V.str (rowL p.2)) nD1 (by rw [List.length_map]; omega) (fun _ s => refs s) ?_ ?_
        · rintro i x G0 G NT NE hi sg ⟨rfl, hx⟩ w0 w1
          obtain ⟨p, hp, rfl⟩ : ∃ p, ps[i]? = some p ∧ V.ref p.1 = x := by
            rw [List.getElem?_map] at hx
            cases e : ps[i]? with
            | none => rw [e] at hx; cases hx
            | some p => rw [e] at hx; exact ⟨p, rfl, by injection hx⟩
          obtain ⟨a', rest, hh⟩ := kat_line (kat sg p (List.mem_of_getElem? hp)).1
          refine ⟨rfl, _, rfl, p.1, _, ((1 : Nat) : Int), _, rfl, rfl, SqT.of hh, atI_nat (j := 1) rfl, w1 _ _ ?_ (Same.refl _)⟩
          rw [hp]
          rfl
        intro G3 s3 hD1
        rw [gath_map ps _ (by rw [List.length_map])] at hD1
        have hlines : StrsAt G3 D1 (rows.map rowL) := by
          show G3 D1 = _
          rw [hD1, ← hrows, List.map_map, List.map_map]
          rfl
        clear hD1
        refine ⟨_, _, rfl, ?_⟩
        -- where reading stops
        refine ⟨fun σ' G' => σ' = [some (.ref a), some (.int (0 + (i : Int))), some (.ref b), some (.int (0 + (j : Int))), some (.ref fl), some (.int (dueK [] rows : Nat)), some (.ref D1), v7, v8, v9, v10, v11] ∧ Same G3 G' ∧ dueK [] rows ≤ rows.length, ?_, ?_⟩
        · refine ⟨fun m σ G => Same G3 G ∧ ∃ due : Nat, due ≤ rows.length ∧ m = rows.length - due ∧ dueK (rows.take due) (rows.drop due) = dueK [] rows ∧ σ = [some (.ref a), some (.int (0 + (i : Int))), some (.ref b), some (.int (0 + (j : Int))), some (.ref fl), some (.int (due : Nat)), some (.ref D1), v7, v8, v9, v10, v11], ⟨_, Same.refl _, 0, Nat.zero_le _, rfl, rfl, rfl⟩, ?_⟩
          rintro m σ G ⟨sG, due, hdue, rfl, hinv, rfl⟩
          have s2G := s3.trans sG
          refine ⟨_, rfl, _, rfl, fl, _, rfl, .inl (refs s2G), _, _, rfl, rfl, _, rfl, ?_⟩
          rw [List.length_map, ← lrows]
          have e3 : decide ((due : Int) < (rows.length : Int)) = decide (due < rows.length) := by
            by_cases z : due < rows.length
            · rw [decide_eq_true z, decide_eq_true (by omega)]
            · rw [decide_eq_false z, decide_eq_false (by omega)]
          rw [e3]
          by_cases hlt : due < rows.length
          · have hltp : due < ps.length := by omega
            have epd : ps[due]? = some ps[due] := List.getElem?_eq_getElem hltp
            have erd : rows[due]? = some ps[due].2 := by rw [← hrows, List.getElem?_map, epd]; rfl
            rw [decide_eq_true hlt]
            refine iteT ⟨_, rfl, _, rfl, fl, _, ((due : Nat) : Int), V.ref ps[due].1, rfl, rfl, refs s2G, atI_nat (by rw [List.getElem?_map, epd]; rfl), _, rfl, _, rfl, _, rfl, fl, _, rfl, refs s2G, fun c nc => ?_⟩
            have ec : upd G c (.lst (cutV (ps.map fun p : Addr × KRow => V.ref p.1) none (some (due : Nat)))) c = some (.lst ((ps.take due).map fun p : Addr × KRow => V.ref p.1)) := by
              rw [upd_same, show cutV (ps.map fun p : Addr × KRow => V.ref p.1) none (some ((due : Nat) : Int)) = (ps.map fun p : Addr × KRow => V.ref p.1).take due from cut_take _ due, ← List.map_take]
            have sc : Same G (upd G c (.lst (cutV (ps.map fun p : Addr × KRow => V.ref p.1) none (some (due : Nat))))) := same_upd nc
            generalize upd G c (.lst (cutV (ps.map fun p : Addr × KRow => V.ref p.1) none (some (due : Nat)))) = Gc at ec sc
            have kd := kat (s2G.trans sc) ps[due] (List.getElem_mem hltp)
            refine ⟨ps[due].1, c, ps[due].2, ps.take due, rfl, kd.1, kd.2, ec, fun p hp => kat (s2G.trans sc) p (List.mem_of_mem_take hp), by rw [List.length_take]; omega, fun G4 s4 => ?_⟩
            rw [List.map_take, hrows]
            refine ⟨_, rfl, ?_⟩
            cases er : rightK ps[due].2 (rows.take due) with
            | true =>
              refine iteT ⟨fun σ' G' => Same G3 G' ∧ ∃ due' : Nat, due' ≤ rows.length ∧ rows.length - due' < rows.length - due ∧ dueK (rows.take due') (rows.drop due') = dueK [] rows ∧ σ' = [some (.ref a), some (.int (0 + (i : Int))), some (.ref b), some (.int (0 + (j : Int))), some (.ref fl), some (.int (due' : Nat)), some (.ref D1), v7, v8, v9, v10, v11],
                fun σ' G' ⟨z1, d', z2, z3, z4, z5⟩ => ⟨_, z3, z1, d', z2, rfl, z4, z5⟩, _, rfl, _, _, rfl, rfl, (sG.trans sc).trans s4, due + 1, by omega, by omega, ?_, rfl⟩
              rw [← due_next erd er]
              exact hinv
            | false =>
              have hd : dueK [] rows = due := by rw [← hinv]; exact due_here erd er
              exact iteF ⟨by rw [hd], (sG.trans sc).trans s4, by omega⟩
          · have hde : due = rows.length := by omega
            have hd : dueK [] rows = due := by
              rw [← hinv, hde, List.take_length, List.drop_length]
              show rows.length = (rows : List KRow).length
              rfl
            rw [decide_eq_false hlt]
            exact iteF (iteF ⟨by rw [hd], sG, by omega⟩)
        rintro σ' G ⟨rfl, sG, hdl⟩
        have s2G := s3.trans sG
        obtain ⟨r1, r2⟩ := read_all okall
        obtain ⟨tx1, tx2⟩ := text_ok okall (by omega)
        -- is it whole
        obtain ⟨wh, hwh⟩ : ∃ wh, (decide (dueK [] rows = rows.length) && rows.any isBy) = wh := ⟨_, rfl⟩
        refine ⟨fun v G' => v = V.bl wh ∧ Same G G', ⟨_, rfl, _, rfl, fl, _, rfl, .inl (refs s2G), rfl, _, rfl, ?_⟩, ?_⟩
        · rw [List.length_map, ← lrows, show decide (V.int ((dueK [] rows : Nat) : Int) = V.int ((rows.length : Nat) : Int)) = decide (dueK [] rows = rows.length) from len_is]
          cases hd1 : decide (dueK [] rows = rows.length) with
          | false =>
            rw [hd1] at hwh
            exact iteF ⟨by rw [← hwh]; rfl, Same.refl _⟩
          | true =>
            rw [hd1, Bool.true_and] at hwh
            refine iteT ⟨_, rfl, fl, rfl, ⟨_, refs s2G⟩, fun D2 nD2 => ?_⟩
            refine lc_fm (walk_list (xs := ps.map fun p : Addr × KRow => V.ref p.1)) (fun i => ps[i]?.bind fun p : Addr × KRow => if isBy p.2 = true then some (V.ref p.1) else none) nD2 (by rw [List.length_map]; omega) (fun _ s => refs (s2G.trans s)) ?_ ?_
            · rintro i x G0 G' NT NE hi sg ⟨rfl, hx⟩ w0 w1
              obtain ⟨p, hp, rfl⟩ : ∃ p, ps[i]? = some p ∧ V.ref p.1 = x := by
                rw [List.getElem?_map] at hx
                cases e : ps[i]? with
                | none => rw [e] at hx; cases hx
                | some p => rw [e] at hx; exact ⟨p, rfl, by injection hx⟩
              obtain ⟨rest, hh⟩ := kat_head (kat (s2G.trans sg) p (List.mem_of_getElem? hp)).1
              refine ⟨rfl, _, rfl, p.1, _, ((0 : Nat) : Int), _, rfl, rfl, SqT.of hh, atI_nat (j := 0) rfl, rfl, _, rfl, ?_⟩
              rw [eq_str, by_kind]
              cases e : isBy p.2 with
              | true => exact iteT ⟨_, rfl, w1 _ _ (by rw [hp]; show (if isBy p.2 = true then some (V.ref p.1) else none) = _; rw [if_pos e]) (Same.refl _)⟩
              | false => exact iteF (w0 (by rw [hp]; show (if isBy p.2 = true then some (V.ref p.1) else none) = _; rw [if_neg (by rw [e]; exact Bool.false_ne_true)]) _ (Same.refl _))
            intro G4 s4 hD2
            rw [gath_filter ps (fun p => isBy p.2) (fun p => V.ref p.1) (by rw [List.length_map])] at hD2
            refine ⟨by show 0 ≤ sizeLine; decide, fun l nl => ne_rows (P := fun _ => True) (ps := ps.filter fun p => isBy p.2) (SqL.of (same_upd nl _ _ hD2)) (fun p hp => kat ((s2G.trans s4).trans (same_upd nl)) p (List.mem_filter.mp hp).1) upd_same ⟨?_, s4.trans (same_upd nl)⟩⟩
            rw [← hwh, ← hrows]
            congr 1
            clear hD2
            have key : ∀ l : List (Addr × KRow), (!(l.filter fun p => isBy p.2).isEmpty) = (l.map (·.2)).any isBy := by
              intro l
              induction l with
              | nil => rfl
              | cons p l ih =>
                rw [List.filter_cons, List.map_cons, List.any_cons, ← ih]
                cases isBy p.2 <;> rfl
            exact key ps
        rintro _ G4 ⟨rfl, s4⟩
        have s34 := sG.trans s4
        have hl4 : StrsAt G4 D1 (rows.map rowL) := s34 _ _ hlines
        have SG4 : Same H G4 := SG2.trans (s3.trans s34)
        have BG4 : BagAt G4 b := B2.same (s3.trans s34)
        refine ⟨⟨_, rfl⟩, _, rfl, _, D1, rows.map rowL, rfl, rfl, .inl (SqL.of hl4), ?_, ?_⟩
        · have q := sum_short (b := 200) (ws := rows.map rowL) fun w hw => by
            obtain ⟨r, hr, rfl⟩ := List.mem_map.mp hw
            exact (row_fine (okall r hr)).1
          have : (rows.map rowL).length * 200 ≤ 30 * 200 := Nat.mul_le_mul_right _ (by rw [List.length_map]; omega)
          rw [n_lib.2.2.2.2.2.2.2.2.2]
          rw [List.length_map] at this ⊢
          rw [List.length_map] at q
          omega
        rw [join_eq]
        show gName 8 (.str (textK rows)) _ _ _
        cases wh with
        | true =>
          obtain ⟨L, e1, e2⟩ := r1 hwh
          refine ⟨rfl, _, rfl, textK rows, rfl, tx1, tx2, fun z e => (by rw [e1] at e; cases e), fun L' e' am G5 s5 nam hLib => ?_⟩
          rw [e1] at e'
          obtain rfl : L = L' := by injection e'
          obtain ⟨dx, pa, pk, po, psg, pc, pm, ham, RR⟩ := id hLib
          refine ⟨am, dx, _, rfl, ham, am, L, rfl, hLib, _, rfl, ?_⟩
          rw [e2]
          refine ⟨_, rfl, fun v G' => v = V.str (textK rows) ∧ G5 = G', ⟨_, rfl, true, rfl, iteT ⟨_, rfl, rfl, rfl⟩⟩, ?_⟩
          rintro _ _ ⟨rfl, rfl⟩
          refine ⟨rfl, _, rfl, ?_⟩
          rw [decide_eq_true rfl]
          exact iteF ⟨SG4.trans s5, BG4.same s5, ⟨_, _, _, _, _, _, _, _, _, rfl⟩⟩
        | false =>
          have e1 := r2 hwh
          refine ⟨rfl, _, rfl, textK rows, rfl, tx1, tx2, fun z e => ?_, fun L' e' => (by rw [e1] at e'; cases e')⟩
          rw [e1] at e
          obtain rfl : dueK [] rows = z := by injection e
          intro d G5 s5 hd
          refine ⟨true, cB.te, fun _ a9 na => ?_, fun q => by cases q⟩
          refine ⟨_, rfl, rfl, rfl, d, _, V.int (dueK [] rows : Nat), rfl, hd, by simp [List.lookup], ?_⟩
          refine ⟨_, rfl, fun v G' => v = V.int (dueK [] rows : Nat) ∧ G5 = G', ⟨_, rfl, false, rfl, iteF ⟨_, rfl, rfl, rfl⟩⟩, ?_⟩
          rintro _ _ ⟨rfl, rfl⟩
          refine ⟨rfl, _, rfl, ?_⟩
          rw [decide_eq_true rfl]
          exact iteF ⟨SG4.trans s5, BG4.same s5, ⟨_, _, _, _, _, _, _, _, _, rfl⟩⟩
      · rintro σ G ⟨SG, BG, v3, v4, v5, v6, v7, v8, v9, v10, v11, rfl⟩
        exact ⟨SG, ⟨_, _, _, _, _, _, _, _, _, _, _, rfl⟩⟩
    · rintro σ G ⟨S0, u1, u2, u3, u4, u5, u6, u7, u8, u9, u10, u11, rfl⟩
      exact k G
end
end K03

namespace K03
open PySem PySem.Spec PyProof.Rows L2 EV TL LM
abbrev veT : List Value := [.type "ValueError", .type "Exception", .type "BaseException", .type "object"]
abbrev leT : List Value := [.type "LookupError", .type "Exception", .type "BaseException", .type "object"]
/-- the values are these texts -/
def strsIn : List Value → List Str → Bool
  | [], [] => true
  | .str z _ :: us, w :: ws => z == w && strsIn us ws
  | _, _ => false
theorem strs_vals : ∀ {us : List Value} {ws : List Str}, strsIn us ws = true → Vals (ws.map V.str) us
  | [], [], _ => .nil
  | [], _ :: _, h => by simp [strsIn] at h
  | u :: us, [], h => by cases u <;> simp [strsIn] at h
  | u :: us, w :: ws, h => by
    cases u <;> simp [strsIn] at h
    obtain ⟨h1, h2⟩ := h
    subst h1
    exact .cons ⟨_, rfl⟩ (strs_vals h2)
theorem tupk_of {K : Fg} {a : Addr} {od : Option Addr} {its : Array Value} {n : Nat} {sl : Array (Option Value)} {ws : List Str} (l : K.lookup a = some ⟨.type "tuple", od, .seq its n, sl⟩) (o : strsIn its.toList ws = true) (hl : ws.length ≤ sizeLine) : TupK K a (ws.map V.str) := by
  have v := strs_vals o
  refine ⟨_, _, _, l, rfl, rfl, ?_, v⟩
  have := v.length
  rw [List.length_map] at this
  show its.toList.length ≤ _
  omega
theorem all_mk {l : PySem.W.OpenLaw} {w : World} {K : Fg} {h : Heap} {mg : Str → Option Value} {fa : Addr} (X : K.In h) (G : h.Ns mainGlobals mg) (hfa : mg "law" = some (.ref fa))
    {g__is_within g_is_small_word g_is_class_name g_is_field_name g_is_request g_arity_of g__is_first_row g__is_hook_row g__parameters_of g__kept_of g__is_selection g__request_of g__operation_of C_BadLibrary g_BadLibrary___init__ g__operations_of g__root_lines g__operation_line C_Library g_Library___init__ g_Library_read p_Library_read g__law_take g__law_bag g__law_of g_Library___contains__ g__law_words g__law_titles g__law_operation g__law_rows g__law_right g_Library___str__ g_law v_NO_FIELDSA v_BINARY_SIGNSA v_UNARY_SIGNSA v_ROOT_HOOKSA vM0 vM1 vM2 vM3 : Addr}
    {od__is_within an__is_within od_is_small_word an_is_small_word od_is_class_name an_is_class_name od_is_field_name an_is_field_name od_is_request an_is_request od_arity_of an_arity_of od__is_first_row an__is_first_row od__is_hook_row an__is_hook_row od__parameters_of an__parameters_of od__kept_of an__kept_of od__is_selection an__is_selection od__request_of an__request_of od__operation_of an__operation_of od_BadLibrary___init__ an_BadLibrary___init__ od__operations_of an__operations_of od__root_lines an__root_lines od__operation_line an__operation_line od_Library___init__ an_Library___init__ od_Library_read an_Library_read od__law_take an__law_take od__law_bag an__law_bag od__law_of an__law_of od_Library___contains__ an_Library___contains__ od__law_words an__law_words od__law_titles an__law_titles od__law_operation an__law_operation od__law_rows an__law_rows od__law_right an__law_right od_Library___str__ an_Library___str__ od_law an_law od_NO_FIELDS od_BINARY_SIGNS od_UNARY_SIGNS od_ROOT_HOOKS od_MK od_M0 od_M1 od_M2 : Option Addr}
    {sl__is_within sl_is_small_word sl_is_class_name sl_is_field_name sl_is_request sl_arity_of sl__is_first_row sl__is_hook_row sl__parameters_of sl__kept_of sl__is_selection sl__request_of sl__operation_of sl_BadLibrary___init__ sl__operations_of sl__root_lines sl__operation_line sl_Library___init__ sl_Library_read sl__law_take sl__law_bag sl__law_of sl_Library___contains__ sl__law_words sl__law_titles sl__law_operation sl__law_rows sl__law_right sl_Library___str__ sl_law sl_NO_FIELDS sl_BINARY_SIGNS sl_UNARY_SIGNS sl_ROOT_HOOKS sl_MK sl_M0 sl_M1 sl_M2 : Array (Option Value)}
    {oc__is_within dc__is_within pm__is_within cd__is_within ct__is_within kV__is_within oc_is_small_word dc_is_small_word pm_is_small_word cd_is_small_word ct_is_small_word kV_is_small_word oc_is_class_name dc_is_class_name pm_is_class_name cd_is_class_name ct_is_class_name kV_is_class_name oc_is_field_name dc_is_field_name pm_is_field_name cd_is_field_name ct_is_field_name kV_is_field_name oc_is_request dc_is_request pm_is_request cd_is_request ct_is_request kV_is_request oc_arity_of dc_arity_of pm_arity_of cd_arity_of ct_arity_of kV_arity_of oc__is_first_row dc__is_first_row pm__is_first_row cd__is_first_row ct__is_first_row kV__is_first_row oc__is_hook_row dc__is_hook_row pm__is_hook_row cd__is_hook_row ct__is_hook_row kV__is_hook_row oc__parameters_of dc__parameters_of pm__parameters_of cd__parameters_of ct__parameters_of kV__parameters_of oc__kept_of dc__kept_of pm__kept_of cd__kept_of ct__kept_of kV__kept_of oc__is_selection dc__is_selection pm__is_selection cd__is_selection ct__is_selection kV__is_selection oc__request_of dc__request_of pm__request_of cd__request_of ct__request_of kV__request_of oc__operation_of dc__operation_of pm__operation_of cd__operation_of ct__operation_of kV__operation_of oc_BadLibrary___init__ dc_BadLibrary___init__ pm_BadLibrary___init__ cd_BadLibrary___init__ ct_BadLibrary___init__ kV_BadLibrary___init__ oc__operations_of dc__operations_of pm__operations_of cd__operations_of ct__operations_of kV__operations_of oc__root_lines dc__root_lines pm__root_lines cd__root_lines ct__root_lines kV__root_lines oc__operation_line dc__operation_line pm__operation_line cd__operation_line ct__operation_line kV__operation_line oc_Library___init__ dc_Library___init__ pm_Library___init__ cd_Library___init__ ct_Library___init__ kV_Library___init__ oc_Library_read dc_Library_read pm_Library_read cd_Library_read ct_Library_read kV_Library_read oc__law_take dc__law_take pm__law_take cd__law_take ct__law_take kV__law_take oc__law_bag dc__law_bag pm__law_bag cd__law_bag ct__law_bag kV__law_bag oc__law_of dc__law_of pm__law_of cd__law_of ct__law_of kV__law_of oc_Library___contains__ dc_Library___contains__ pm_Library___contains__ cd_Library___contains__ ct_Library___contains__ kV_Library___contains__ oc__law_words dc__law_words pm__law_words cd__law_words ct__law_words kV__law_words oc__law_titles dc__law_titles pm__law_titles cd__law_titles ct__law_titles kV__law_titles oc__law_operation dc__law_operation pm__law_operation cd__law_operation ct__law_operation kV__law_operation oc__law_rows dc__law_rows pm__law_rows cd__law_rows ct__law_rows kV__law_rows oc__law_right dc__law_right pm__law_right cd__law_right ct__law_right kV__law_right oc_Library___str__ dc_Library___str__ pm_Library___str__ cd_Library___str__ ct_Library___str__ kV_Library___str__ oc_law dc_law pm_law cd_law ct_law kV_law : Value}
    {rs_Library_read : List Value}
    {it_NO_FIELDS it_BINARY_SIGNS it_UNARY_SIGNS it_ROOT_HOOKS it_M0 it_M1 it_M2 : Array Value}
    {t_LONGEST_NAME t_MOST_PARAMETERS t_MOST_KEPT t_MOST_OPERATIONS n_NO_FIELDS n_BINARY_SIGNS n_UNARY_SIGNS n_ROOT_HOOKS n_MK n_M0 n_M1 n_M2 : Nat}
    (a__is_within : PySem.W.nsIn K mainGlobals "_is_within" = some (some (.ref g__is_within)))
    (a_is_small_word : PySem.W.nsIn K mainGlobals "is_small_word" = some (some (.ref g_is_small_word)))
    (a_is_class_name : PySem.W.nsIn K mainGlobals "is_class_name" = some (some (.ref g_is_class_name)))
    (a_is_field_name : PySem.W.nsIn K mainGlobals "is_field_name" = some (some (.ref g_is_field_name)))
    (a_is_request : PySem.W.nsIn K mainGlobals "is_request" = some (some (.ref g_is_request)))
    (a_arity_of : PySem.W.nsIn K mainGlobals "arity_of" = some (some (.ref g_arity_of)))
    (a__is_first_row : PySem.W.nsIn K mainGlobals "_is_first_row" = some (some (.ref g__is_first_row)))
    (a__is_hook_row : PySem.W.nsIn K mainGlobals "_is_hook_row" = some (some (.ref g__is_hook_row)))
    (a__parameters_of : PySem.W.nsIn K mainGlobals "_parameters_of" = some (some (.ref g__parameters_of)))
    (a__kept_of : PySem.W.nsIn K mainGlobals "_kept_of" = some (some (.ref g__kept_of)))
    (a__is_selection : PySem.W.nsIn K mainGlobals "_is_selection" = some (some (.ref g__is_selection)))
    (a__request_of : PySem.W.nsIn K mainGlobals "_request_of" = some (some (.ref g__request_of)))
    (a__operation_of : PySem.W.nsIn K mainGlobals "_operation_of" = some (some (.ref g__operation_of)))
    (a_BadLibrary : PySem.W.nsIn K mainGlobals "BadLibrary" = some (some (.ref C_BadLibrary)))
    (a__operations_of : PySem.W.nsIn K mainGlobals "_operations_of" = some (some (.ref g__operations_of)))
    (a__root_lines : PySem.W.nsIn K mainGlobals "_root_lines" = some (some (.ref g__root_lines)))
    (a__operation_line : PySem.W.nsIn K mainGlobals "_operation_line" = some (some (.ref g__operation_line)))
    (a_Library : PySem.W.nsIn K mainGlobals "Library" = some (some (.ref C_Library)))
    (a__law_take : PySem.W.nsIn K mainGlobals "_law_take" = some (some (.ref g__law_take)))
    (a__law_bag : PySem.W.nsIn K mainGlobals "_law_bag" = some (some (.ref g__law_bag)))
    (a__law_of : PySem.W.nsIn K mainGlobals "_law_of" = some (some (.ref g__law_of)))
    (a__law_words : PySem.W.nsIn K mainGlobals "_law_words" = some (some (.ref g__law_words)))
    (a__law_titles : PySem.W.nsIn K mainGlobals "_law_titles" = some (some (.ref g__law_titles)))
    (a__law_operation : PySem.W.nsIn K mainGlobals "_law_operation" = some (some (.ref g__law_operation)))
    (a__law_rows : PySem.W.nsIn K mainGlobals "_law_rows" = some (some (.ref g__law_rows)))
    (a__law_right : PySem.W.nsIn K mainGlobals "_law_right" = some (some (.ref g__law_right)))
    (a_law : PySem.W.nsIn K mainGlobals "law" = some (some (.ref g_law)))
    (v_LONGEST_NAME : PySem.W.nsIn K mainGlobals "LONGEST_NAME" = some (some (.int 8 t_LONGEST_NAME)))
    (v_MOST_PARAMETERS : PySem.W.nsIn K mainGlobals "MOST_PARAMETERS" = some (some (.int 3 t_MOST_PARAMETERS)))
    (v_MOST_KEPT : PySem.W.nsIn K mainGlobals "MOST_KEPT" = some (some (.int 2 t_MOST_KEPT)))
    (v_MOST_OPERATIONS : PySem.W.nsIn K mainGlobals "MOST_OPERATIONS" = some (some (.int 6 t_MOST_OPERATIONS)))
    (v_NO_FIELDS : PySem.W.nsIn K mainGlobals "NO_FIELDS" = some (some (.ref v_NO_FIELDSA)))
    (v_BINARY_SIGNS : PySem.W.nsIn K mainGlobals "BINARY_SIGNS" = some (some (.ref v_BINARY_SIGNSA)))
    (v_UNARY_SIGNS : PySem.W.nsIn K mainGlobals "UNARY_SIGNS" = some (some (.ref v_UNARY_SIGNSA)))
    (v_ROOT_HOOKS : PySem.W.nsIn K mainGlobals "ROOT_HOOKS" = some (some (.ref v_ROOT_HOOKSA)))
    (v_MAKERS : PySem.W.nsIn K mainGlobals "MAKERS" = some (some (.ref vM3)))
    (z_isinstance : PySem.W.nsIn K mainGlobals "isinstance" = some none)
    (z_list : PySem.W.nsIn K mainGlobals "list" = some none)
    (z_tuple : PySem.W.nsIn K mainGlobals "tuple" = some none)
    (z_int : PySem.W.nsIn K mainGlobals "int" = some none)
    (z_str : PySem.W.nsIn K mainGlobals "str" = some none)
    (z_bool : PySem.W.nsIn K mainGlobals "bool" = some none)
    (z_len : PySem.W.nsIn K mainGlobals "len" = some none)
    (z_abs : PySem.W.nsIn K mainGlobals "abs" = some none)
    (z_max : PySem.W.nsIn K mainGlobals "max" = some none)
    (z_min : PySem.W.nsIn K mainGlobals "min" = some none)
    (z_range : PySem.W.nsIn K mainGlobals "range" = some none)
    (z_enumerate : PySem.W.nsIn K mainGlobals "enumerate" = some none)
    (z_all : PySem.W.nsIn K mainGlobals "all" = some none)
    (z_ValueError : PySem.W.nsIn K mainGlobals "ValueError" = some none)
    (z_LookupError : PySem.W.nsIn K mainGlobals "LookupError" = some none)
    (z_KeyError : PySem.W.nsIn K mainGlobals "KeyError" = some none)
    (z_IndexError : PySem.W.nsIn K mainGlobals "IndexError" = some none)
    (sa_BadLibrary : PySem.W.findIn K (.ref C_BadLibrary) "__setattr__" = some (some (.builtin "object.__setattr__")))
    (hg_BadLibrary : PySem.W.findIn K (.ref C_BadLibrary) "__getattribute__" = some (some (.builtin "BaseException.__getattribute__")))
    (hk_BadLibrary : PySem.W.findIn K (.ref C_BadLibrary) "__getattr__" = some none)
    (ha_BadLibrary : PySem.W.findIn K (.ref C_BadLibrary) "__class__" = some (some (.builtin "object.__class__")))
    (na_BadLibrary_at : PySem.W.findIn K (.ref C_BadLibrary) "at" = some none)
    (i_BadLibrary___init__ : PySem.W.findIn K (.ref C_BadLibrary) "__init__" = some (some (.ref g_BadLibrary___init__)))
    (sa_Library : PySem.W.findIn K (.ref C_Library) "__setattr__" = some (some (.builtin "object.__setattr__")))
    (nA_Library_0 : PySem.W.findIn K (.ref C_Library) "name" = some none)
    (nA_Library_1 : PySem.W.findIn K (.ref C_Library) "root_parameters" = some none)
    (nA_Library_2 : PySem.W.findIn K (.ref C_Library) "kept" = some none)
    (nA_Library_3 : PySem.W.findIn K (.ref C_Library) "root_hook" = some none)
    (nA_Library_4 : PySem.W.findIn K (.ref C_Library) "_operations" = some none)
    (nA_Library_5 : PySem.W.findIn K (.ref C_Library) "_signs" = some none)
    (nA_Library_6 : PySem.W.findIn K (.ref C_Library) "_changed" = some none)
    (nA_Library_7 : PySem.W.findIn K (.ref C_Library) "_maker" = some none)
    (nA_Library_8 : PySem.W.findIn K (.ref C_Library) "_text" = some none)
    (i_Library___init__ : PySem.W.findIn K (.ref C_Library) "__init__" = some (some (.ref g_Library___init__)))
    (fc_Library_read : PySem.W.findCls K (.ref C_Library) (.type "type") "read" = some (.get (.builtin "classmethod.__get__") (.ref p_Library_read) .none (.ref C_Library)))
    (m_Library___contains__ : PySem.W.findIn K (.ref C_Library) "__contains__" = some (some (.ref g_Library___contains__)))
    (m_Library___str__ : PySem.W.findIn K (.ref C_Library) "__str__" = some (some (.ref g_Library___str__)))
    (rc_Library_read : PySem.W.recIn K p_Library_read "classmethod" = some (.ref g_Library_read :: rs_Library_read))
    (l__is_within : K.lookup g__is_within = some ⟨oc__is_within, od__is_within, .func (PySem.W.fnOf "_is_within" "_is_within" (defArgs s_is_within) (defBody s_is_within) (defScope s_is_within) .none kV__is_within dc__is_within pm__is_within an__is_within cd__is_within ct__is_within), sl__is_within⟩)
    (l_is_small_word : K.lookup g_is_small_word = some ⟨oc_is_small_word, od_is_small_word, .func (PySem.W.fnOf "is_small_word" "is_small_word" (defArgs s_is_small_word) (defBody s_is_small_word) (defScope s_is_small_word) .none kV_is_small_word dc_is_small_word pm_is_small_word an_is_small_word cd_is_small_word ct_is_small_word), sl_is_small_word⟩)
    (l_is_class_name : K.lookup g_is_class_name = some ⟨oc_is_class_name, od_is_class_name, .func (PySem.W.fnOf "is_class_name" "is_class_name" (defArgs s_is_class_name) (defBody s_is_class_name) (defScope s_is_class_name) .none kV_is_class_name dc_is_class_name pm_is_class_name an_is_class_name cd_is_class_name ct_is_class_name), sl_is_class_name⟩)
    (l_is_field_name : K.lookup g_is_field_name = some ⟨oc_is_field_name, od_is_field_name, .func (PySem.W.fnOf "is_field_name" "is_field_name" (defArgs s_is_field_name) (defBody s_is_field_name) (defScope s_is_field_name) .none kV_is_field_name dc_is_field_name pm_is_field_name an_is_field_name cd_is_field_name ct_is_field_name), sl_is_field_name⟩)
    (l_is_request : K.lookup g_is_request = some ⟨oc_is_request, od_is_request, .func (PySem.W.fnOf "is_request" "is_request" (defArgs s_is_request) (defBody s_is_request) (defScope s_is_request) .none kV_is_request dc_is_request pm_is_request an_is_request cd_is_request ct_is_request), sl_is_request⟩)
    (l_arity_of : K.lookup g_arity_of = some ⟨oc_arity_of, od_arity_of, .func (PySem.W.fnOf "arity_of" "arity_of" (defArgs s_arity_of) (defBody s_arity_of) (defScope s_arity_of) .none kV_arity_of dc_arity_of pm_arity_of an_arity_of cd_arity_of ct_arity_of), sl_arity_of⟩)
    (l__is_first_row : K.lookup g__is_first_row = some ⟨oc__is_first_row, od__is_first_row, .func (PySem.W.fnOf "_is_first_row" "_is_first_row" (defArgs s_is_first_row) (defBody s_is_first_row) (defScope s_is_first_row) .none kV__is_first_row dc__is_first_row pm__is_first_row an__is_first_row cd__is_first_row ct__is_first_row), sl__is_first_row⟩)
    (l__is_hook_row : K.lookup g__is_hook_row = some ⟨oc__is_hook_row, od__is_hook_row, .func (PySem.W.fnOf "_is_hook_row" "_is_hook_row" (defArgs s_is_hook_row) (defBody s_is_hook_row) (defScope s_is_hook_row) .none kV__is_hook_row dc__is_hook_row pm__is_hook_row an__is_hook_row cd__is_hook_row ct__is_hook_row), sl__is_hook_row⟩)
    (l__parameters_of : K.lookup g__parameters_of = some ⟨oc__parameters_of, od__parameters_of, .func (PySem.W.fnOf "_parameters_of" "_parameters_of" (defArgs s_parameters_of) (defBody s_parameters_of) (defScope s_parameters_of) .none kV__parameters_of dc__parameters_of pm__parameters_of an__parameters_of cd__parameters_of ct__parameters_of), sl__parameters_of⟩)
    (l__kept_of : K.lookup g__kept_of = some ⟨oc__kept_of, od__kept_of, .func (PySem.W.fnOf "_kept_of" "_kept_of" (defArgs s_kept_of) (defBody s_kept_of) (defScope s_kept_of) .none kV__kept_of dc__kept_of pm__kept_of an__kept_of cd__kept_of ct__kept_of), sl__kept_of⟩)
    (l__is_selection : K.lookup g__is_selection = some ⟨oc__is_selection, od__is_selection, .func (PySem.W.fnOf "_is_selection" "_is_selection" (defArgs s_is_selection) (defBody s_is_selection) (defScope s_is_selection) .none kV__is_selection dc__is_selection pm__is_selection an__is_selection cd__is_selection ct__is_selection), sl__is_selection⟩)
    (l__request_of : K.lookup g__request_of = some ⟨oc__request_of, od__request_of, .func (PySem.W.fnOf "_request_of" "_request_of" (defArgs s_request_of) (defBody s_request_of) (defScope s_request_of) .none kV__request_of dc__request_of pm__request_of an__request_of cd__request_of ct__request_of), sl__request_of⟩)
    (l__operation_of : K.lookup g__operation_of = some ⟨oc__operation_of, od__operation_of, .func (PySem.W.fnOf "_operation_of" "_operation_of" (defArgs s_operation_of) (defBody s_operation_of) (defScope s_operation_of) .none kV__operation_of dc__operation_of pm__operation_of an__operation_of cd__operation_of ct__operation_of), sl__operation_of⟩)
    (l_BadLibrary___init__ : K.lookup g_BadLibrary___init__ = some ⟨oc_BadLibrary___init__, od_BadLibrary___init__, .func (PySem.W.fnOf "__init__" "BadLibrary.__init__" (defArgs s_BadLibrary___init__) (defBody s_BadLibrary___init__) (defScope s_BadLibrary___init__) .none kV_BadLibrary___init__ dc_BadLibrary___init__ pm_BadLibrary___init__ an_BadLibrary___init__ cd_BadLibrary___init__ ct_BadLibrary___init__), sl_BadLibrary___init__⟩)
    (l__operations_of : K.lookup g__operations_of = some ⟨oc__operations_of, od__operations_of, .func (PySem.W.fnOf "_operations_of" "_operations_of" (defArgs s_operations_of) (defBody s_operations_of) (defScope s_operations_of) .none kV__operations_of dc__operations_of pm__operations_of an__operations_of cd__operations_of ct__operations_of), sl__operations_of⟩)
    (l__root_lines : K.lookup g__root_lines = some ⟨oc__root_lines, od__root_lines, .func (PySem.W.fnOf "_root_lines" "_root_lines" (defArgs s_root_lines) (defBody s_root_lines) (defScope s_root_lines) .none kV__root_lines dc__root_lines pm__root_lines an__root_lines cd__root_lines ct__root_lines), sl__root_lines⟩)
    (l__operation_line : K.lookup g__operation_line = some ⟨oc__operation_line, od__operation_line, .func (PySem.W.fnOf "_operation_line" "_operation_line" (defArgs s_operation_line) (defBody s_operation_line) (defScope s_operation_line) .none kV__operation_line dc__operation_line pm__operation_line an__operation_line cd__operation_line ct__operation_line), sl__operation_line⟩)
    (l_Library___init__ : K.lookup g_Library___init__ = some ⟨oc_Library___init__, od_Library___init__, .func (PySem.W.fnOf "__init__" "Library.__init__" (defArgs s_Library___init__) (defBody s_Library___init__) (defScope s_Library___init__) .none kV_Library___init__ dc_Library___init__ pm_Library___init__ an_Library___init__ cd_Library___init__ ct_Library___init__), sl_Library___init__⟩)
    (l_Library_read : K.lookup g_Library_read = some ⟨oc_Library_read, od_Library_read, .func (PySem.W.fnOf "read" "Library.read" (defArgs s_Library_read) (defBody s_Library_read) (defScope s_Library_read) .none kV_Library_read dc_Library_read pm_Library_read an_Library_read cd_Library_read ct_Library_read), sl_Library_read⟩)
    (l__law_take : K.lookup g__law_take = some ⟨oc__law_take, od__law_take, .func (PySem.W.fnOf "_law_take" "_law_take" (defArgs s_law_take) (defBody s_law_take) (defScope s_law_take) .none kV__law_take dc__law_take pm__law_take an__law_take cd__law_take ct__law_take), sl__law_take⟩)
    (l__law_bag : K.lookup g__law_bag = some ⟨oc__law_bag, od__law_bag, .func (PySem.W.fnOf "_law_bag" "_law_bag" (defArgs s_law_bag) (defBody s_law_bag) (defScope s_law_bag) .none kV__law_bag dc__law_bag pm__law_bag an__law_bag cd__law_bag ct__law_bag), sl__law_bag⟩)
    (l__law_of : K.lookup g__law_of = some ⟨oc__law_of, od__law_of, .func (PySem.W.fnOf "_law_of" "_law_of" (defArgs s_law_of) (defBody s_law_of) (defScope s_law_of) .none kV__law_of dc__law_of pm__law_of an__law_of cd__law_of ct__law_of), sl__law_of⟩)
    (l_Library___contains__ : K.lookup g_Library___contains__ = some ⟨oc_Library___contains__, od_Library___contains__, .func (PySem.W.fnOf "__contains__" "Library.__contains__" (defArgs s_Library___contains__) (defBody s_Library___contains__) (defScope s_Library___contains__) .none kV_Library___contains__ dc_Library___contains__ pm_Library___contains__ an_Library___contains__ cd_Library___contains__ ct_Library___contains__), sl_Library___contains__⟩)
    (l__law_words : K.lookup g__law_words = some ⟨oc__law_words, od__law_words, .func (PySem.W.fnOf "_law_words" "_law_words" (defArgs s_law_words) (defBody s_law_words) (defScope s_law_words) .none kV__law_words dc__law_words pm__law_words an__law_words cd__law_words ct__law_words), sl__law_words⟩)
    (l__law_titles : K.lookup g__law_titles = some ⟨oc__law_titles, od__law_titles, .func (PySem.W.fnOf "_law_titles" "_law_titles" (defArgs s_law_titles) (defBody s_law_titles) (defScope s_law_titles) .none kV__law_titles dc__law_titles pm__law_titles an__law_titles cd__law_titles ct__law_titles), sl__law_titles⟩)
    (l__law_operation : K.lookup g__law_operation = some ⟨oc__law_operation, od__law_operation, .func (PySem.W.fnOf "_law_operation" "_law_operation" (defArgs s_law_operation) (defBody s_law_operation) (defScope s_law_operation) .none kV__law_operation dc__law_operation pm__law_operation an__law_operation cd__law_operation ct__law_operation), sl__law_operation⟩)
    (l__law_rows : K.lookup g__law_rows = some ⟨oc__law_rows, od__law_rows, .func (PySem.W.fnOf "_law_rows" "_law_rows" (defArgs s_law_rows) (defBody s_law_rows) (defScope s_law_rows) .none kV__law_rows dc__law_rows pm__law_rows an__law_rows cd__law_rows ct__law_rows), sl__law_rows⟩)
    (l__law_right : K.lookup g__law_right = some ⟨oc__law_right, od__law_right, .func (PySem.W.fnOf "_law_right" "_law_right" (defArgs s_law_right) (defBody s_law_right) (defScope s_law_right) .none kV__law_right dc__law_right pm__law_right an__law_right cd__law_right ct__law_right), sl__law_right⟩)
    (l_Library___str__ : K.lookup g_Library___str__ = some ⟨oc_Library___str__, od_Library___str__, .func (PySem.W.fnOf "__str__" "Library.__str__" (defArgs s_Library___str__) (defBody s_Library___str__) (defScope s_Library___str__) .none kV_Library___str__ dc_Library___str__ pm_Library___str__ an_Library___str__ cd_Library___str__ ct_Library___str__), sl_Library___str__⟩)
    (l_law : K.lookup g_law = some ⟨oc_law, od_law, .func (PySem.W.fnOf "law" "law" (defArgs s_law) (defBody s_law) (defScope s_law) .none kV_law dc_law pm_law an_law cd_law ct_law), sl_law⟩)
    (l_NO_FIELDS : K.lookup v_NO_FIELDSA = some ⟨.type "tuple", od_NO_FIELDS, .seq it_NO_FIELDS n_NO_FIELDS, sl_NO_FIELDS⟩)
    (l_BINARY_SIGNS : K.lookup v_BINARY_SIGNSA = some ⟨.type "tuple", od_BINARY_SIGNS, .seq it_BINARY_SIGNS n_BINARY_SIGNS, sl_BINARY_SIGNS⟩)
    (l_UNARY_SIGNS : K.lookup v_UNARY_SIGNSA = some ⟨.type "tuple", od_UNARY_SIGNS, .seq it_UNARY_SIGNS n_UNARY_SIGNS, sl_UNARY_SIGNS⟩)
    (l_ROOT_HOOKS : K.lookup v_ROOT_HOOKSA = some ⟨.type "tuple", od_ROOT_HOOKS, .seq it_ROOT_HOOKS n_ROOT_HOOKS, sl_ROOT_HOOKS⟩)
    (l_MK : K.lookup vM3 = some ⟨.type "tuple", od_MK, .seq #[.ref vM0, .ref vM1, .ref vM2] n_MK, sl_MK⟩)
    (l_M0 : K.lookup vM0 = some ⟨.type "tuple", od_M0, .seq it_M0 n_M0, sl_M0⟩)
    (l_M1 : K.lookup vM1 = some ⟨.type "tuple", od_M1, .seq it_M1 n_M1, sl_M1⟩)
    (l_M2 : K.lookup vM2 = some ⟨.type "tuple", od_M2, .seq it_M2 n_M2, sl_M2⟩)
    (c__is_within : PySem.W.codeIn K cd__is_within "_is_within" = true)
    (k__is_within : PySem.W.keepIn K (.ref g__is_within) = true)
    (c_is_small_word : PySem.W.codeIn K cd_is_small_word "is_small_word" = true)
    (k_is_small_word : PySem.W.keepIn K (.ref g_is_small_word) = true)
    (c_is_class_name : PySem.W.codeIn K cd_is_class_name "is_class_name" = true)
    (k_is_class_name : PySem.W.keepIn K (.ref g_is_class_name) = true)
    (c_is_field_name : PySem.W.codeIn K cd_is_field_name "is_field_name" = true)
    (k_is_field_name : PySem.W.keepIn K (.ref g_is_field_name) = true)
    (c_is_request : PySem.W.codeIn K cd_is_request "is_request" = true)
    (k_is_request : PySem.W.keepIn K (.ref g_is_request) = true)
    (c_arity_of : PySem.W.codeIn K cd_arity_of "arity_of" = true)
    (k_arity_of : PySem.W.keepIn K (.ref g_arity_of) = true)
    (c__is_first_row : PySem.W.codeIn K cd__is_first_row "_is_first_row" = true)
    (k__is_first_row : PySem.W.keepIn K (.ref g__is_first_row) = true)
    (c__is_hook_row : PySem.W.codeIn K cd__is_hook_row "_is_hook_row" = true)
    (k__is_hook_row : PySem.W.keepIn K (.ref g__is_hook_row) = true)
    (c__parameters_of : PySem.W.codeIn K cd__parameters_of "_parameters_of" = true)
    (k__parameters_of : PySem.W.keepIn K (.ref g__parameters_of) = true)
    (c__kept_of : PySem.W.codeIn K cd__kept_of "_kept_of" = true)
    (k__kept_of : PySem.W.keepIn K (.ref g__kept_of) = true)
    (c__is_selection : PySem.W.codeIn K cd__is_selection "_is_selection" = true)
    (k__is_selection : PySem.W.keepIn K (.ref g__is_selection) = true)
    (c__request_of : PySem.W.codeIn K cd__request_of "_request_of" = true)
    (k__request_of : PySem.W.keepIn K (.ref g__request_of) = true)
    (c__operation_of : PySem.W.codeIn K cd__operation_of "_operation_of" = true)
    (k__operation_of : PySem.W.keepIn K (.ref g__operation_of) = true)
    (q1_BadLibrary : PySem.W.excInitIn K C_BadLibrary veT "ValueError.__new__" = true)
    (q2_BadLibrary : PySem.W.excOver K C_BadLibrary veT = true)
    (sb_BadLibrary : PySem.W.subIn K (.ref C_BadLibrary) (.type "BaseException") = some true)
    (so_BadLibrary : PySem.W.mroIn K C_BadLibrary (.type "object") = some true)
    (ss_BadLibrary : PySem.W.subIn K (.ref C_BadLibrary) (.ref C_BadLibrary) = some true)
    (hd_BadLibrary : PySem.W.hasDictIn K C_BadLibrary = true)
    (kC_BadLibrary : PySem.W.keepIn K (.ref C_BadLibrary) = true)
    (ty_BadLibrary : PySem.W.typeIn K (.ref C_BadLibrary) = some (.type "type"))
    (hn : PySem.W.specialIn K (.builtin "object.__class__") "__get__" = some (some (.builtin "getset_descriptor.__get__")))
    (ht : PySem.W.takesIn K (.builtin "object.__class__") = some true)
    (c_BadLibrary___init__ : PySem.W.codeIn K cd_BadLibrary___init__ "BadLibrary.__init__" = true)
    (k_BadLibrary___init__ : PySem.W.keepIn K (.ref g_BadLibrary___init__) = true)
    (f_BadLibrary___init__ : PySem.W.isFn K (.ref g_BadLibrary___init__) = true)
    (c__operations_of : PySem.W.codeIn K cd__operations_of "_operations_of" = true)
    (k__operations_of : PySem.W.keepIn K (.ref g__operations_of) = true)
    (c__root_lines : PySem.W.codeIn K cd__root_lines "_root_lines" = true)
    (k__root_lines : PySem.W.keepIn K (.ref g__root_lines) = true)
    (c__operation_line : PySem.W.codeIn K cd__operation_line "_operation_line" = true)
    (k__operation_line : PySem.W.keepIn K (.ref g__operation_line) = true)
    (pg_Library : PySem.W.plainGet K C_Library Str.empty = true)
    (hd_Library : PySem.W.hasDictIn K C_Library = true)
    (po_Library : PySem.W.plainOver K C_Library = true)
    (kC_Library : PySem.W.keepIn K (.ref C_Library) = true)
    (mk_Library : PySem.W.makesIn K C_Library = true)
    (rd_Library : PySem.W.readsIn K C_Library (.type "type") = true)
    (ga_Library : PySem.W.specialIn K (.ref C_Library) "__getattribute__" = some (some (.builtin "type.__getattribute__")))
    (ic_Library : PySem.W.isClsIn K C_Library = true)
    (c_Library___init__ : PySem.W.codeIn K cd_Library___init__ "Library.__init__" = true)
    (k_Library___init__ : PySem.W.keepIn K (.ref g_Library___init__) = true)
    (f_Library___init__ : PySem.W.isFn K (.ref g_Library___init__) = true)
    (c_Library_read : PySem.W.codeIn K cd_Library_read "Library.read" = true)
    (k_Library_read : PySem.W.keepIn K (.ref g_Library_read) = true)
    (fn_Library_read : PySem.W.fnIn K g_Library_read = true)
    (c__law_take : PySem.W.codeIn K cd__law_take "_law_take" = true)
    (k__law_take : PySem.W.keepIn K (.ref g__law_take) = true)
    (c__law_bag : PySem.W.codeIn K cd__law_bag "_law_bag" = true)
    (k__law_bag : PySem.W.keepIn K (.ref g__law_bag) = true)
    (c__law_of : PySem.W.codeIn K cd__law_of "_law_of" = true)
    (k__law_of : PySem.W.keepIn K (.ref g__law_of) = true)
    (c_Library___contains__ : PySem.W.codeIn K cd_Library___contains__ "Library.__contains__" = true)
    (k_Library___contains__ : PySem.W.keepIn K (.ref g_Library___contains__) = true)
    (f_Library___contains__ : PySem.W.isFn K (.ref g_Library___contains__) = true)
    (c__law_words : PySem.W.codeIn K cd__law_words "_law_words" = true)
    (k__law_words : PySem.W.keepIn K (.ref g__law_words) = true)
    (c__law_titles : PySem.W.codeIn K cd__law_titles "_law_titles" = true)
    (k__law_titles : PySem.W.keepIn K (.ref g__law_titles) = true)
    (c__law_operation : PySem.W.codeIn K cd__law_operation "_law_operation" = true)
    (k__law_operation : PySem.W.keepIn K (.ref g__law_operation) = true)
    (c__law_rows : PySem.W.codeIn K cd__law_rows "_law_rows" = true)
    (k__law_rows : PySem.W.keepIn K (.ref g__law_rows) = true)
    (c__law_right : PySem.W.codeIn K cd__law_right "_law_right" = true)
    (k__law_right : PySem.W.keepIn K (.ref g__law_right) = true)
    (c_Library___str__ : PySem.W.codeIn K cd_Library___str__ "Library.__str__" = true)
    (k_Library___str__ : PySem.W.keepIn K (.ref g_Library___str__) = true)
    (f_Library___str__ : PySem.W.isFn K (.ref g_Library___str__) = true)
    (c_law : PySem.W.codeIn K cd_law "law" = true)
    (k_law : PySem.W.keepIn K (.ref g_law) = true)
    (o_NO_FIELDS : strsIn it_NO_FIELDS.toList noFields = true)
    (o_BINARY_SIGNS : strsIn it_BINARY_SIGNS.toList binary = true)
    (o_UNARY_SIGNS : strsIn it_UNARY_SIGNS.toList unary = true)
    (o_ROOT_HOOKS : strsIn it_ROOT_HOOKS.toList rootHooks = true)
    (o_M0 : strsIn it_M0.toList makers0 = true)
    (o_M1 : strsIn it_M1.toList makers1 = true)
    (o_M2 : strsIn it_M2.toList makers2 = true)
    : ∃ fd : FuncData, (∀ (s : Shared) (v : Value), BindsTo s fd ⟨[v], []⟩ [("script", v)]) ∧ ∀ base : Heap, K.In base → base.Ns mainGlobals mg → FnOk l.prog w K mg base CX0 8 fa fd ["script"] (spLaw K) := by
  have e := hfa.symm.trans (PySem.W.mg_of X G a_law)
  cases e
  have T : Cst K mg := ⟨⟨PySem.W.mg_none_of X G z_isinstance, PySem.W.mg_none_of X G z_list, PySem.W.mg_none_of X G z_tuple, PySem.W.mg_none_of X G z_int, PySem.W.mg_none_of X G z_str, PySem.W.mg_none_of X G z_bool, PySem.W.mg_none_of X G z_len, PySem.W.mg_none_of X G z_abs, PySem.W.mg_none_of X G z_max, PySem.W.mg_none_of X G z_min, PySem.W.mg_none_of X G z_range, PySem.W.mg_none_of X G z_enumerate, PySem.W.mg_none_of X G z_all, PySem.W.mg_none_of X G z_ValueError, PySem.W.mg_none_of X G z_LookupError, PySem.W.mg_none_of X G z_KeyError, PySem.W.mg_none_of X G z_IndexError⟩, ⟨_, PySem.W.mg_of X G v_LONGEST_NAME, ⟨_, rfl⟩⟩, ⟨_, PySem.W.mg_of X G v_MOST_PARAMETERS, ⟨_, rfl⟩⟩, ⟨_, PySem.W.mg_of X G v_MOST_KEPT, ⟨_, rfl⟩⟩, ⟨_, PySem.W.mg_of X G v_MOST_OPERATIONS, ⟨_, rfl⟩⟩, ⟨_, PySem.W.mg_of X G v_NO_FIELDS, (tupk_of l_NO_FIELDS o_NO_FIELDS (by decide +kernel))⟩, ⟨_, PySem.W.mg_of X G v_BINARY_SIGNS, (tupk_of l_BINARY_SIGNS o_BINARY_SIGNS (by decide +kernel))⟩, ⟨_, PySem.W.mg_of X G v_UNARY_SIGNS, (tupk_of l_UNARY_SIGNS o_UNARY_SIGNS (by decide +kernel))⟩, ⟨_, PySem.W.mg_of X G v_ROOT_HOOKS, (tupk_of l_ROOT_HOOKS o_ROOT_HOOKS (by decide +kernel))⟩, ⟨_, vM0, vM1, vM2, PySem.W.mg_of X G v_MAKERS, ⟨_, _, _, l_MK, rfl, rfl, by show 3 ≤ sizeLine; decide, .cons rfl (.cons rfl (.cons rfl .nil))⟩, (tupk_of l_M0 o_M0 (by decide +kernel)), (tupk_of l_M1 o_M1 (by decide +kernel)), (tupk_of l_M2 o_M2 (by decide +kernel))⟩⟩
  refine ⟨PySem.W.fnOf "law" "law" (defArgs s_law) (defBody s_law) (defScope s_law) .none kV_law dc_law pm_law an_law cd_law ct_law, fun s v => .of_eq rfl, fun base _ _ => ?_⟩
  have U__is_within := fun_mk (st := s_is_within) l__is_within c__is_within k__is_within
  have Z1 : Ok l.prog w K mg base 1 "_is_within" ["word", "low", "high"] spWithin := ⟨_, _, (ok_is_within U__is_within T), PySem.W.mg_of X G a__is_within, k__is_within, U__is_within.binds (ps := ["word", "low", "high"]) (fun _ _ _ _ _ _ us hl => match us, hl with | [_, _, _], _ => rfl)⟩
  have U_is_small_word := fun_mk (st := s_is_small_word) l_is_small_word c_is_small_word k_is_small_word
  have Z2 : Ok l.prog w K mg base 2 "is_small_word" ["word"] (spW1 small) := ⟨_, _, (ok_is_small_word U_is_small_word T Z1), PySem.W.mg_of X G a_is_small_word, k_is_small_word, U_is_small_word.binds (ps := ["word"]) (fun _ _ _ _ _ _ us hl => match us, hl with | [_], _ => rfl)⟩
  have U_is_class_name := fun_mk (st := s_is_class_name) l_is_class_name c_is_class_name k_is_class_name
  have Z3 : Ok l.prog w K mg base 2 "is_class_name" ["word"] (spW1 className) := ⟨_, _, (ok_is_class_name U_is_class_name T Z1), PySem.W.mg_of X G a_is_class_name, k_is_class_name, U_is_class_name.binds (ps := ["word"]) (fun _ _ _ _ _ _ us hl => match us, hl with | [_], _ => rfl)⟩
  have U_is_field_name := fun_mk (st := s_is_field_name) l_is_field_name c_is_field_name k_is_field_name
  have Z4 : Ok l.prog w K mg base 3 "is_field_name" ["word"] (spW1 fieldName) := ⟨_, _, (ok_is_field_name U_is_field_name T Z2), PySem.W.mg_of X G a_is_field_name, k_is_field_name, U_is_field_name.binds (ps := ["word"]) (fun _ _ _ _ _ _ us hl => match us, hl with | [_], _ => rfl)⟩
  have U_is_request := fun_mk (st := s_is_request) l_is_request c_is_request k_is_request
  have Z5 : Ok l.prog w K mg base 3 "is_request" ["word"] (spW1 request) := ⟨_, _, (ok_is_request U_is_request T Z2), PySem.W.mg_of X G a_is_request, k_is_request, U_is_request.binds (ps := ["word"]) (fun _ _ _ _ _ _ us hl => match us, hl with | [_], _ => rfl)⟩
  have U_arity_of := fun_mk (st := s_arity_of) l_arity_of c_arity_of k_arity_of
  have Z6 : Ok l.prog w K mg base 1 "arity_of" ["sign"] spArity := ⟨_, _, (ok_arity_of U_arity_of T), PySem.W.mg_of X G a_arity_of, k_arity_of, U_arity_of.binds (ps := ["sign"]) (fun _ _ _ _ _ _ us hl => match us, hl with | [_], _ => rfl)⟩
  have U__is_first_row := fun_mk (st := s_is_first_row) l__is_first_row c__is_first_row k__is_first_row
  have Z7 : Ok l.prog w K mg base 3 "_is_first_row" ["row"] (spRowB firstRow) := ⟨_, _, (ok_is_first_row U__is_first_row T Z3), PySem.W.mg_of X G a__is_first_row, k__is_first_row, U__is_first_row.binds (ps := ["row"]) (fun _ _ _ _ _ _ us hl => match us, hl with | [_], _ => rfl)⟩
  have U__is_hook_row := fun_mk (st := s_is_hook_row) l__is_hook_row c__is_hook_row k__is_hook_row
  have Z8 : Ok l.prog w K mg base 1 "_is_hook_row" ["row"] (spRowB hookRow) := ⟨_, _, (ok_is_hook_row U__is_hook_row T), PySem.W.mg_of X G a__is_hook_row, k__is_hook_row, U__is_hook_row.binds (ps := ["row"]) (fun _ _ _ _ _ _ us hl => match us, hl with | [_], _ => rfl)⟩
  have U__parameters_of := fun_mk (st := s_parameters_of) l__parameters_of c__parameters_of k__parameters_of
  have Z9 : Ok l.prog w K mg base 4 "_parameters_of" ["rows"] spParams := ⟨_, _, (ok_parameters_of U__parameters_of T Z4), PySem.W.mg_of X G a__parameters_of, k__parameters_of, U__parameters_of.binds (ps := ["rows"]) (fun _ _ _ _ _ _ us hl => match us, hl with | [_], _ => rfl)⟩
  have U__kept_of := fun_mk (st := s_kept_of) l__kept_of c__kept_of k__kept_of
  have Z10 : Ok l.prog w K mg base 4 "_kept_of" ["rows", "parameters"] (spKept K) := ⟨_, _, (ok_kept_of U__kept_of T Z4), PySem.W.mg_of X G a__kept_of, k__kept_of, U__kept_of.binds (ps := ["rows", "parameters"]) (fun _ _ _ _ _ _ us hl => match us, hl with | [_, _], _ => rfl)⟩
  have U__is_selection := fun_mk (st := s_is_selection) l__is_selection c__is_selection k__is_selection
  have Z11 : Ok l.prog w K mg base 1 "_is_selection" ["words", "parameters"] (spSel K) := ⟨_, _, (ok_is_selection U__is_selection T), PySem.W.mg_of X G a__is_selection, k__is_selection, U__is_selection.binds (ps := ["words", "parameters"]) (fun _ _ _ _ _ _ us hl => match us, hl with | [_, _], _ => rfl)⟩
  have U__request_of := fun_mk (st := s_request_of) l__request_of c__request_of k__request_of
  have Z12 : Ok l.prog w K mg base 4 "_request_of" ["row", "parameters"] (spOp K requestM) := ⟨_, _, (ok_request_of U__request_of T Z5), PySem.W.mg_of X G a__request_of, k__request_of, U__request_of.binds (ps := ["row", "parameters"]) (fun _ _ _ _ _ _ us hl => match us, hl with | [_, _], _ => rfl)⟩
  have U__operation_of := fun_mk (st := s_operation_of) l__operation_of c__operation_of k__operation_of
  have Z13 : Ok l.prog w K mg base 5 "_operation_of" ["row", "parameters"] (spOp K opM) := ⟨_, _, (ok_operation_of U__operation_of T Z12 Z6 Z11), PySem.W.mg_of X G a__operation_of, k__operation_of, U__operation_of.binds (ps := ["row", "parameters"]) (fun _ _ _ _ _ _ us hl => match us, hl with | [_, _], _ => rfl)⟩
  have x_BadLibrary : XCls K C_BadLibrary := ⟨⟨_, _, _, _, PySem.F.excBase_ValueError, PySem.F.store_ValueError, q1_BadLibrary, q2_BadLibrary⟩, sa_BadLibrary, ⟨hg_BadLibrary, hk_BadLibrary, sb_BadLibrary, hd_BadLibrary, ha_BadLibrary, hn, ht, so_BadLibrary⟩, kC_BadLibrary⟩
  have cc_BadLibrary : CatchC K mg "BadLibrary" C_BadLibrary := ⟨PySem.W.mg_of X G a_BadLibrary, PySem.W.exm_ref sb_BadLibrary hd_BadLibrary ty_BadLibrary ss_BadLibrary⟩
  have U_BadLibrary___init__ := fun_mk (st := s_BadLibrary___init__) l_BadLibrary___init__ c_BadLibrary___init__ k_BadLibrary___init__
  have Z14 : OkC l.prog w K mg base 1 "BadLibrary" C_BadLibrary ["self", "at"] (spErr1 C_BadLibrary "at") := ⟨x_BadLibrary, PySem.W.mg_of X G a_BadLibrary, _, _, (ok_BadLibrary U_BadLibrary___init__ x_BadLibrary na_BadLibrary_at), i_BadLibrary___init__, f_BadLibrary___init__, U_BadLibrary___init__.binds (ps := ["self", "at"]) (fun _ _ _ _ _ _ us hl => match us, hl with | [_, _], _ => rfl)⟩
  have U__operations_of := fun_mk (st := s_operations_of) l__operations_of c__operations_of k__operations_of
  have Z15 : OkX l.prog w K mg base 6 "_operations_of" ["rows", "start", "parameters", "root_hook"] (spOps C_BadLibrary) := ⟨_, _, (ok_operations_of U__operations_of T Z13 Z14 ty_BadLibrary), PySem.W.mg_of X G a__operations_of, k__operations_of, U__operations_of.binds (ps := ["rows", "start", "parameters", "root_hook"]) (fun _ _ _ _ _ _ us hl => match us, hl with | [_, _, _, _], _ => rfl)⟩
  have U__root_lines := fun_mk (st := s_root_lines) l__root_lines c__root_lines k__root_lines
  have Z16 : Ok l.prog w K mg base 1 "_root_lines" ["name", "parameters", "kept", "hook"] (spRootLines K) := ⟨_, _, (ok_root_lines U__root_lines T), PySem.W.mg_of X G a__root_lines, k__root_lines, U__root_lines.binds (ps := ["name", "parameters", "kept", "hook"]) (fun _ _ _ _ _ _ us hl => match us, hl with | [_, _, _, _], _ => rfl)⟩
  have U__operation_line := fun_mk (st := s_operation_line) l__operation_line c__operation_line k__operation_line
  have Z17 : Ok l.prog w K mg base 2 "_operation_line" ["sign", "changed", "maker"] (spOpLine K) := ⟨_, _, (ok_operation_line U__operation_line T Z6), PySem.W.mg_of X G a__operation_line, k__operation_line, U__operation_line.binds (ps := ["sign", "changed", "maker"]) (fun _ _ _ _ _ _ us hl => match us, hl with | [_, _, _], _ => rfl)⟩
  have cl_Library : Cls K C_Library := ⟨pg_Library, hd_Library, po_Library, sa_Library⟩
  have hC : LibC K C_Library := ⟨cl_Library, fun f hf => by simp only [List.mem_cons, List.not_mem_nil, or_false] at hf; rcases hf with rfl | rfl | rfl | rfl | rfl | rfl | rfl | rfl | rfl; exact nA_Library_0; exact nA_Library_1; exact nA_Library_2; exact nA_Library_3; exact nA_Library_4; exact nA_Library_5; exact nA_Library_6; exact nA_Library_7; exact nA_Library_8⟩
  have U_Library___init__ := fun_mk (st := s_Library___init__) l_Library___init__ c_Library___init__ k_Library___init__
  have Z18 : OkI l.prog w K mg base 3 "Library" C_Library ["self", "name", "root_parameters", "kept", "root_hook", "operations"] (spInit K C_Library) := ⟨PySem.W.mg_of X G a_Library, _, _, (ok_init U_Library___init__ T hC Z16 Z17), ⟨mk_Library, i_Library___init__, f_Library___init__, kC_Library⟩, U_Library___init__.binds (ps := ["self", "name", "root_parameters", "kept", "root_hook", "operations"]) (fun _ _ _ _ _ _ us hl => match us, hl with | [_, _, _, _, _, _], _ => rfl)⟩
  have U_Library_read := fun_mk (st := s_Library_read) l_Library_read c_Library_read k_Library_read
  have Z19 : OkCM l.prog w K mg base 7 C_Library "read" ["cls", "text"] (spRead K C_Library C_BadLibrary) := ⟨p_Library_read, _, _, _, (ok_read U_Library_read T hC Z7 Z8 Z9 Z10 Z15 Z18 Z14 ty_BadLibrary), ⟨rd_Library, ga_Library⟩, ⟨fc_Library_read, ⟨rs_Library_read, rc_Library_read⟩, fn_Library_read⟩, U_Library_read.binds (ps := ["cls", "text"]) (fun _ _ _ _ _ _ us hl => match us, hl with | [_, _], _ => rfl)⟩
  have U__law_take := fun_mk (st := s_law_take) l__law_take c__law_take k__law_take
  have Z20 : Ok l.prog w K mg base 1 "_law_take" ["bag", "many"] spTake := ⟨_, _, (ok_law_take U__law_take T), PySem.W.mg_of X G a__law_take, k__law_take, U__law_take.binds (ps := ["bag", "many"]) (fun _ _ _ _ _ _ us hl => match us, hl with | [_, _], _ => rfl)⟩
  have U__law_bag := fun_mk (st := s_law_bag) l__law_bag c__law_bag k__law_bag
  have Z21 : Ok l.prog w K mg base 1 "_law_bag" ["script", "at", "salt"] (spBag K) := ⟨_, _, (ok_law_bag U__law_bag T), PySem.W.mg_of X G a__law_bag, k__law_bag, U__law_bag.binds (ps := ["script", "at", "salt"]) (fun _ _ _ _ _ _ us hl => match us, hl with | [_, _, _], _ => rfl)⟩
  have U__law_of := fun_mk (st := s_law_of) l__law_of c__law_of k__law_of
  have Z22 : Ok l.prog w K mg base 2 "_law_of" ["bag", "some"] spOf := ⟨_, _, (ok_law_of U__law_of T Z20), PySem.W.mg_of X G a__law_of, k__law_of, U__law_of.binds (ps := ["bag", "some"]) (fun _ _ _ _ _ _ us hl => match us, hl with | [_, _], _ => rfl)⟩
  have U_Library___contains__ := fun_mk (st := s_Library___contains__) l_Library___contains__ c_Library___contains__ k_Library___contains__
  have Z23 : OkM CX0 l.prog w K mg base 1 C_Library "__contains__" ["self", "x"] (spHas K C_Library) := ⟨_, _, (ok_contains U_Library___contains__ T hC), ⟨m_Library___contains__, f_Library___contains__, k_Library___contains__⟩, U_Library___contains__.binds (ps := ["self", "x"]) (fun _ _ _ _ _ _ us hl => match us, hl with | [_, _], _ => rfl)⟩
  have U__law_words := fun_mk (st := s_law_words) l__law_words c__law_words k__law_words
  have Z24 : Ok l.prog w K mg base 3 "_law_words" ["bag", "many"] spWords := ⟨_, _, (ok_law_words U__law_words T Z20 Z22), PySem.W.mg_of X G a__law_words, k__law_words, U__law_words.binds (ps := ["bag", "many"]) (fun _ _ _ _ _ _ us hl => match us, hl with | [_, _], _ => rfl)⟩
  have U__law_titles := fun_mk (st := s_law_titles) l__law_titles c__law_titles k__law_titles
  have Z25 : Ok l.prog w K mg base 3 "_law_titles" ["bag", "many"] spTitles := ⟨_, _, (ok_law_titles U__law_titles T Z20 Z22), PySem.W.mg_of X G a__law_titles, k__law_titles, U__law_titles.binds (ps := ["bag", "many"]) (fun _ _ _ _ _ _ us hl => match us, hl with | [_, _], _ => rfl)⟩
  have U__law_operation := fun_mk (st := s_law_operation) l__law_operation c__law_operation k__law_operation
  have Z26 : Ok l.prog w K mg base 3 "_law_operation" ["bag", "parts"] spOper := ⟨_, _, (ok_law_operation U__law_operation T Z20 Z22), PySem.W.mg_of X G a__law_operation, k__law_operation, U__law_operation.binds (ps := ["bag", "parts"]) (fun _ _ _ _ _ _ us hl => match us, hl with | [_, _], _ => rfl)⟩
  have U__law_rows := fun_mk (st := s_law_rows) l__law_rows c__law_rows k__law_rows
  have Z27 : Ok l.prog w K mg base 4 "_law_rows" ["bag"] spRows := ⟨_, _, (ok_law_rows U__law_rows T Z20 Z22 Z24 Z25 Z26), PySem.W.mg_of X G a__law_rows, k__law_rows, U__law_rows.binds (ps := ["bag"]) (fun _ _ _ _ _ _ us hl => match us, hl with | [_], _ => rfl)⟩
  have U__law_right := fun_mk (st := s_law_right) l__law_right c__law_right k__law_right
  have Z28 : Ok l.prog w K mg base 1 "_law_right" ["row", "above"] spRight := ⟨_, _, (ok_law_right U__law_right T), PySem.W.mg_of X G a__law_right, k__law_right, U__law_right.binds (ps := ["row", "above"]) (fun _ _ _ _ _ _ us hl => match us, hl with | [_, _], _ => rfl)⟩
  have U_Library___str__ := fun_mk (st := s_Library___str__) l_Library___str__ c_Library___str__ k_Library___str__
  have Z29 : OkM CX0 l.prog w K mg base 1 C_Library "__str__" ["self"] (spStr K C_Library) := ⟨_, _, (ok_str U_Library___str__ T hC), ⟨m_Library___str__, f_Library___str__, k_Library___str__⟩, U_Library___str__.binds (ps := ["self"]) (fun _ _ _ _ _ _ us hl => match us, hl with | [_], _ => rfl)⟩
  have U_law := fun_mk (st := s_law) l_law c_law k_law
  exact ok_law U_law T hC (PySem.W.mg_of X G a_Library) cc_BadLibrary x_BadLibrary na_BadLibrary_at Z21 Z27 Z28 Z19 Z29
theorem walk {l : PySem.W.OpenLaw} {q : Program} {loose : List Str} {XP : (Str → Option Value) → Heap → Prop} {YP : World → Heap → Prop} {d : DefRec} {K : Params → Fg} (hn : l.most = some 63) (hdf : d.params.defaults = [])
    (hY : ∀ (w : World) (h : Heap), YP w h → (K w.params).In h)
    (F : ∀ (w : World) (mg : Str → Option Value) (fa : Addr) (h : Heap), (K w.params).In h → h.Ns mainGlobals mg → mg d.name = some (.ref fa) →
      ∃ fd : FuncData, (∀ (s : Shared) (u : Value), BindsTo s fd ⟨[u], []⟩ [("script", u)]) ∧ ∀ base : Heap, (K w.params).In base → base.Ns mainGlobals mg → FnOk l.prog w (K w.params) mg base CX0 8 fa fd ["script"] (spLaw (K w.params))) :
    PySem.W.WalkO q loose XP YP l.row.toRowW d [] (fun f vs => PySem.call f vs) :=
  L2.walk_of (n := 63) (k := 8) (x := "script") (CX := fun _ => CX0) (sp := fun w => spLaw (K w.params)) hn (by decide) hdf ⟨rfl, by decide, by decide⟩ hY F
    (fun _ _ a ns hl _ hS => ⟨a, ns, rfl, hS, hl, fun _ => rfl⟩) fun _ _ _ _ _ z => z
end K03

open PySem PySem.W PyProof.Rows in
set_option maxRecDepth 100000 in
set_option maxHeartbeats 0 in
theorem PySem.Challenge.cw_heirsback_k03_whole_libraries_in_any_ord_holds : PySem.Challenge.rw_heirsback_k03_whole_libraries_in_any_ord.Holds := by
  w_on; o_law; k_head; (case hw => w_witness2)
  k_fill
  refine K03.walk (l := PySem.Challenge.rw_heirsback_k03_whole_libraries_in_any_ord) rfl rfl (fun w h Y => PySem.W.kIn_of Y) ?F
  case F =>
    intro w mg fa h KX G hmg
    refine' K03.all_mk KX G hmg ?a__is_within ?a_is_small_word ?a_is_class_name ?a_is_field_name ?a_is_request ?a_arity_of ?a__is_first_row ?a__is_hook_row ?a__parameters_of ?a__kept_of ?a__is_selection ?a__request_of ?a__operation_of ?a_BadLibrary ?a__operations_of ?a__root_lines ?a__operation_line ?a_Library ?a__law_take ?a__law_bag ?a__law_of ?a__law_words ?a__law_titles ?a__law_operation ?a__law_rows ?a__law_right ?a_law ?v_LONGEST_NAME ?v_MOST_PARAMETERS ?v_MOST_KEPT ?v_MOST_OPERATIONS ?v_NO_FIELDS ?v_BINARY_SIGNS ?v_UNARY_SIGNS ?v_ROOT_HOOKS ?v_MAKERS ?z_isinstance ?z_list ?z_tuple ?z_int ?z_str ?z_bool ?z_len ?z_abs ?z_max ?z_min ?z_range ?z_enumerate ?z_all ?z_ValueError ?z_LookupError ?z_KeyError ?z_IndexError ?sa_BadLibrary ?hg_BadLibrary ?hk_BadLibrary ?ha_BadLibrary ?na_BadLibrary_at ?i_BadLibrary___init__ ?sa_Library ?nA_Library_0 ?nA_Library_1 ?nA_Library_2 ?nA_Library_3 ?nA_Library_4 ?nA_Library_5 ?nA_Library_6 ?nA_Library_7 ?nA_Library_8 ?i_Library___init__ ?fc_Library_read ?m_Library___contains__ ?m_Library___str__ ?rc_Library_read ?l__is_within ?l_is_small_word ?l_is_class_name ?l_is_field_name ?l_is_request ?l_arity_of ?l__is_first_row ?l__is_hook_row ?l__parameters_of ?l__kept_of ?l__is_selection ?l__request_of ?l__operation_of ?l_BadLibrary___init__ ?l__operations_of ?l__root_lines ?l__operation_line ?l_Library___init__ ?l_Library_read ?l__law_take ?l__law_bag ?l__law_of ?l_Library___contains__ ?l__law_words ?l__law_titles ?l__law_operation ?l__law_rows ?l__law_right ?l_Library___str__ ?l_law ?l_NO_FIELDS ?l_BINARY_SIGNS ?l_UNARY_SIGNS ?l_ROOT_HOOKS ?l_MK ?l_M0 ?l_M1 ?l_M2 ?c__is_within ?k__is_within ?c_is_small_word ?k_is_small_word ?c_is_class_name ?k_is_class_name ?c_is_field_name ?k_is_field_name ?c_is_request ?k_is_request ?c_arity_of ?k_arity_of ?c__is_first_row ?k__is_first_row ?c__is_hook_row ?k__is_hook_row ?c__parameters_of ?k__parameters_of ?c__kept_of ?k__kept_of ?c__is_selection ?k__is_selection ?c__request_of ?k__request_of ?c__operation_of ?k__operation_of ?q1_BadLibrary ?q2_BadLibrary ?sb_BadLibrary ?so_BadLibrary ?ss_BadLibrary ?hd_BadLibrary ?kC_BadLibrary ?ty_BadLibrary ?hn ?ht ?c_BadLibrary___init__ ?k_BadLibrary___init__ ?f_BadLibrary___init__ ?c__operations_of ?k__operations_of ?c__root_lines ?k__root_lines ?c__operation_line ?k__operation_line ?pg_Library ?hd_Library ?po_Library ?kC_Library ?mk_Library ?rd_Library ?ga_Library ?ic_Library ?c_Library___init__ ?k_Library___init__ ?f_Library___init__ ?c_Library_read ?k_Library_read ?fn_Library_read ?c__law_take ?k__law_take ?c__law_bag ?k__law_bag ?c__law_of ?k__law_of ?c_Library___contains__ ?k_Library___contains__ ?f_Library___contains__ ?c__law_words ?k__law_words ?c__law_titles ?k__law_titles ?c__law_operation ?k__law_operation ?c__law_rows ?k__law_rows ?c__law_right ?k__law_right ?c_Library___str__ ?k_Library___str__ ?f_Library___str__ ?c_law ?k_law ?o_NO_FIELDS ?o_BINARY_SIGNS ?o_UNARY_SIGNS ?o_ROOT_HOOKS ?o_M0 ?o_M1 ?o_M2
    (case a__is_within => k_is)
    (case a_is_small_word => k_is)
    (case a_is_class_name => k_is)
    (case a_is_field_name => k_is)
    (case a_is_request => k_is)
    (case a_arity_of => k_is)
    (case a__is_first_row => k_is)
    (case a__is_hook_row => k_is)
    (case a__parameters_of => k_is)
    (case a__kept_of => k_is)
    (case a__is_selection => k_is)
    (case a__request_of => k_is)
    (case a__operation_of => k_is)
    (case a_BadLibrary => k_is)
    (case a__operations_of => k_is)
    (case a__root_lines => k_is)
    (case a__operation_line => k_is)
    (case a_Library => k_is)
    (case a__law_take => k_is)
    (case a__law_bag => k_is)
    (case a__law_of => k_is)
    (case a__law_words => k_is)
    (case a__law_titles => k_is)
    (case a__law_operation => k_is)
    (case a__law_rows => k_is)
    (case a__law_right => k_is)
    (case a_law => k_is)
    (case v_LONGEST_NAME => k_is)
    (case v_MOST_PARAMETERS => k_is)
    (case v_MOST_KEPT => k_is)
    (case v_MOST_OPERATIONS => k_is)
    (case v_NO_FIELDS => k_is)
    (case v_BINARY_SIGNS => k_is)
    (case v_UNARY_SIGNS => k_is)
    (case v_ROOT_HOOKS => k_is)
    (case v_MAKERS => k_is)
    (case z_isinstance => k_is)
    (case z_list => k_is)
    (case z_tuple => k_is)
    (case z_int => k_is)
    (case z_str => k_is)
    (case z_bool => k_is)
    (case z_len => k_is)
    (case z_abs => k_is)
    (case z_max => k_is)
    (case z_min => k_is)
    (case z_range => k_is)
    (case z_enumerate => k_is)
    (case z_all => k_is)
    (case z_ValueError => k_is)
    (case z_LookupError => k_is)
    (case z_KeyError => k_is)
    (case z_IndexError => k_is)
    (case sa_BadLibrary => k_is)
    (case hg_BadLibrary => k_is)
    (case hk_BadLibrary => k_is)
    (case ha_BadLibrary => k_is)
    (case na_BadLibrary_at => k_is)
    (case i_BadLibrary___init__ => k_is)
    (case sa_Library => k_is)
    (case nA_Library_0 => k_is)
    (case nA_Library_1 => k_is)
    (case nA_Library_2 => k_is)
    (case nA_Library_3 => k_is)
    (case nA_Library_4 => k_is)
    (case nA_Library_5 => k_is)
    (case nA_Library_6 => k_is)
    (case nA_Library_7 => k_is)
    (case nA_Library_8 => k_is)
    (case i_Library___init__ => k_is)
    (case fc_Library_read => k_is)
    (case m_Library___contains__ => k_is)
    (case m_Library___str__ => k_is)
    (case rc_Library_read => k_is)
    (case l__is_within => k_is)
    (case l_is_small_word => k_is)
    (case l_is_class_name => k_is)
    (case l_is_field_name => k_is)
    (case l_is_request => k_is)
    (case l_arity_of => k_is)
    (case l__is_first_row => k_is)
    (case l__is_hook_row => k_is)
    (case l__parameters_of => k_is)
    (case l__kept_of => k_is)
    (case l__is_selection => k_is)
    (case l__request_of => k_is)
    (case l__operation_of => k_is)
    (case l_BadLibrary___init__ => k_is)
    (case l__operations_of => k_is)
    (case l__root_lines => k_is)
    (case l__operation_line => k_is)
    (case l_Library___init__ => k_is)
    (case l_Library_read => k_is)
    (case l__law_take => k_is)
    (case l__law_bag => k_is)
    (case l__law_of => k_is)
    (case l_Library___contains__ => k_is)
    (case l__law_words => k_is)
    (case l__law_titles => k_is)
    (case l__law_operation => k_is)
    (case l__law_rows => k_is)
    (case l__law_right => k_is)
    (case l_Library___str__ => k_is)
    (case l_law => k_is)
    (case l_NO_FIELDS => k_is)
    (case l_BINARY_SIGNS => k_is)
    (case l_UNARY_SIGNS => k_is)
    (case l_ROOT_HOOKS => k_is)
    (case l_MK => k_is)
    (case l_M0 => k_is)
    (case l_M1 => k_is)
    (case l_M2 => k_is)
    (case c__is_within => k_is)
    (case k__is_within => k_is)
    (case c_is_small_word => k_is)
    (case k_is_small_word => k_is)
    (case c_is_class_name => k_is)
    (case k_is_class_name => k_is)
    (case c_is_field_name => k_is)
    (case k_is_field_name => k_is)
    (case c_is_request => k_is)
    (case k_is_request => k_is)
    (case c_arity_of => k_is)
    (case k_arity_of => k_is)
    (case c__is_first_row => k_is)
    (case k__is_first_row => k_is)
    (case c__is_hook_row => k_is)
    (case k__is_hook_row => k_is)
    (case c__parameters_of => k_is)
    (case k__parameters_of => k_is)
    (case c__kept_of => k_is)
    (case k__kept_of => k_is)
    (case c__is_selection => k_is)
    (case k__is_selection => k_is)
    (case c__request_of => k_is)
    (case k__request_of => k_is)
    (case c__operation_of => k_is)
    (case k__operation_of => k_is)
    (case q1_BadLibrary => kx_is)
    (case q2_BadLibrary => kx_is)
    (case sb_BadLibrary => k_is)
    (case so_BadLibrary => k_is)
    (case ss_BadLibrary => k_is)
    (case hd_BadLibrary => k_is)
    (case kC_BadLibrary => k_is)
    (case ty_BadLibrary => k_is)
    (case hn => k_is)
    (case ht => k_is)
    (case c_BadLibrary___init__ => k_is)
    (case k_BadLibrary___init__ => k_is)
    (case f_BadLibrary___init__ => k_is)
    (case c__operations_of => k_is)
    (case k__operations_of => k_is)
    (case c__root_lines => k_is)
    (case k__root_lines => k_is)
    (case c__operation_line => k_is)
    (case k__operation_line => k_is)
    (case pg_Library => k_is)
    (case hd_Library => k_is)
    (case po_Library => k_is)
    (case kC_Library => k_is)
    (case mk_Library => k_is)
    (case rd_Library => k_is)
    (case ga_Library => k_is)
    (case ic_Library => k_is)
    (case c_Library___init__ => k_is)
    (case k_Library___init__ => k_is)
    (case f_Library___init__ => k_is)
    (case c_Library_read => k_is)
    (case k_Library_read => k_is)
    (case fn_Library_read => k_is)
    (case c__law_take => k_is)
    (case k__law_take => k_is)
    (case c__law_bag => k_is)
    (case k__law_bag => k_is)
    (case c__law_of => k_is)
    (case k__law_of => k_is)
    (case c_Library___contains__ => k_is)
    (case k_Library___contains__ => k_is)
    (case f_Library___contains__ => k_is)
    (case c__law_words => k_is)
    (case k__law_words => k_is)
    (case c__law_titles => k_is)
    (case k__law_titles => k_is)
    (case c__law_operation => k_is)
    (case k__law_operation => k_is)
    (case c__law_rows => k_is)
    (case k__law_rows => k_is)
    (case c__law_right => k_is)
    (case k__law_right => k_is)
    (case c_Library___str__ => k_is)
    (case k_Library___str__ => k_is)
    (case f_Library___str__ => k_is)
    (case c_law => k_is)
    (case k_law => k_is)
    (case o_NO_FIELDS => decide +kernel)
    (case o_BINARY_SIGNS => decide +kernel)
    (case o_UNARY_SIGNS => decide +kernel)
    (case o_ROOT_HOOKS => decide +kernel)
    (case o_M0 => decide +kernel)
    (case o_M1 => decide +kernel)
    (case o_M2 => decide +kernel)
