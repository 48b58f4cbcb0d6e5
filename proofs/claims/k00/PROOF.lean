import PyProof.Rows.All
import Wide.All
import OpenK.AllK
import Wide.FinOn
import PyProof.EqAt
import PyProof.EqKinds
import PyProof.TupleCall
import HandS.Base
import HandS.Call
import HandS.List
import HandS.Comp
import HandS.Dict
import HandS.Iter
import HandS.Evl
import HandS.Words
import HandS.WordsList
import HandS.Ends
import PyProof.Rows.NestShow
import HandS.Wide
import PyProof.ReprRoads
import HandS.Exc
import HandS.ExcOwn
import HandS.WordsExc
import HandS.Lambda
import HandS.EndBits
import HandS.EndTab
import HandS.Gcd
import HandS.IsInst
import HandS.TupAny
import HandS.TupMul
import HandS.Defaults
import HandS.ExcInit
import HandS.ExcField
import HandS.TryMany
import KE.KMathG
import KE.GoesMore
import KE.GoesEnum
import HandS.ExcIs
import HandS.ExcValue
import PySem.Challenge.RW_stepswithin_k00_numbers_and_steps
import HandS.CallLocal
import KE.KStateDown
import HandS.More
import HandS.Head0
import HandS.Head1
import HandS.Head2
import HandS.Head3
import HandS.HeadEnd
import HandS.HeadHook1
import HandS.HeadHook2
import HandS.HeadHook3
import HandS.HeadHook4
set_option Elab.async false
set_option linter.all false
set_option maxRecDepth 100000
set_option maxHeartbeats 4000000
namespace My
open PySem PySem.Spec PyProof.Rows L2
/-! ### data in a heap, but for what may change -/
def cut (N : List Addr) (H : Hp) : Hp := fun a => if a ∈ N then none else H a
def Live (N : List Addr) (H : Hp) : Prop := ∀ a ∈ N, H a ≠ none
theorem cut_in {N : List Addr} {H : Hp} {a : Addr} (h : a ∈ N) : cut N H a = none := if_pos h
theorem cut_out {N : List Addr} {H : Hp} {a : Addr} (h : a ∉ N) : cut N H a = H a := if_neg h
theorem cut_same (N : List Addr) (H : Hp) : Same (cut N H) H := fun a o e => by
  by_cases h : a ∈ N
  · rw [cut_in h] at e; cases e
  · rw [cut_out h] at e; exact e
theorem _root_.L2.Same.cut {H H' : Hp} (N : List Addr) (s : Same H H') : Same (My.cut N H) (My.cut N H') := fun a o e => by
  by_cases h : a ∈ N
  · rw [cut_in h] at e; cases e
  · rw [cut_out h] at e ⊢; exact s a o e
theorem Live.same {N : List Addr} {H H' : Hp} (l : Live N H) (s : Same H H') : Live N H' := fun a h => by
  have := l a h
  cases e : H a with
  | none => exact absurd e this
  | some o => rw [s a o e]; simp
theorem Live.new {N : List Addr} {H : Hp} {p : Addr} (l : Live N H) (h : H p = none) : p ∉ N := fun z => l p z h
theorem same_new {H : Hp} {p : Addr} {o : HO} (h : H p = none) : Same H (upd H p o) := fun a u e => by
  rw [upd_ne (ne_of_none e h)]; exact e
/-- a change within N -/
theorem cut_upd {N : List Addr} {H : Hp} {p : Addr} {o : HO} (h : p ∈ N) : cut N (upd H p o) = cut N H := by
  funext a
  by_cases z : a ∈ N
  · rw [cut_in z, cut_in z]
  · rw [cut_out z, cut_out z, upd_ne (fun e => z (by rw [e]; exact h))]
theorem cut_at {N : List Addr} {H : Hp} {p : Addr} {o : HO} (h : p ∉ N) (e : H p = some o) : cut N H p = some o := by
  rw [cut_out h]; exact e

mutual
theorem dp_ext {K : PySem.W.Frag} {H H' : Hp} (e : Same H H') : ∀ (d : PyData) (v : V), Dp K H v d → Dp K H' v d
  | .none, _, h => by cases h; exact .non
  | .bool b, _, h => by cases h; exact .bl b
  | .int b, _, h => by cases h; exact .int b
  | .str b, _, h => by cases h; exact .str b
  | .list ds, _, h => by
    cases h with
    | lst a b => exact .lst (Evl.ex_l e a) (dpAll_ext e ds _ b)
  | .tuple ds, _, h => by
    cases h with
    | tup a b => exact .tup (Evl.ex_t e a) (dpAll_ext e ds _ b)
  | .dict _, _, h => by cases h
theorem dpAll_ext {K : PySem.W.Frag} {H H' : Hp} (e : Same H H') : ∀ (ds : List PyData) (vs : List V), DpAll K H vs ds → DpAll K H' vs ds
  | [], _, h => by cases h; exact .nil
  | d :: ds, _, h => by
    cases h with
    | cons a b => exact .cons (dp_ext e d _ a) (dpAll_ext e ds _ b)
end
end My
namespace L2
open PySem PySem.Spec PyProof.Rows My
theorem Dp.ext {K : PySem.W.Frag} {H H' : Hp} {v : V} {d : PyData} (h : Dp K H v d) (e : Same H H') : Dp K H' v d := dp_ext e d v h
theorem DpAll.ext {K : PySem.W.Frag} {H H' : Hp} {v : List V} {d : List PyData} (h : DpAll K H v d) (e : Same H H') : DpAll K H' v d := dpAll_ext e d v h
theorem Dp.un {K : PySem.W.Frag} {N : List Addr} {H : Hp} {v : V} {d : PyData} (h : Dp K (cut N H) v d) : Dp K H v d := Dp.ext h (cut_same N H)
theorem DpAll.un {K : PySem.W.Frag} {N : List Addr} {H : Hp} {v : List V} {d : List PyData} (h : DpAll K (cut N H) v d) : DpAll K H v d := DpAll.ext h (cut_same N H)
theorem Dp.i {K : PySem.W.Frag} {H : Hp} {v : V} {i : Int} (h : Dp K H v (.int i)) : v = .int i := by cases h; rfl
theorem DpAll.length {K : PySem.W.Frag} {H : Hp} : ∀ {vs : List V} {ds : List PyData}, DpAll K H vs ds → vs.length = ds.length
  | _, [], h => by cases h; rfl
  | _, d :: ds, h => by
    cases h with
    | cons a b => simp [DpAll.length b]
theorem DpAll.get {K : PySem.W.Frag} {H : Hp} : ∀ {vs : List V} {ds : List PyData} {i : Nat} {d : PyData}, DpAll K H vs ds → ds[i]? = some d → ∃ v, vs[i]? = some v ∧ Dp K H v d
  | _, [], i, d, h, e => by simp at e
  | _, d :: ds, 0, d', h, e => by
    cases h with
    | cons a b => simp at e; subst e; exact ⟨_, rfl, a⟩
  | _, d :: ds, i + 1, d', h, e => by
    cases h with
    | cons a b =>
      obtain ⟨v, h1, h2⟩ := DpAll.get (i := i) b (by simpa using e)
      exact ⟨v, by simpa using h1, h2⟩
theorem DpAll.get' {K : PySem.W.Frag} {H : Hp} : ∀ {vs : List V} {ds : List PyData} {i : Nat} {v : V}, DpAll K H vs ds → vs[i]? = some v → ∃ d, ds[i]? = some d ∧ Dp K H v d
  | _, [], i, d, h, e => by cases h; simp at e
  | _, d :: ds, 0, d', h, e => by
    cases h with
    | cons a b => simp at e; subst e; exact ⟨_, rfl, a⟩
  | _, d :: ds, i + 1, d', h, e => by
    cases h with
    | cons a b =>
      obtain ⟨v, h1, h2⟩ := DpAll.get' (i := i) b (by simpa using e)
      exact ⟨v, by simpa using h1, h2⟩
theorem DpAll.append {K : PySem.W.Frag} {H : Hp} : ∀ {vs ws : List V} {ds es : List PyData}, DpAll K H vs ds → DpAll K H ws es → DpAll K H (vs ++ ws) (ds ++ es)
  | _, _, [], es, h, h' => by cases h; exact h'
  | _, _, d :: ds, es, h, h' => by
    cases h with
    | cons a b => exact .cons a (DpAll.append b h')
theorem DpAll.take {K : PySem.W.Frag} {H : Hp} : ∀ (n : Nat) {vs : List V} {ds : List PyData}, DpAll K H vs ds → DpAll K H (vs.take n) (ds.take n)
  | 0, _, _, _ => by simp; exact .nil
  | n + 1, _, [], h => by cases h; simp; exact .nil
  | n + 1, _, d :: ds, h => by
    cases h with
    | cons a b => simpa using DpAll.cons a (DpAll.take n b)
theorem DpAll.drop {K : PySem.W.Frag} {H : Hp} : ∀ (n : Nat) {vs : List V} {ds : List PyData}, DpAll K H vs ds → DpAll K H (vs.drop n) (ds.drop n)
  | 0, _, _, h => by simpa using h
  | n + 1, _, [], h => by cases h; simp; exact .nil
  | n + 1, _, d :: ds, h => by
    cases h with
    | cons a b => simpa using DpAll.drop n b
theorem DpAll.ints {K : PySem.W.Frag} {H : Hp} : ∀ (ns : List Int), DpAll K H (ns.map V.int) (ns.map PyData.int)
  | [] => .nil
  | n :: ns => .cons (.int n) (DpAll.ints ns)
theorem Dp.tupI {K : PySem.W.Frag} {H : Hp} {v : V} {ds : List PyData} (h : Dp K H v (.tuple ds)) : ∃ a xs, v = .ref a ∧ SqT K H a xs ∧ DpAll K H xs ds := by
  cases h with
  | tup a b => exact ⟨_, _, rfl, a, b⟩
theorem Dp.lstI {K : PySem.W.Frag} {H : Hp} {v : V} {ds : List PyData} (h : Dp K H v (.list ds)) : ∃ a xs, v = .ref a ∧ SqL K H a xs ∧ DpAll K H xs ds := by
  cases h with
  | lst a b => exact ⟨_, _, rfl, a, b⟩

end L2
namespace My
open PySem PySem.Spec PyProof.Rows L2
section
variable {X : Cx}
/-- repr(x), x data -/
def rRepr (K : PySem.W.Frag) : List V → Hp → VK → Prop := fun vs H Q => ∃ v d, vs = [v] ∧ Dp K H v d ∧ d.showable = true ∧ d.hasDict = false ∧ d.depth ≤ 60 ∧ d.shown.length ≤ sizeLine ∧ isDisplay d = true ∧ Q (.str d.shown) H
theorem cr_repr (hg : X.A.guards = some []) (hu : X.A.units + 64 < cLine) : CallR X (.builtin "repr") (rRepr X.K) := by
  intro pins s σ H vs us Q I r h
  obtain ⟨v, d, rfl, hd, h1, h2, h3, h4, h5, q⟩ := h
  obtain ⟨u, rfl, t⟩ : ∃ u, us = [u] ∧ RelV v u := by
    cases r with
    | cons a b => cases b; exact ⟨_, rfl, a⟩
  obtain ⟨as, hr⟩ := Dp.reads I d v u hd t
  obtain ⟨a, rfl⟩ := isRef_of_reads hr h5
  refine repr_of_reads' hr h1 (PyData.noDict_hsm h2) hg (by omega) (fun _ _ e => e) (fun h' u tk hk => ?_) h4
  exact ⟨.str _, H, I.kept hk, ⟨_, rfl⟩, q⟩
end
end My

set_option Elab.async false
set_option linter.all false
set_option maxRecDepth 100000
set_option maxHeartbeats 4000000
namespace My
open PySem PySem.Spec PyProof.Rows L2
/-! ### a def that is called where no text of a container is being written -/
structure FnG (P : Program) (w : World) (K : PySem.W.Frag) (mg : Str → Option Value) (base : Heap) (CX : CXT) (k : Nat) (f : Addr) (fd : FuncData) (ps : List Str) (sp : Sp) : Prop where
  size : ∀ vs H Q E, sp vs H Q E → vs.length = ps.length
  go : ∀ (A : Around) (out : List Env) (s : Shared) (H : Hp) (ar : Args) (us : List Value) (vs : List V) (Q : VK) (E : XK),
    A.guards = some [] → Room k A → Env0 P w K mg base A out s H → BindsTo s fd ar (ps.zip us) → Vals vs us → sp vs H Q E →
    codeAny (model P w) A (.call (.ref f) ar) (CR CX out P w H s Q E) s
theorem FnG.of {P : Program} {w : World} {K : PySem.W.Frag} {mg : Str → Option Value} {base : Heap} {CX : CXT} {k : Nat} {f : Addr} {fd : FuncData} {ps : List Str} {sp : Sp}
    (F : FnOk P w K mg base CX k f fd ps sp) : FnG P w K mg base CX k f fd ps sp :=
  ⟨F.len, fun A out s H ar us vs Q E _ hr e b v h => F.run A out s H ar us vs Q E hr e b v h⟩
section
variable {P : Program} {w : World} {K : PySem.W.Frag} {mg : Str → Option Value} {base : Heap}
theorem fun_g {CX : CXT} {x qual : Str} {st : Stmt} {f : Addr} {fd : FuncData} {N ps : List Str} {k : Nat} {sp : Sp} (F : Fun K x qual st f fd) (S : FnScope N ps (defScope st))
    (size : ∀ vs H Q E, sp vs H Q E → vs.length = ps.length)
    (body : ∀ (cdv : Value) (A : Around) (out : List Env) (s : Shared) (H : Hp) (vs : List V) (Q : VK) (E : XK), fd.code = cdv → A.guards = some [] →
      Room k (A.deeper (envOfC qual (defScope st) s.heap.objs.size f cdv)) → sp vs H Q E →
      ∃ t, PSs (cxOf CX P w K mg base N qual (defScope st) f cdv A out s H E).nox (defBody st) t ∧ t { nx := fun _ H' => Q .non H', rt := Q } (start N vs) H) :
    FnG P w K mg base CX (k + 1) f fd ps sp := by
  obtain ⟨oc, od, kV, doc, pm, an, cdv, ct, osl, rfl, lk, hcd⟩ := F.ex
  exact ⟨size, fun A out s H ar us vs Q E hg hr e0 hb r h =>
    LamX.run_ofS lk hcd S hr e0 hb r (size _ _ _ _ h) fun hr' => by
      obtain ⟨t, ht, q⟩ := body cdv A out s H vs Q E rfl hg hr' h
      exact ⟨t, ht.nox, q⟩⟩
end
section
variable {X : Cx} {CX : CXT} {k : Nat} {f : Addr} {fd : FuncData} {ps : List Str} {sp : Sp} {E : XK} {x : Str} {p pos : Pos} {e : Expr} {es : List Expr} {t : TA}
theorem run_g {pins : List (Addr × Obj)} {σ : L2.St} {H : Hp} {s : Shared} {Q : VK} {us : List Value} {vs : List V} (F : FnG X.prog X.w X.K X.mg X.base CX k f fd ps sp)
    (hg : X.A.guards = some []) (hr : Room k X.A) (hb : Binds X.K fd ps []) (hx : Passes CX X E) (I : Inv X pins σ H s) (r : Vals vs us) (h : sp vs H Q E) :
    wpAny (model X.prog X.w) X.A (call (.ref f) us) (EP X pins σ Q) X.xe s := by
  have n : (us ++ []).length = ps.length := by
    rw [List.append_nil, ← r.length]
    exact F.size _ _ _ _ h
  have b := hb s us I.kIn n
  rw [List.append_nil] at b
  refine wpAny_call (codeAny_mono (F.go X.A X.stack s H ⟨us, []⟩ us vs Q E hg hr I.env0 b r h) fun q s' hq => ?_)
  match q, hq with
  | .error e, hq => exact hx pins σ H s e s' I hq
  | .ok (.ret u), hq => exact I.after hq
theorem pe_callG (F : FnG X.prog X.w X.K X.mg X.base CX k f fd ps sp) (hgd : X.A.guards = some []) (hr : Room k X.A) (hg : Gl X x) (hm : X.mg x = some (.ref f))
    (hk : PySem.W.keepIn X.K (.ref f) = true) (hb : Binds X.K fd ps []) (hx : Passes CX X E) (ha : PA X (e :: es) t) (hdb : (x == ("__debug__" : Str)) = false := by decide)
    (he : starEach (e :: es) X.env = (false, eval e X.env) :: starEach es X.env := by rfl) (hpl : (backTo pos (starEach es X.env)).any (·.1) = false := by rfl) :
    PE X (.Call (.Name x p) (e :: es) [] pos) (tCall sp [] E t) := by
  refine ⟨fun pins s σ H Q I h => wpAny_Call_Name_kw (ld_glob I hg hm ?_ hdb)⟩
  refine PySem.W.callWith_K (h₀ := X.base) I.ok.mod.kin hk (thn (ha.run pos pins s σ H _ I h) fun us s1 z => ?_) he hpl
  obtain ⟨vs, H1, I1, r, q⟩ := z
  rw [List.append_nil] at q
  exact ⟨I1.kIn, run_g F hgd hr hb hx I1 r q⟩
theorem pe_callG0 (F : FnG X.prog X.w X.K X.mg X.base CX k f fd ps sp) (hgd : X.A.guards = some []) (hr : Room k X.A) (hg : Gl X x) (hm : X.mg x = some (.ref f))
    (hk : PySem.W.keepIn X.K (.ref f) = true) (hb : Binds X.K fd ps []) (hx : Passes CX X E) (hdb : (x == ("__debug__" : Str)) = false := by decide) :
    PE X (.Call (.Name x p) [] [] pos) (tCall sp [] E tNil) := by
  refine ⟨fun pins s σ H Q I h => wpAny_Call_Name_kw (ld_glob I hg hm ?_ hdb)⟩
  exact PySem.W.callWith_K0 I.kIn hk (run_g (us := []) (vs := []) F hgd hr hb hx I .nil h)
end
/-! ### the end: the law's call, where nothing is being written -/
section
variable {P : Program} {w : World} {K : PySem.W.Frag} {mg mb : Str → Option Value} {CX : CXT} {k : Nat} {fa a : Addr} {cs : List (Addr × Addr)} {fd : FuncData} {x : Str} {sp : Sp} {s₁ : Shared} {vs : List Value} {ns : List Int}
abbrev LawEnd (s₁ : Shared) (r : Result) (s' : Shared) : Prop := r = .ok (.ret (.bool true)) ∧ OldK s₁.heap s'.heap ∧ s'.os = s₁.os ∧ AllBare s'.gens
abbrev tabs (cs : List (Addr × Addr)) : List Addr := cs.map fun p => p.2
theorem law_core (H : Hp) (KX : K.In s₁.heap) (hns : s₁.heap.Ns mainGlobals mg) (hb : s₁.heap.Ns builtinsNs mb) (hbb : ∀ x : Str, x ≠ "__name__" → mb x = bootBuiltins x)
    (hlim : s₁.heap.NoLimit) (hg : s₁.gens = #[]) (hT : ∀ b ∈ tabs cs, s₁.heap.get? b = some { cls := .none, data := .fields #[] }) (nT : ∀ b ∈ tabs cs, K.lookup b = none)
    (C : ∀ p ∈ cs, PySem.W.CodeHd s₁.heap p.1 p.2)
    (hbm : ∃ (bm : Addr) (ob : Obj), mg "__builtins__" = some (.ref bm) ∧ bm ≠ builtinsNs ∧ s₁.heap.get? bm = some ob ∧ ob.cls = .type "module" ∧ ob.dict = some builtinsNs ∧ ob.data = .plain)
    (ha : s₁.heap.get? a = some { cls := .type "list", data := .seq vs.toArray }) (hr : Room k callerA)
    (F : ∀ base : Heap, K.In base → base.Ns mainGlobals mg → (∀ p ∈ cs, LamX.TabB base mg p.1 p.2) → FnG P w K mg base CX k fa fd [x] sp)
    (hbind : ∀ (s : Shared) (u : Value), BindsTo s fd ⟨[u], []⟩ [(x, u)]) (hsp : sp [.ref a] H (fun v _ => v = .bl true) fun _ _ _ => False)
    (hCX : ∀ H e s', CX [] H s₁ (fun _ _ _ => False) e s' → False) (hH : ∀ b ∈ tabs cs, H b = some (.tbl #[]))
    (hO : ∀ b, H b = none ∨ b ∈ tabs cs ∨ ∃ o xs, H b = some (.frz o (.lst xs))) (hok : HOk P w H s₁.heap) (hA : ∀ b, H b ≠ none → b = a ∨ b ∈ tabs cs) (hK : H a ≠ none → K.lookup a = none) :
    codeAny (model P w) callerA (.call (.ref fa) ⟨[.ref a], []⟩) (LawEnd s₁) s₁ := by
  have plain : ∀ {b : Addr} {o : Obj}, s₁.heap.get? b = some o → (∀ us n, o.data ≠ .seq us n) → o.data ≠ .fields #[] → H b = none := by
    intro b o e n1 n2
    cases q : H b with
    | none => rfl
    | some u =>
      rcases hA b (by rw [q]; simp) with z | z
      · subst z
        rw [ha] at e
        cases e
        exact absurd rfl (n1 _ _)
      · rw [hT b z] at e
        cases e
        exact absurd rfl n2
  have dict : ∀ {b : Addr} {o : Obj} {es : Array DictEntry} {ep : Nat}, s₁.heap.get? b = some o → o.data = .dict es ep → H b = none :=
    fun {b o es ep} e d => plain e (fun us n z => by rw [d] at z; cases z) (fun z => by rw [d] at z; cases z)
  have low : ∀ {b : Addr} {m : Str → Option Value}, s₁.heap.Ns b m → (hidT s₁.heap H).Ns b m :=
    fun {b m} ⟨o, es, ep, e, d, r⟩ => ⟨o, es, ep, hidT_get e (dict e d), d, r⟩
  have lowK : K.In (hidT s₁.heap H) := by
    intro b o e
    refine hidT_get (KX b o e) ?_
    cases q : H b with
    | none => rfl
    | some u =>
      rcases hA b (by rw [q]; simp) with z | z
      · subst z
        rw [hK (by rw [q]; simp)] at e
        cases e
      · rw [nT b z] at e
        cases e
  have M : L2.Mod K mg (hidT s₁.heap H) := by
    obtain ⟨mc, l1, l2⟩ := hlim
    exact ⟨lowK, low hns, ⟨mb, low hb, hbb⟩, mc, low l1, l2⟩
  have TB : ∀ p ∈ cs, LamX.TabB (hidT s₁.heap H) mg p.1 p.2 := by
    intro p hp
    have hTp := hT p.2 (List.mem_map.mpr ⟨p, hp, rfl⟩)
    have one : PySem.W.CodeHd (hidT s₁.heap H) p.1 p.2 := by
      obtain ⟨o, us, file, tf, flags, tg, inF, text, tt, e1, r1, r2, r3, r⟩ := C p hp
      refine ⟨o, us, file, tf, flags, tg, inF, text, tt, hidT_get e1 (plain e1 (fun vs n z => ?_) fun z => ?_), r1, r2, r3, r⟩
      · rw [r2] at z
        cases z
      · rw [r2] at z
        cases z
        simp at r3
    obtain ⟨bm, ob, b1, b2, b3, b4, b5, b6⟩ := hbm
    have far : bm ≠ mainGlobals := by
      rintro rfl
      obtain ⟨o, es, ep, e, hd, _⟩ := hns
      rw [e] at b3
      cases b3
      rw [hd] at b6
      cases b6
    have off : bm ≠ p.2 := by
      rintro rfl
      rw [hTp] at b3
      cases b3
      cases b6
    have two : mainGlobals ≠ p.2 := by
      intro z
      obtain ⟨o, es, ep, e, hd, _⟩ := hns
      rw [z, hTp] at e
      cases e
      cases hd
    exact ⟨one, ⟨bm, ob, b1, b2, far, off, hidT_get b3 (plain b3 (fun vs n z => by rw [b6] at z; cases z) (fun z => by rw [b6] at z; cases z)), b4, b5, b6⟩, two⟩
  have e0 : Env0 P w K mg (hidT s₁.heap H) callerA [] s₁ H := by
    refine ⟨rfl, M, fun b o e => of_hidT e, Nat.le_of_eq (hidT_size _ _), trivial, fun b z => ?_, hok, .of_eq hg⟩
    have z' : b ∈ ([] : List Addr) := z
    cases z'
  have run := (F _ lowK (low hns) TB).go callerA [] s₁ H ⟨[.ref a], []⟩ [.ref a] [.ref a] _ _ rfl hr e0 (hbind s₁ (.ref a)) (.cons rfl .nil) hsp
  refine codeAny_mono run fun r s' h => ?_
  match r, h with
  | .error e, h => exact (hCX H e s' h).elim
  | .ok (.ret u), h =>
    obtain ⟨v, H', os, bare, un, hok', r', q⟩ := h
    have q' : v = .bl true := q
    subst q'
    obtain rfl : u = Value.bool true := r'
    have old : ∀ b o, b ∉ tabs cs → s₁.heap.get? b = some o → s'.heap.get? b = some o := by
      intro b o nb e
      cases q : H b with
      | none =>
        refine un.keep b o e q (fun z => ?_) (by simp)
        have z' : b ∈ ([] : List Addr) := z
        cases z'
      | some u =>
        rcases hO b with z | z | ⟨ob, xs, z⟩
        · rw [q] at z
          cases z
        · exact absurd z nb
        · obtain ⟨e1, _⟩ := hok b _ z
          obtain ⟨e2, _⟩ := hok' b _ (un.frzs b ob _ z)
          rw [e] at e1
          cases e1
          exact e2
    have more : ∀ p ∈ cs, ∃ vs : Array Value, s'.heap.get? p.2 = some { cls := .none, data := .fields vs } := by
      intro p hp
      obtain ⟨vs, z⟩ := un.tbls p.2 #[] (hH p.2 (List.mem_map.mpr ⟨p, hp, rfl⟩))
      exact ⟨_, hok' p.2 _ z⟩
    refine ⟨rfl, ⟨fun b o e => ?_, fun b o e => ?_⟩, os, bare⟩
    · by_cases z : b ∈ tabs cs
      · obtain ⟨p, hp, ep⟩ := List.mem_map.mp z
        subst ep
        obtain ⟨vs, hm⟩ := more p hp
        have hTp := hT p.2 z
        have tab := ((C p hp).tab hTp).isCodeTable
        rw [hTp] at e
        cases e
        refine .inr (.inl ⟨tab, rfl, #[], vs, rfl, ?_⟩)
        rw [Array.empty_append]
        exact hm
      · exact .inl (old b o z e)
    · by_cases z : b ∈ tabs cs
      · obtain ⟨p, hp, ep⟩ := List.mem_map.mp z
        subst ep
        obtain ⟨vs, hm⟩ := more p hp
        exact ⟨_, hm⟩
      · exact ⟨o, old b o z e⟩
theorem law_callG (KX : K.In s₁.heap) (hns : s₁.heap.Ns mainGlobals mg) (hb : s₁.heap.Ns builtinsNs mb) (hbb : ∀ x : Str, x ≠ "__name__" → mb x = bootBuiltins x)
    (hlim : s₁.heap.NoLimit) (hg : s₁.gens = #[]) (hT : ∀ b ∈ tabs cs, s₁.heap.get? b = some { cls := .none, data := .fields #[] }) (nT : ∀ b ∈ tabs cs, K.lookup b = none)
    (C : ∀ p ∈ cs, PySem.W.CodeHd s₁.heap p.1 p.2)
    (hbm : ∃ (bm : Addr) (ob : Obj), mg "__builtins__" = some (.ref bm) ∧ bm ≠ builtinsNs ∧ s₁.heap.get? bm = some ob ∧ ob.cls = .type "module" ∧ ob.dict = some builtinsNs ∧ ob.data = .plain)
    (ha : s₁.heap.get? a = some { cls := .type "list", data := .seq vs.toArray }) (hi : IntsAre vs ns) (hl : ns.length ≤ sizeLine) (hr : Room k callerA)
    (F : ∀ base : Heap, K.In base → base.Ns mainGlobals mg → (∀ p ∈ cs, LamX.TabB base mg p.1 p.2) → FnG P w K mg base CX k fa fd [x] sp)
    (hbind : ∀ (s : Shared) (u : Value), BindsTo s fd ⟨[u], []⟩ [(x, u)])
    (hsp : ∀ H : Hp, (∀ b ∈ tabs cs, H b = some (.tbl #[])) → SqL K H a (ns.map V.int) → sp [.ref a] H (fun v _ => v = .bl true) fun _ _ _ => False)
    (hCX : ∀ H e s', CX [] H s₁ (fun _ _ _ => False) e s' → False) :
    codeAny (model P w) callerA (.call (.ref fa) ⟨[.ref a], []⟩) (LawEnd s₁) s₁ := by
  have rv := vals_ints hi
  have lv := hi.length
  have aT : a ∉ tabs cs := by
    intro z
    have e := hT a z
    rw [ha] at e
    have e' := congrArg Obj.data (Option.some.inj e)
    cases e'
  let tb : Hp := fun b => if b ∈ tabs cs then some (.tbl #[]) else none
  have tbI : ∀ b ∈ tabs cs, tb b = some (.tbl #[]) := fun b z => if_pos z
  have tbO : ∀ b, b ∉ tabs cs → tb b = none := fun b z => if_neg z
  cases hk : K.lookup a with
  | some o =>
    have e := KX a o hk
    rw [ha] at e
    cases e
    refine law_core tb KX hns hb hbb hlim hg hT nT C hbm ha hr F hbind (hsp tb tbI ?_) hCX tbI (fun b => ?_) (fun b u z => ?_) (fun b z => ?_) fun z => ?_
    · exact .inr ⟨_, vs.toArray, _, hk, rfl, rfl, rfl, by rw [List.size_toArray, lv]; exact hl, by simpa using rv⟩
    · by_cases h : b ∈ tabs cs
      · exact .inr (.inl h)
      · exact .inl (tbO b h)
    · by_cases h : b ∈ tabs cs
      · rw [tbI b h] at z
        cases z
        exact hT b h
      · rw [tbO b h] at z
        cases z
    · by_cases h : b ∈ tabs cs
      · exact .inr h
      · exact absurd (tbO b h) z
    · exact absurd (tbO a aT) z
  | none =>
    let H : Hp := fun b => if b = a then some (.frz { cls := .type "list", data := .seq vs.toArray } (.lst (ns.map V.int))) else tb b
    have Ha : H a = some (.frz { cls := .type "list", data := .seq vs.toArray } (.lst (ns.map V.int))) := if_pos rfl
    have Hn : ∀ b, b ≠ a → H b = tb b := fun b z => if_neg z
    have HT : ∀ b ∈ tabs cs, H b = some (.tbl #[]) := fun b z => (Hn b fun e => aT (e ▸ z)).trans (tbI b z)
    refine law_core H KX hns hb hbb hlim hg hT nT C hbm ha hr F hbind (hsp H HT (.inl (.inr ⟨_, Ha⟩))) hCX HT (fun b => ?_) (fun b u z => ?_) (fun b z => ?_) fun _ => hk
    · by_cases e : b = a
      · subst e
        exact .inr (.inr ⟨_, _, Ha⟩)
      · by_cases h : b ∈ tabs cs
        · exact .inr (.inl h)
        · exact .inl ((Hn b e).trans (tbO b h))
    · by_cases e : b = a
      · subst e
        rw [Ha] at z
        cases z
        exact ⟨ha, by rw [List.length_map]; exact hl, vs, _, rv, ha⟩
      · rw [Hn b e] at z
        by_cases h : b ∈ tabs cs
        · rw [tbI b h] at z
          cases z
          exact hT b h
        · rw [tbO b h] at z
          cases z
    · by_cases e : b = a
      · exact .inl e
      · by_cases h : b ∈ tabs cs
        · exact .inr h
        · exact absurd ((Hn b e).trans (tbO b h)) z
end
/-- what is to be told of the law at the head's heap h -/
def LawAtG (l : PySem.W.OpenLaw) (w : World) (K : PySem.W.Frag) (CX : CXT) (k n : Nat) (x : Str) (mg : Str → Option Value) (fa : Addr) (h : Heap) : Prop :=
  ∃ (fd : FuncData) (cs : List (Addr × Addr)) (sp : Sp), (∀ b ∈ tabs cs, h.get? b = some { cls := .none, data := .fields #[] }) ∧ (∀ b ∈ tabs cs, K.lookup b = none) ∧
    (∀ p ∈ cs, PySem.W.CodeHd h p.1 p.2) ∧ (∀ (s : Shared) (u : Value), BindsTo s fd ⟨[u], []⟩ [(x, u)]) ∧
    (∀ (H : Hp) (a : Addr) (ns : List Int), ns.length ≤ n → (∀ z ∈ ns, Builtin.Int.intBits z ≤ 1048576) → (∀ b ∈ tabs cs, H b = some (.tbl #[])) → SqL K H a (ns.map V.int) →
      sp [.ref a] H (fun v _ => v = .bl true) fun _ _ _ => False) ∧
    ∀ base : Heap, K.In base → base.Ns mainGlobals mg → (∀ p ∈ cs, LamX.TabB base mg p.1 p.2) → FnG l.prog w K mg base CX k fa fd [x] sp
theorem walk_g {l : PySem.W.OpenLaw} {n k : Nat} {q : Program} {loose : List Str} {XP : (Str → Option Value) → Heap → Prop} {YP : World → Heap → Prop} {d : DefRec} {CX : World → CXT} {x : Str}
    (hn : l.most = some n) (hn2 : n ≤ sizeLine) (hdf : d.params.defaults = []) (hr : Room k callerA)
    (F : ∀ (w : World) (mg : Str → Option Value) (fa : Addr) (h : Heap), YP w h → h.Ns mainGlobals mg → mg d.name = some (.ref fa) →
      ∃ K : PySem.W.Frag, K.In h ∧ LawAtG l w K (CX w) k n x mg fa h)
    (hCX : ∀ (w : World) (H : Hp) (s : Shared) (e : Value) (s' : Shared), CX w [] H s (fun _ _ _ => False) e s' → False) :
    PySem.W.WalkO q loose XP YP l.row.toRowW d [] (fun f vs => PySem.call f vs) := by
  refine Att.attach_callB hn hdf fun w s₀ s₁ mg mb fa o pm cd doc a vs ns G Y ho hd hcd hmg hobj hints hlen hbits hg => ?_
  obtain ⟨K, KX, fd, cs, sp, hT, nT, C, hb, hsp, hF⟩ := F w mg fa _ Y G.T.g hmg
  exact law_callG KX G.T.g G.T.b G.T.builtins G.T.nolimit hg hT nT C G.T.bmain hobj hints (Nat.le_trans hlen hn2) hr hF hb
    (fun H hH hS => hsp H a ns hlen hbits hH hS) fun H e s' => hCX w H s₁ e s'
end My

set_option Elab.async false
set_option linter.all false
set_option maxRecDepth 100000
set_option maxHeartbeats 4000000
namespace My
open PySem PySem.Spec PyProof.Rows L2
/-! ### a def by its name, its promise kept -/
def Ce (P : Program) (w : World) (K : PySem.W.Frag) (mg : Str → Option Value) (base : Heap) (CX : CXT) (k : Nat) (x : Str) (ps : List Str) (sp : Sp) : Prop :=
  ∃ (f : Addr) (fd : FuncData), FnOk P w K mg base CX k f fd ps sp ∧ PySem.W.keepIn K (.ref f) = true ∧ Binds K fd ps [] ∧ mg x = some (.ref f)
def CeG (P : Program) (w : World) (K : PySem.W.Frag) (mg : Str → Option Value) (base : Heap) (CX : CXT) (k : Nat) (x : Str) (ps : List Str) (sp : Sp) : Prop :=
  ∃ (f : Addr) (fd : FuncData), FnG P w K mg base CX k f fd ps sp ∧ PySem.W.keepIn K (.ref f) = true ∧ Binds K fd ps [] ∧ mg x = some (.ref f)
section
variable {X : Cx} {CX : CXT} {k : Nat} {ps : List Str} {sp : Sp} {E : XK} {x : Str} {p pos : Pos} {e : Expr} {es : List Expr} {t : TA}
theorem pe_ce (c : Ce X.prog X.w X.K X.mg X.base CX k x ps sp) (hr : Room k X.A) (hx : Passes CX X E) (ha : PA X (e :: es) t) (hg : Gl X x := by rfl) (hdb : (x == ("__debug__" : Str)) = false := by decide)
    (he : starEach (e :: es) X.env = (false, eval e X.env) :: starEach es X.env := by rfl) (hpl : (backTo pos (starEach es X.env)).any (·.1) = false := by rfl) :
    PE X (.Call (.Name x p) (e :: es) [] pos) (tCall sp [] E t) := by
  obtain ⟨f, fd, F, kp, b, m⟩ := c
  exact pe_call F hr hg m kp b .nil hx ha hdb he hpl
theorem pe_ce0 (c : Ce X.prog X.w X.K X.mg X.base CX k x ps sp) (hr : Room k X.A) (hx : Passes CX X E) (hg : Gl X x := by rfl) (hdb : (x == ("__debug__" : Str)) = false := by decide) :
    PE X (.Call (.Name x p) [] [] pos) (tCall sp [] E tNil) := by
  obtain ⟨f, fd, F, kp, b, m⟩ := c
  exact pe_call0 F hr hg m kp b .nil hx hdb
theorem pe_ceG (c : CeG X.prog X.w X.K X.mg X.base CX k x ps sp) (hr : Room k X.A) (hgd : X.A.guards = some []) (hx : Passes CX X E) (ha : PA X (e :: es) t) (hg : Gl X x := by rfl) (hdb : (x == ("__debug__" : Str)) = false := by decide)
    (he : starEach (e :: es) X.env = (false, eval e X.env) :: starEach es X.env := by rfl) (hpl : (backTo pos (starEach es X.env)).any (·.1) = false := by rfl) :
    PE X (.Call (.Name x p) (e :: es) [] pos) (tCall sp [] E t) := by
  obtain ⟨f, fd, F, kp, b, m⟩ := c
  exact pe_callG F hgd hr hg m kp b hx ha hdb he hpl
theorem pe_ceG0 (c : CeG X.prog X.w X.K X.mg X.base CX k x ps sp) (hr : Room k X.A) (hgd : X.A.guards = some []) (hx : Passes CX X E) (hg : Gl X x := by rfl) (hdb : (x == ("__debug__" : Str)) = false := by decide) :
    PE X (.Call (.Name x p) [] [] pos) (tCall sp [] E tNil) := by
  obtain ⟨f, fd, F, kp, b, m⟩ := c
  exact pe_callG0 F hgd hr hg m kp b hx hdb
end
theorem fun_ofD {K : PySem.W.Frag} {x qual : Str} {st : Stmt} {f : Addr} {fd : FuncData} (kp : PySem.W.keepIn K (.ref f) = true) (F : FunD K x qual (defArgs st) (defBody st) (defScope st) [] [] f fd) : Fun K x qual st f fd := by
  obtain ⟨oc, od, dV, kV, doc, pm, an, cdv, ct, osl, e, lk, hc, hd, hk⟩ := F.ex
  rcases hd with ⟨_, e2⟩ | ⟨z, _⟩
  · subst e2
    exact ⟨⟨oc, od, kV, doc, pm, an, cdv, ct, osl, e, lk, hc⟩, kp⟩
  · exact absurd rfl z
theorem un64 {k : Nat} {A : Around} (hr : Room k A) : A.units + 64 < cLine := by
  have := hr.un
  omega
section
variable {X : Cx}
/-- lcm -/
def rLcm : List V → Hp → VK → Prop := fun vs H Q => ∃ a b : Int, vs = [.int a, .int b] ∧ a.natAbs.log2 < 13000 ∧ b.natAbs.log2 < 13000 ∧ Q (.int ((Nat.lcm a.natAbs b.natAbs : Nat) : Int)) H
theorem log_max {a b n : Nat} (ha : a.log2 < n) (hb : b.log2 < n) : (max a b).log2 < n := by
  rcases Nat.le_total a b with h | h
  · rw [Nat.max_eq_right h]; exact hb
  · rw [Nat.max_eq_left h]; exact ha
theorem lt_two {a n : Nat} (h : a.log2 < n) : a < 2 ^ n := by
  by_cases z : a = 0
  · subst z; exact Nat.two_pow_pos n
  · exact (Nat.log2_lt z).mp h
theorem log_of {a n : Nat} (h0 : 0 < n) (h : a < 2 ^ n) : a.log2 < n := PySem.Flt.log2_lt_of h0 h
theorem cr_lcm : CallR X (.builtin "math.lcm") rLcm := by
  intro pins s σ H vs us Q I r h
  obtain ⟨a, b, rfl, ha, hb, q⟩ := h
  obtain ⟨t, u, rfl⟩ := Vals.int2 r
  have e : (Nat.lcm 1 a.natAbs).lcm b.natAbs = Nat.lcm a.natAbs b.natAbs := by rw [Nat.lcm_one_left]
  have h1 := log_max (a := 1) (by decide : (1 : Nat).log2 < 13000) ha
  have h2 := log_max ha hb
  have h3 : (Nat.lcm a.natAbs b.natAbs) ≤ a.natAbs * b.natAbs := by
    unfold Nat.lcm
    exact Nat.div_le_self _ _
  have h4 : Nat.lcm a.natAbs b.natAbs < 2 ^ 26000 := by
    refine Nat.lt_of_le_of_lt h3 ?_
    have := Nat.mul_lt_mul'' (lt_two ha) (lt_two hb)
    rw [← Nat.pow_add] at this
    exact this
  have h5 := log_of (by decide) h4
  have e2 : bitsLine = 134217728 := by decide
  refine call_function_meets PySem.W.MGF.kind_lcm PySem.W.MGF.plain_lcm PySem.W.MGF.entry_lcm (PySem.W.MGF.args_lcm _ _) (PySem.W.mg_run_lcm a t b u (by omega) (by omega) (by rw [e]; show (Int.natAbs ((Nat.lcm a.natAbs b.natAbs : Nat) : Int)).log2 < _; rw [Int.natAbs_natCast, e2]; omega)).meets ?_
  rw [e]
  exact ⟨.int _, H, I.tok _, ⟨_, rfl⟩, q⟩
/-- x *= e -/
theorem ip_mulW : PIp X .Mult (rI CMulW fun i j => .int (i * j)) := by
  intro pins s σ H x y v u Q I rx ry h
  obtain ⟨i, j, rfl, rfl, hc, q⟩ := h
  obtain ⟨t, rfl⟩ := rx
  obtain ⟨t2, rfl⟩ := ry
  exact imul_int ⟨.int _, H, I.tok _, ⟨_, rfl⟩, q⟩ hc.ok
/-- what passes through a def that may raise -/
theorem passX {P : Program} {w : World} {K : PySem.W.Frag} {mg : Str → Option Value} {base : Heap} {N : List Str} {qual : Str} {sc : Scope} {f : Addr} {cd : Value} {A : Around} {outer : List Env} {s : Shared} {H : Hp} {E : XK} :
    Passes (L2.CX P w) (cxOf (L2.CX P w) P w K mg base N qual sc f cd A outer s H E) E :=
  passes_call (takes_of rfl rfl rfl rfl) (fun _ _ _ _ h => h)
end
end My

set_option Elab.async false
set_option linter.all false
set_option maxRecDepth 100000
set_option maxHeartbeats 4000000
namespace My
open PySem PySem.Spec PyProof.Rows L2
/-! ### enumerate of a tuple -/
theorem enum_new {v : Value} {o : Obj} {Z : Heap → Prop} (B : Begins v o Z) :
    Meets (Builtin.«enumerate.__new__» ⟨[.type "enumerate", v], []⟩) (fun _ R s => Z s.heap ∧
      R (.ok (.ret (.ref (s.heap.push o).objs.size)))
        { s with heap := (s.heap.push o).push { cls := .type "enumerate", data := .fields #[.none, .bool false, .ref s.heap.objs.size, rawInt 0, .none, .none] } }) :=
  .of_wp fun prog w A R s h => by
    obtain ⟨hp, g, d, tk, os⟩ := s
    obtain ⟨z, h⟩ := h
    have sub := sub_enumerate
    have it : ∀ {A' : Around} {E : Value → Shared → Prop} {Q : Value → Shared → Prop}, Q (.ref hp.objs.size) ⟨hp.push o, g, d, tk, os⟩ → wpAny (model prog w) A' (pyIter v) Q E ⟨hp, g, d, tk, os⟩ :=
      fun q => B.iter prog w _ _ ⟨hp, g, d, tk, os⟩ _ z q
    wp_walk using it
    refine wpAny_stack_any fun st => wpAny_pure ?_
    split
    · rename_i c _ _ _ _ _
      cases c == Value.type "enumerate" <;> (wp_walk using it; exact ⟨_, rfl, h⟩)
    · wp_walk using it
      exact ⟨_, rfl, h⟩
section
variable {prog : Program} {w : World} {A : Around} {E : Value → Shared → Prop} {s : Shared}
theorem enum_starts {v : Value} {o : Obj} {Z : Heap → Prop} {Q : Value → Shared → Prop} (B : Begins v o Z) (z : Z s.heap)
    (h : ∀ h', IsEnum h' (s.heap.objs.size + 1) s.heap.objs.size 0 .none → h'.get? s.heap.objs.size = some o → (∀ b o, s.heap.get? b = some o → h'.get? b = some o) → Q (.ref (s.heap.objs.size + 1)) { s with heap := h' }) :
    wpAny (model prog w) A (call (.type "enumerate") [v]) Q E s := by
  refine callType_new F.called_enumerate (by decide) (F.typeCall_enumerate_1 _) (F.newCall_enumerate_1 _) (fun obj => F.args_object_init_2 obj _) F.entry_enumerate_new (enum_new B) ⟨z, ?_⟩
  have n : (s.heap.push o).objs.size = s.heap.objs.size + 1 := Heap.size_push ..
  show _ ∧ _
  rw [n]
  have e := Heap.get?_push_size (s.heap.push o) (o := { cls := .type "enumerate", data := .fields #[.none, .bool false, .ref s.heap.objs.size, rawInt 0, .none, .none] }) rfl
  rw [n] at e
  exact ⟨⟨_, e, rfl⟩, h _ e (Heap.get?_push_of_some _ (Heap.get?_push_size _ B.free)) fun b u x => Heap.get?_push_of_some _ (Heap.get?_push_of_some _ x)⟩
theorem enum_ends {e it t : Addr} {i : Nat} {c : Int} {items : Array Value} {old : Value} {Q : Option Value → Shared → Prop} (hh : A.handled = none)
    (he : IsEnum s.heap e it c old) (hit : s.heap.IsTupleIter it t i) (ht : s.heap.IsTuple t items) (hx : items[i]? = none) (hQ : ∀ h', Heap.ExtBut it s.heap h' → Q none { s with heap := h' }) :
    wpAny (model prog w) A (pyNext (.ref e)) Q E s := by
  have T : s.TypeIs (.ref e) "enumerate" := ⟨_, he, rfl⟩
  unfold pyNext
  refine wpAny_bind (wpAny_attempt (wpAny_callSpecial?_slot (name := Str.ofString "__next__") T F.slot_enumerate_next (wpAny_call_entry F.slot_enumerate_next T F.entry_enumerate_next ?_ (F.args_enumerate_next_1 _))))
  show wpAny _ _ (field (.ref e) 2 >>= _) _ _ _
  refine wpAny_bind (wpAny_field he rfl (x := .ref it) rfl ?_)
  refine wpAny_bind (wpAny_nextOf_tuple_end (A := A.in1) hh hit ht hx fun h' x b1 b2 => ?_)
  obtain ⟨o, ho, hc⟩ := b2
  refine wpAny_bind (wpAny_isInstance (T := "StopIteration") (b := true) ⟨o, ho, hc⟩ isSubtype_stop ?_)
  exact wpAny_pure (hQ _ b1)
end
/-- the tuple at a, each item in a new pair with its place -/
def IteT (K : PySem.W.Frag) (a : Addr) : It :=
  ⟨fun i H => ∃ (xs : List V) (x : V), SqT K H a xs ∧ xs[i]? = some x,
    fun i H v H' => ∃ T x, v = .ref T ∧ H T = none ∧ H' = upd H T (.tup [.int (i : Nat), x]) ∧ ∀ xs, SqT K H a xs → xs[i]? = some x,
    fun i H => ∃ xs : List V, SqT K H a xs ∧ xs.length ≤ i⟩
theorem turn_enumT {P : Program} {w : World} {K : PySem.W.Frag} {elts : List Expr} {kk : Nat} {tpos : Pos} (a e it : Addr) :
    Turn P w K (.Tuple elts kk tpos) (IteT K a) [e, it] e (fun i h => (∃ old, IsEnum h e it ((i : Nat) : Int) old) ∧ h.IsTupleIter it a i ∧ e ≠ it ∧ a ≠ it ∧ a ≠ e) where
  mem := by simp
  obj := fun i h st b hb => by
    obtain ⟨⟨old, he⟩, ⟨o, ho, hc, hd⟩, _⟩ := st
    rcases (show b = e ∨ b = it by simpa using hb) with z | z
    · subst z
      exact ⟨_, he, fun v q => nomatch q⟩
    · subst z
      exact ⟨o, ho, fun v q => by rw [hd] at q; cases q⟩
  keep := fun i h h' st k => by
    obtain ⟨⟨old, he⟩, hi, hne⟩ := st
    exact ⟨⟨old, k e (by simp) _ he⟩, hi.at fun o q => k it (by simp) o q, hne⟩
  item := by
    intro X hP hw hK hc i pins s σ H E I hf st hg
    subst hP hw hK
    obtain ⟨⟨old, he⟩, hit, hne, hai, hae⟩ := st
    obtain ⟨xs, x, hq, hx⟩ := hg
    obtain ⟨its, rv, p, hz⟩ := I.tuple hq
    obtain ⟨u, hu, ru⟩ := rv.get hx
    have lx := (List.getElem?_eq_some_iff.mp hx).1
    have ll := rv.length
    have hel : e < s.heap.objs.size := Heap.lt_size he
    have hil : it < s.heap.objs.size := by
      obtain ⟨_, q, _⟩ := hit
      exact Heap.lt_size q
    have hT : s.heap.IsTuple a its.toArray := p
    refine wpAny_pyNext_enum_itemD (Draws.tuple (A := X.A.in1) (show X.A.in1.handled = none from I.ok.hd hc) it a hai its.toArray) he ⟨hit, hT⟩ (by rw [List.size_toArray]; omega) hne (by simp [hne, Ne.symm hae]) fun y h' tk hy ho st' hT' hsz hk => ?_
    have ey : y = u := by
      have e1 : its.toArray[i]? = some y := hy
      rw [List.getElem?_toArray, hu] at e1
      exact (Option.some.inj e1).symm
    subst ey
    refine ⟨_, rfl, wpAny_letOwnedTupleGo_enum (s := { s with heap := h', toks := tk + 1 }) ho fun h'' he' sb => ?_⟩
    have hT2 : h''.get? s.heap.objs.size = some { cls := .type "tuple", data := .seq #[.int i tk, y] } := (sb.2 _ (Nat.ne_of_gt hel)).trans hT'
    have new : ObjOk X.prog X.w (upd H s.heap.objs.size (.tup [.int (i : Nat), x])) h'' s.heap.objs.size (.tup [.int (i : Nat), x]) :=
      ⟨by show 2 ≤ sizeLine; decide, [.int i tk, y], .cons ⟨_, rfl⟩ (.cons ru .nil), ⟨_, hT2, rfl, _, rfl⟩⟩
    have I1 : Inv X pins σ (upd H s.heap.objs.size (.tup [.int (i : Nat), x])) { s with heap := h'', toks := tk + 1 } :=
      I.turnedNew (ch := [e, it]) (fun b ob hb q => (sb.2 b (fun z => hb (by simp [z]))).trans (hk b ob (fun z => hb (by simp [z])) (fun z => hb (by simp [z])) q)) hf (Nat.le_refl _) new
    refine ⟨.ref s.heap.objs.size, _, I1, rfl, ⟨_, x, rfl, I.hok.fresh (Nat.le_refl _), rfl, fun ys hy => by rw [I.tuple_inj hy hq]; exact hx⟩, ⟨⟨y, ?_⟩, st'.1.at fun o q => (sb.2 it (Ne.symm hne)).trans q, hne, hai, hae⟩, fun b hb => ?_⟩
    · have e1 : ((i + 1 : Nat) : Int) = (i : Int) + 1 := by omega
      rw [e1]
      exact he'
    · have hb' : b < s.heap.objs.size := by
        rcases (show b = e ∨ b = it by simpa using hb) with z | z
        · rw [z]; exact hel
        · rw [z]; exact hil
      rw [upd_ne (Nat.ne_of_lt hb')]
      exact (hf b hb).1
  done := by
    intro X hP hw hK hc i pins s σ H E I hf st hg
    subst hP hw hK
    obtain ⟨⟨old, he⟩, hit, hne, hai, hae⟩ := st
    obtain ⟨xs, hq, hx⟩ := hg
    obtain ⟨its, rv, p, hz⟩ := I.tuple hq
    obtain ⟨f0, f1, f2, f3, f4, f5⟩ := hf it (by simp)
    have hT : s.heap.IsTuple a its.toArray := p
    refine enum_ends (I.ok.hd hc) he hit hT (by rw [List.getElem?_toArray]; exact List.getElem?_eq_none_iff.mpr (by rw [← rv.length]; exact hx)) fun h' eb => ?_
    exact ⟨rfl, I.turned (t' := s.toks) (fun b o hb q => eb b o hb q) f0 f1 f3 f4 f5⟩
  self := fun A i s Q E st h => by
    obtain ⟨⟨_, he⟩, _⟩ := st
    exact wpAny_pyIter_enum he h
def iEnumT (K : PySem.W.Frag) (ta : TA) : TI := fun σ H R => ta σ H fun vs H1 => ∃ a xs, vs = [.ref a] ∧ SqT K H1 a xs ∧ R (IteT K a) H1
theorem pi_enumT {X : Cx} {e : Expr} {ta : TA} {p pos tpos : Pos} {elts : List Expr} {kk : Nat} (hg : Gl X "enumerate") (hm : X.mg "enumerate" = none) (ha : PA X [e] ta) (hs : starEach [e] X.env = [(false, eval e X.env)] := by rfl) :
    PI X (.Tuple elts kk tpos) (.Call (.Name "enumerate" p) [e] [] pos) (iEnumT X.K ta) := by
  refine ⟨fun pins s σ H R I h => ?_⟩
  refine Call_ (ld_blt I hg hm boot_enumerate (PyProof.Rows.callWith_type1 (thn (ha.run pos pins s σ H _ I h) fun us s1 z => ?_) hs rfl))
  obtain ⟨vs, H1, I1, r1, a, xs, ex, hq, q⟩ := z
  subst ex
  cases r1 with
  | cons r rr =>
    cases rr
    cases r
    obtain ⟨its, rv, p', hz⟩ := I1.tuple hq
    have hT : s1.heap.IsTuple a its.toArray := p'
    obtain ⟨ot, hot, _⟩ := id p'
    have hlt := Heap.lt_size hot
    refine enum_starts (begins_tuple a its.toArray) hT fun h' he hit hk => wpAny_pyIter_enum he ?_
    have I2 : Inv X pins σ H1 { s1 with heap := h' } := I1.kept (t' := s1.toks) hk
    refine ⟨s1.heap.objs.size + 1, [s1.heap.objs.size + 1, s1.heap.objs.size], _, _, H1, rfl, I2, turn_enumT a (s1.heap.objs.size + 1) s1.heap.objs.size,
      ⟨⟨.none, he⟩, ⟨_, hit, rfl, rfl⟩, Nat.succ_ne_self _, Nat.ne_of_lt hlt, Nat.ne_of_lt (Nat.lt_succ_of_lt hlt)⟩, fun b hb => ?_, q⟩
    have le : s1.heap.objs.size ≤ b := by
      rcases (show b = s1.heap.objs.size + 1 ∨ b = s1.heap.objs.size by simpa using hb) with z | z
      · rw [z]; exact Nat.le_add_right _ _
      · rw [z]; exact Nat.le_refl _
    exact I1.fpOk le (I1.hok.fresh le)
end My

set_option Elab.async false
set_option linter.all false
set_option maxRecDepth 100000
set_option maxHeartbeats 4000000
namespace My
open PySem PySem.Spec PyProof.Rows L2
/-! ### an own exception with one field -/
/-- what __init__ keeps: self.fld = value -/
def sp_init (K : PySem.W.Frag) (fld : Str) : Sp := fun vs H Q _ => ∃ (a C : Addr) (v : V), vs = [.ref a, v] ∧ OexC K C ∧ PySem.W.findIn K (.ref C) fld = some none ∧ H a = some (exo a C none) ∧
  ∀ dx, H dx = none → dx ≠ a → Q .non (upd (upd H dx (exd dx [(fld, v)])) a (exo a C (some dx)))
/-- what is known of the class of the name x, at C, its field fld -/
structure Ec (P : Program) (w : World) (K : PySem.W.Frag) (mg : Str → Option Value) (base : Heap) (x fld : Str) (C : Addr) : Prop where
  oc : OexC K C
  no : PySem.W.findIn K (.ref C) fld = some none
  g : mg x = some (.ref C)
  xf : XfC K C
  ini : ∃ (fI : Addr) (fd : FuncData), PySem.W.findIn K (.ref C) "__init__" = some (some (.ref fI)) ∧ PySem.W.typeIn K (.ref fI) = some (.type "function") ∧ FnOk P w K mg base CX0 1 fI fd ["self", fld] (sp_init K fld) ∧ Binds K fd ["self", fld] []
theorem upd_end {H : Hp} {a d : Addr} {o1 o2 o3 u : HO} (ha : H a = none) (hd : d ≠ a) : upd (del (upd (upd (upd H a o1) d o2) a o3) a) d u = upd H d u := by
  funext b
  by_cases e : b = d
  · subst e
    rw [upd_same, upd_same]
  · rw [upd_ne e, upd_ne e]
    by_cases f : b = a
    · subst f
      rw [del_same, ha]
    · rw [del_ne f, upd_ne f, upd_ne e, upd_ne f]
section
variable {X : Cx} {k : Nat} {x fld : Str} {C : Addr} {a : Expr} {ta : TA} {p pos : Pos}
theorem pmk_ec (T : Ec X.prog X.w X.K X.mg X.base x fld C) (hr : Room k X.A) (ha : PA X [a] ta) (hk : 2 ≤ k := by decide) (hg : Gl X x := by rfl) (hdb : (x == ("__debug__" : Str)) = false := by decide)
    (he : starEach (a :: []) X.env = (false, eval a X.env) :: starEach [] X.env := by rfl) (hpl : (backTo pos (starEach [] X.env)).any (·.1) = false := by rfl) :
    PMk X (.Call (.Name x p) [a] [] pos) (tMkO C (sp_init X.K fld) [] ta) := by
  obtain ⟨fI, fd, i1, i2, F, b⟩ := T.ini
  exact pmk_oex (p := p) (pos := pos) T.oc i1 i2 F (hr.mono hk) b .nil pass0 hg T.g ha hdb he hpl
end
/-- what is left once the argument is there -/
theorem mk_fill {P : Program} {w : World} {K : PySem.W.Frag} {mg : Str → Option Value} {base : Heap} {x fld : Str} {C : Addr} (T : Ec P w K mg base x fld C) {H1 : Hp} {v : V} {Q : XK}
    (q : ∀ d, H1 d = none → Q (.ref C) (some d) (upd H1 d (.xd [(fld, v)]))) :
    [v].length ≤ 1000 ∧ ∀ a, H1 a = none → sp_init K fld (.ref a :: ([v] ++ [])) (upd H1 a (exo a C none))
      (fun u H2 => u = .non ∧ ∃ (d : Addr) (fs : List (Str × V)), H2 a = some (exo a C (some d)) ∧ H2 d = some (exd d fs) ∧ H1 d = none ∧ Q (.ref C) (some d) (upd (del H2 a) d (.xd fs))) (fun _ _ _ => False) := by
  refine ⟨by show 1 ≤ 1000; decide, fun e he => ⟨e, C, v, rfl, T.oc, T.no, upd_same, fun dx h1 h2 => ?_⟩⟩
  have h3 : H1 dx = none := by rw [upd_ne h2] at h1; exact h1
  refine ⟨rfl, dx, [(fld, v)], upd_same, by rw [upd_ne h2, upd_same], h3, ?_⟩
  rw [upd_end he h2]
  exact q dx h3
/-! ### tuple * k -/
theorem tuple_mul_one (l : Addr) (items : Array Value) (n : Nat) (dd : Option Addr) (sl : Array (Option Value)) (x : Int) (u : Tok) (hx : x = 1) :
    Meets (Builtin.«tuple.__mul__» ⟨[.ref l, .int x u], []⟩) (fun _ R s => s.heap.get? l = some { cls := .type "tuple", dict := dd, data := .seq items n, slots := sl } ∧ R (.ok (.ret (Value.ref l))) s) :=
  .of_wp fun prog w A R s h => by
    subst hx
    obtain ⟨hp, g, d, tk, os⟩ := s
    obtain ⟨hl, h⟩ := h
    have f1 := AutoSeq1.idx_int
    wp_walk using AutoSeq1.wpAny_loadPart' hl
    have c1 : (items.isEmpty || (1 : Int) == 1) = true := by simp
    repeat (first
      | (refine wpAny_ite_true c1 ?_; wp_walk using AutoSeq1.wpAny_loadPart' hl)
      | (refine wpAny_ite_false (by decide) ?_; wp_walk using AutoSeq1.wpAny_loadPart' hl))
    exact ⟨_, rfl, h⟩
theorem tuple_mul_none (l : Addr) (items : Array Value) (n : Nat) (dd : Option Addr) (sl : Array (Option Value)) (x : Int) (u : Tok) (hx : x = 0) (hi : items.isEmpty = false) :
    Meets (Builtin.«tuple.__mul__» ⟨[.ref l, .int x u], []⟩) (fun _ R s => s.heap.get? l = some { cls := .type "tuple", dict := dd, data := .seq items n, slots := sl } ∧
      R (.ok (.ret (Value.ref s.heap.objs.size))) { s with heap := s.heap.push { cls := Value.type "tuple", data := Data.seq #[] }, toks := s.toks }) :=
  .of_wp fun prog w A R s h => by
    subst hx
    obtain ⟨hp, g, d, tk, os⟩ := s
    obtain ⟨hl, h⟩ := h
    have f1 := AutoSeq1.idx_int
    wp_walk using AutoSeq1.wpAny_loadPart' hl
    have c1 : (items.isEmpty || (0 : Int) == 1) = false := by rw [hi]; rfl
    have c2 : (decide ((0 : Int) ≤ 0) || items.isEmpty) = true := by simp
    repeat (first
      | (refine wpAny_ite_false (decide_eq_false (by rw [c1]; exact Bool.false_ne_true)) ?_; wp_walk using AutoSeq1.wpAny_loadPart' hl)
      | (refine wpAny_ite_true c2 ?_; wp_walk using AutoSeq1.wpAny_loadPart' hl)
      | (refine wpAny_ite_false (by decide) ?_; wp_walk using AutoSeq1.wpAny_loadPart' hl))
    exact ⟨_, rfl, h⟩
def rRepA (K : PySem.W.Frag) : R2 := fun x y H Q => ∃ l k xs, x = .ref l ∧ y = .int k ∧ SqT K H l xs ∧ xs ≠ [] ∧ 0 ≤ k ∧ k ≤ 1000 ∧ xs.length ≤ 1000 ∧
  (k = 1 → Q (.ref l) H) ∧ (k ≠ 1 → ∀ p, H p = none → Q (.ref p) (upd H p (.tup (List.replicate k.toNat xs).flatten)))
theorem op_repA {X : Cx} : OpR X (binaryOp .Mult) (rRepA X.K) := by
  intro pins s σ H x y v u Q I rx ry h
  obtain ⟨l, k, xs, rfl, rfl, hT, hne, h1, h2, hz, q1, q2⟩ := h
  by_cases big : 2 ≤ k
  · exact op_repT pins s σ H _ _ v u Q I rx ry ⟨l, k, xs, rfl, rfl, hT, hne, big, h2, hz, q2 (by omega)⟩
  cases rx
  obtain ⟨t, rfl⟩ := ry
  obtain ⟨its, r, ⟨⟨cls, dd, data, sl⟩, ho, hc, n, hd⟩, hs⟩ := I.tuple hT
  simp only at hc hd
  subst hc hd
  have hle : its.length = xs.length := r.length.symm
  have hi : its.toArray.isEmpty = false := by
    cases its with
    | nil => exact absurd (List.eq_nil_of_length_eq_zero hle.symm) hne
    | cons a b => rfl
  by_cases one : k = 1
  · subst one
    refine wpAny_binaryOp_repeat_ref (T := "tuple") (U := "int") (by decide) ⟨_, ho, rfl⟩ (fun s' => typeIs_int s' _ t) noFill_tuple_mul F.fills_int_mul F.slot_int_rmul repeat_tuple F.slot_int_index.lookup
      (call_meets F.slot_int_rmul (typeIs_int s _ t) F.entry_int_rmul (F.args_int_rmul_2 _ _) (int_rmul_tuple _ t l its.toArray n dd sl)
        ⟨ho, rfl, ⟨_, ho, rfl⟩, call_meets F.slot_tuple_mul ⟨_, ho, rfl⟩ F.entry_tuple_mul (F.args_tuple_mul_2 _ _) (tuple_mul_one l its.toArray n dd sl _ t rfl) ⟨ho, ?_⟩⟩)
    exact ⟨.ref l, H, I, rfl, q1 rfl⟩
  · have zero : k = 0 := by omega
    subst zero
    refine wpAny_binaryOp_repeat_ref (T := "tuple") (U := "int") (by decide) ⟨_, ho, rfl⟩ (fun s' => typeIs_int s' _ t) noFill_tuple_mul F.fills_int_mul F.slot_int_rmul repeat_tuple F.slot_int_index.lookup
      (call_meets F.slot_int_rmul (typeIs_int s _ t) F.entry_int_rmul (F.args_int_rmul_2 _ _) (int_rmul_tuple _ t l its.toArray n dd sl)
        ⟨ho, rfl, ⟨_, ho, rfl⟩, call_meets F.slot_tuple_mul ⟨_, ho, rfl⟩ F.entry_tuple_mul (F.args_tuple_mul_2 _ _) (tuple_mul_none l its.toArray n dd sl _ t rfl hi) ⟨ho, ?_⟩⟩)
    refine ⟨.ref s.heap.objs.size, _, I.laid (t' := s.toks) (o := .tup []) (fun b ob q => Heap.get?_push_of_some _ q) (Nat.le_refl _) ?_, rfl, q2 one _ (I.hok.fresh (Nat.le_refl _))⟩
    exact ⟨by show 0 ≤ sizeLine; exact Nat.zero_le _, [], .nil, IsTup.new _ _⟩
end My

set_option Elab.async false
set_option linter.all false
set_option maxRecDepth 100000
set_option maxHeartbeats 4000000
namespace My
open PySem PySem.Spec PyProof.Rows L2
/-! ### several except clauses, with a name for the error or without one -/
abbrev Suite := Addr → Value → Option Addr → TS
/-- behind a clause with a name the name's slot is empty -/
def emptied (i : Nat) (D : Ends) : Ends where
  nx := fun σ H => D.nx (σ.set i none) H
  rt := D.rt
  bk := fun σ H => D.bk (σ.set i none) H
  ct := fun σ H => D.ct (σ.set i none) H
def within (o : Option Nat) (ts : Suite) (a : Addr) (cls : Value) (d : Option Addr) (D : Ends) (σ : L2.St) (H : Hp) : Prop := match o with
  | none => ts a cls d D σ H
  | some i => ts a cls d (emptied i D) (σ.set i (some (.ref a))) H
def wCl (K : PySem.W.Frag) (out : WX) (D : Ends) : List (Value × Option Nat × Suite) → WX
  | [] => out
  | (c, o, ts) :: r => fun cls d σ H => ∃ b, PySem.W.exmOne K cls c = some b ∧ (b = true → ∀ a, H a = none → within o ts a cls d D σ H) ∧ (b = false → wCl K out D r cls d σ H)
def nameOk (X : Cx) : Option Nat → Option Str → Prop
  | none, none => True
  | some i, some n => X.N[i]? = some n ∧ X.env.kindOf n = some .local
  | _, _ => False
inductive Cls7 (X : Cx) : List ExceptHandler → List (Value × Option Nat × Suite) → Prop
  | nil : Cls7 X [] []
  | cons {x : Str} {c : Value} {o : Option Nat} {n : Option Str} {ts : Suite} {b₀ : Stmt} {suite : List Stmt} {p1 p2 : Pos} {hds : List ExceptHandler} {l : List (Value × Option Nat × Suite)} (hc : Names X x c) (hn : nameOk X o n)
      (hsu : ∀ (a : Addr) (oe : Obj) (cls : Value) (d : Option Addr) (pn : List (Addr × Obj)), Zc cls d oe → (∃ vs, oe.data = .fields vs) → PSs (X.suite a ((a, oe) :: pn)) (b₀ :: suite) (ts a cls d)) (r : Cls7 X hds l) :
      Cls7 X (.ExceptHandler (some (.Name x p1)) n (b₀ :: suite) p2 :: hds) ((c, o, ts) :: l)
section
variable {X : Cx} {body : List Stmt} {h₀ : ExceptHandler} {hds : List ExceptHandler} {l : List (Value × Option Nat × Suite)} {pos : Pos} {tb : WX → TS} {out : WX}
theorem ps_try7 (hs : X.stack = X.env :: X.outer) (hf : X.env.frame = some X.env.locals) (hN : X.N.Nodup) (tk : Takes X out)
    (hb : ∀ (W : WX) (pn : List (Addr × Obj)) (xe : Value → Shared → Prop), Takes (X.tr pn xe) W → PassesOwn (model X.prog X.w) X.A X.env xe → PSs (X.tr pn xe) body (tb W))
    (hh : Cls7 X (h₀ :: hds) l) : PS X (.Try body (h₀ :: hds) [] [] pos) (fun D σ H => tb (wCl X.K out D l) D σ H) := by
  refine ⟨fun pins s σ H D I h => ?_⟩
  have ok := I.ok
  have fr : X.A.frames = some (X.env :: X.outer) := by rw [ok.frames, hs]
  let catcher : Value → Shared → Prop := fun e sA =>
    wpAny (model X.prog X.w) X.A (noteFrame e X.env) (fun _ sB =>
      wpAny (model X.prog X.w) X.A (setFlight e none) (fun _ sC =>
        wpAny (model X.prog X.w) X.A (handleBy e X.env (h₀ :: hds)) (SP X pins D) X.xe sC) X.xe sB) X.xe sA
  refine wpAny_Try_except ?_
  have run := (hb (wCl X.K out D l) (X.pn ++ pins) catcher (fun u s' xx => ?_) PassesOwn.looking).run [] s σ H D (I.toTry _) h
  · refine wpAny_mono run (fun fl s1 hsp => ?_) (fun e s1 he => he)
    match fl, hsp with
    | .next, ⟨σ', H', J', q⟩ => exact wpAny_execs_nil ⟨σ', H', J'.ofTry ok, q⟩
    | .brk, ⟨σ', H', J', q⟩ => exact ⟨σ', H', J'.ofTry ok, q⟩
    | .cont, ⟨σ', H', J', q⟩ => exact ⟨σ', H', J'.ofTry ok, q⟩
    | .ret _, ⟨v, σ', H', J', r, q⟩ => exact ⟨v, σ', H', J'.ofTry ok, r, q⟩
  · obtain ⟨a, B, sI, pins', σ', H', cls, d, rfl, J', nb, up, sky, na, os, ag, w⟩ := xx
    have J : Inv X pins σ' H' sI := J'.ofTry ok
    rw [hs] at sky
    show wpAny (model X.prog X.w) X.A (noteFrame (.ref a) X.env) _ _ _
    refine Sky.land Zc.steady fr hf sky fun hA fA uA => ?_
    have JA : Inv X pins σ' H' { s' with heap := hA } := J.landed nb fA.1 (up.trans uA) os ag
    obtain ⟨oA, vA, eA, zA, dA⟩ := fA.there
    have away : a ∉ frs (X.env :: X.outer) := fun hm => by
      obtain ⟨_, o', e', hnf⟩ := fA.2.2.1.mem hm
      rw [eA] at e'
      cases e'
      exact hnf _ dA
    have nL : a ≠ X.env.locals := fun z => away (List.mem_filterMap.mpr ⟨X.env, List.mem_cons_self, by rw [hf, z]⟩)
    have nF : a ∉ X.fs := fun hm => by
      obtain ⟨e, he, q⟩ := List.mem_filterMap.mp hm
      exact away (List.mem_filterMap.mpr ⟨e, List.mem_cons_of_mem _ he, q⟩)
    have SA := JA.suite eA dA na nL nF
    have look : PySem.W.Looks (model X.prog X.w) hA (typeOf (.ref a)) cls := fun A Q E s k q => wpAny_typeOf_ref (k _ _ eA) (by rw [zA.1]; exact q)
    have go : ∀ {hd2 : List ExceptHandler} {l2 : List (Value × Option Nat × Suite)}, Cls7 X hd2 l2 → wCl X.K out D l2 cls d σ' H' →
        wpAny (model X.prog X.w) X.A (handleBy (.ref a) X.env hd2) (SP X pins D) X.xe { s' with heap := hA } := by
      intro hd2 l2 hk
      induction hk with
      | nil =>
        intro w
        refine wpAny_handleBy_nil ?_
        obtain ⟨_, _, _, oe, vs, T, oT, ts', he, hz, hd, h1, hr⟩ := id fA
        unfold PySem.passOn
        refine wpAny_bind (wpAny_field he hd h1 ?_)
        have nn : ¬ ((Value.ref T == Value.none) = true) := by simp
        rw [if_neg nn]
        have last : wpAny (model X.prog X.w) X.A (setFlight (.ref a) X.env.frame)
            (fun _ s4 => wpAny (model X.prog X.w) X.A (throw (.ref a) : Sem Flow) (SP X pins D) X.xe s4) X.xe { s' with heap := hA } := by
          rw [hf]
          refine HandSPX.setFlight_upZ fA fun hB hhB uB => wpAny_throw (tk _ _ ?_)
          refine ⟨a, B, sI, pins, σ', H', cls, d, rfl, J, nb, (up.trans uA).trans uB, .inr (.inr ?_), na, os, ag, w⟩
          rw [hs]
          exact hhB
        first
          | exact wpAny_bind (wpAny_pure (wpAny_bind last))
          | exact wpAny_bind last
      | @cons x c o n ts b₀ suite p1 p2 hd3 l3 hc hn hsu r ih =>
        intro w
        obtain ⟨b, hb1, yes, no⟩ := w
        refine wpAny_handleBy_cons (codeAny_handlers_test ?_) (by intro z; cases z)
        have match_ := PySem.W.exm_one (M := model X.prog X.w) JA.kIn look hb1
        have named : ∀ {Q E : Value → Shared → Prop}, Q c { s' with heap := hA } → wpAny (model X.prog X.w) (X.A.mark (some (.ref a))) (eval (.Name x p1) X.env) Q E { s' with heap := hA } := by
          intro Q E q
          obtain ⟨hg, hdbg, hm | ⟨hm, hv, hnn⟩⟩ := hc
          · exact ld_glob (X := X.suite a ((a, oA) :: (X.pn ++ pins))) SA hg hm q hdbg
          · exact ld_blt (X := X.suite a ((a, oA) :: (X.pn ++ pins))) SA hg hm hv q hnn hdbg
        refine named (match_.here ?_)
        cases b with
        | false =>
          show wpAny _ X.A (handleBy (.ref a) X.env hd3) _ _ _
          exact ih (no rfl)
        | true =>
          have want := yes rfl a na
          match o, n, hn, want with
          | none, none, _, want =>
            refine codeAny_handlers_suite ?_
            refine HandSPX.lands_againZ fA fun hB fB uB => ?_
            have JB : Inv X pins σ' H' { s' with heap := hB } := J.landed nb fB.1 ((up.trans uA).trans uB) os ag
            obtain ⟨oB, vB, eB, zB, dB⟩ := fB.there
            have SB := JB.suite eB dB na nL nF
            refine wpAny_mono ((hsu a oB cls d (X.pn ++ pins) zB ⟨_, dB⟩).run [] _ _ H' _ SB want) (fun fl s6 hsp => ?_) (fun _ _ z => z.elim)
            match fl, hsp with
            | .next, ⟨σ6, H6, S6, q6⟩ => exact ⟨_, _, S6.unsuite ok, q6⟩
            | .brk, ⟨σ6, H6, S6, q6⟩ => exact ⟨_, _, S6.unsuite ok, q6⟩
            | .cont, ⟨σ6, H6, S6, q6⟩ => exact ⟨_, _, S6.unsuite ok, q6⟩
            | .ret _, ⟨v6, σ6, H6, S6, r6, q6⟩ => exact ⟨_, _, _, S6.unsuite ok, r6, q6⟩
          | some i, some n, hn, want =>
            obtain ⟨hi, hln⟩ := hn
            refine codeAny_handlers_suite_as ?_
            refine HandSPX.lands_againZ fA fun hB fB uB => ?_
            have JB : Inv X pins σ' H' { s' with heap := hB } := J.landed nb fB.1 ((up.trans uA).trans uB) os ag
            obtain ⟨oB, vB, eB, zB, dB⟩ := fB.there
            have SB := JB.suite eB dB na nL nF
            refine store_ok (X := X.suite a ((a, oB) :: (X.pn ++ pins))) (v := .ref a) SB hN hi (.inl hln) rfl (fun s5 S5 => ?_) (.inr hln)
            refine wpAny_mono ((hsu a oB cls d (X.pn ++ pins) zB ⟨_, dB⟩).run [] s5 _ H' _ S5 want) (fun fl s6 hsp => ?_) (fun _ _ z => z.elim)
            have done : ∀ {σ6 : L2.St} {H6 : Hp} {Q : Shared → Prop}, Inv (X.suite a ((a, oB) :: (X.pn ++ pins))) [] σ6 H6 s6 → (∀ s7, Inv X pins (σ6.set i none) H6 s7 → Q s7) →
                wpAny (model X.prog X.w) X.A (do bindName X.env n .none; unbindBehindTheSuite X.env n p2) (fun _ s7 => Q s7) X.xe s6 :=
              fun {σ6 H6 Q} S6 hq => gone_ok (S6.unsuite ok) hN hi hln hq
            match fl, hsp with
            | .next, ⟨σ6, H6, S6, q6⟩ => exact done S6 fun s7 J7 => ⟨_, _, J7, q6⟩
            | .brk, ⟨σ6, H6, S6, q6⟩ => exact done S6 fun s7 J7 => ⟨_, _, J7, q6⟩
            | .cont, ⟨σ6, H6, S6, q6⟩ => exact done S6 fun s7 J7 => ⟨_, _, J7, q6⟩
            | .ret _, ⟨v6, σ6, H6, S6, r6, q6⟩ => exact done S6 fun s7 J7 => ⟨_, _, _, J7, r6, q6⟩
    exact go hh w
end
end My

set_option Elab.async false
set_option linter.all false
set_option maxRecDepth 100000
set_option maxHeartbeats 4000000
namespace My
open PySem PySem.Spec PyProof.Rows L2 LamX
/-! ### a lambda handed to a def that catches what it raises: the wish is told at the catcher's own slots -/
section
variable {X : Cx} {pins : List (Addr × Obj)} {σ : L2.St} {H : Hp} {s : Shared}
/-- the context of the def that got the lambda -/
abbrev gotCx (X : Cx) (Ng : List Str) (qg : Str) (sg : Scope) (g : Addr) (cdg : Value) (s : Shared) (H : Hp) : Cx :=
  cxOf C8.CX0 X.prog X.w X.K X.mg X.base Ng qg sg g cdg X.A X.stack s H C8.E0
theorem pe_actS {Ng : List Str} {qg : Str} {sg : Scope} {g f c' : Addr} {cdg pm ctv : Value} {params : Arguments} {body : Expr} {scope : Scope} {k i : Nat} {a : Str} {pn : List (Addr × Obj)} {xe : Value → Shared → Prop} {W : WX} {tb : XK → TE} {p1 p2 : Pos}
    (I : Inv X pins σ H s) (L : LamS X.env.scope scope)
    (hf : s.heap.get? f = some (PySem.W.kla_obj "<lambda>" (X.env.qual ++ "<lambda>") params body scope (cloFrom X.env.cells scope.names []) pm c' ctv))
    (hfn : H f = none) (hfr : f ∉ frs X.stack)
    (hbind : bindArgs (PySem.W.kla_fn "<lambda>" (X.env.qual ++ "<lambda>") params body scope (cloFrom X.env.cells scope.names []) pm (.ref c') ctv) ⟨[], []⟩ = pure [])
    (tk : Takes ((gotCx X Ng qg sg g cdg s H).tr pn xe) W) (hr : Room (k + 1) (X.A.deeper (envOfC qg sg s.heap.objs.size g cdg)))
    (hbody : ∀ (E : XK) (A : Around) (outer : List Env) (s : Shared) (H : Hp), Room k (A.deeper (lamEnv X scope s.heap.objs.size f c')) → PE (lamCx X A outer s H E scope f c') body (tb E))
    (hN : Ng[i]? = some a) (hv : Vis sg a) (hd : (a == ("__debug__" : Str)) = false := by decide) (hcd : (a == ("__classdict__" : Str)) = false := by decide) :
    PE ((gotCx X Ng qg sg g cdg s H).tr pn xe) (.Call (.Name a p1) [] [] p2)
      (fun σZ HZ Q => σZ[i]? = some (some (.ref f)) ∧ HZ c' = some (CodeO c' (X.env.qual ++ "<lambda>")) ∧ tb (WE W σZ) σ HZ Q) := by
  refine ⟨fun pinsZ sZ σZ HZ Q IZ h => ?_⟩
  obtain ⟨hs, hc, ht⟩ := h
  have name := (pe_var (X := (gotCx X Ng qg sg g cdg s H).tr pn xe) (pos := p1) (i := i) hN hv hd hcd).run pinsZ sZ σZ HZ (fun v H1 => v = .ref f ∧ H1 = HZ) IZ ⟨.ref f, hs, rfl, rfl⟩
  refine wpAny_Call_Name_kw (thn name fun u s1 z => ?_)
  obtain ⟨v, H1, I1, r1, ev, eH⟩ := z
  subst ev
  rw [eH] at I1
  obtain rfl : u = Value.ref f := r1
  have no : f ∉ ([] : List Addr) := by simp
  have of1 := I1.base.keep f _ hf hfn hfr no
  refine PySem.W.callWith_F0 ⟨_, _, _, _, of1⟩ ?_
  have un : Un (frs X.stack) [] H HZ s.heap s1.heap := I1.base
  obtain ⟨⟨oc, vs, t, hoc, hdc, hvc⟩, _, _⟩ := I1.hok c' _ hc
  let E : XK := WE W σZ
  have run : codeAny (model X.prog X.w) (X.A.deeper (envOfC qg sg s.heap.objs.size g cdg)) (.call (.ref f) ⟨[], []⟩)
      (CR (L2.CX X.prog X.w) (envOfC qg sg s.heap.objs.size g cdg :: X.stack) X.prog X.w HZ s1 Q E) s1 := by
    refine PySem.W.kla_callFunE hr.depth of1 rfl L.co L.gen rfl ⟨c', oc, vs, t, rfl, hoc, hdc, hvc⟩ ?_
    rw [hbind]
    have own1 : ∀ y ∈ scope.names, y.2 ≠ .cell := fun y hy => (L.own y hy).2
    refine wpAny_pure (wpAny_newFunctionEnv own1 (fun y hy => absurd hy (by simp)) (fun h₁ hns hsb => ⟨I1.nolimit.fresh _ hsb, ?_⟩) L.kind)
    show codeAny _ _ (.expr body (lamEnv X scope s1.heap.objs.size f c')) _ _
    have kp : ∀ b o, s1.heap.get? b = some o → h₁.get? b = some o := fun b o e => hsb.extBut b o (Nat.ne_of_lt (Heap.lt_size e)) (Heap.get?_push_of_some _ e)
    have J := lam_start2 (A := X.A.deeper (envOfC qg sg s.heap.objs.size g cdg)) (outer := envOfC qg sg s.heap.objs.size g cdg :: X.stack) (E := E) (f := f) (c' := c')
      (tk := s1.toks + ([] : List (Str × Value)).length) I L I1.env0 hr.hd un hns kp
    refine PySem.W.kla_codeExpr (wpAny_mono ((hbody E _ _ s1 HZ (hr.deeper _)).run [] _ _ HZ Q J ht) (fun v s' hq => ?_) fun e s' hq => hq)
    obtain ⟨w', H', J', rv, q⟩ := hq
    exact ⟨w', H', J'.os, J'.bare, J'.base, J'.hok, rv, q⟩
  have leaves := passAt tk σZ
  refine wpAny_call (codeAny_mono run fun r s' hq => ?_)
  match r, hq with
  | .error e, hq => exact leaves pinsZ HZ s1 e s' I1 hq
  | .ok (.ret u), hq => exact I1.after hq
end
/-- the def that calls what it got, and catches -/
def GivesS (X : Cx) (Ng : List Str) (x : Str) (sg : Scope) (g : Addr) (cdg : Value) (bg : List Stmt) (a : Str) (q : Str) (TT : (XK → Hp → VK → Prop) → Hp → VK → Prop) : Prop :=
  ∀ (f c' : Addr) (s : Shared) (H : Hp) (Q : VK) (tl : XK → Hp → VK → Prop),
    (∀ (W : WX) (pn : List (Addr × Obj)) (xe : Value → Shared → Prop) (p1 p2 : Pos), Takes ((gotCx X Ng x sg g cdg s H).tr pn xe) W →
      PE ((gotCx X Ng x sg g cdg s H).tr pn xe) (.Call (.Name a p1) [] [] p2) (fun σZ HZ Q => σZ[0]? = some (some (.ref f)) ∧ HZ c' = some (CodeO c' q) ∧ tl (WE W σZ) HZ Q)) →
    H c' = some (CodeO c' q) → TT tl H Q →
    ∃ t, PSs (gotCx X Ng x sg g cdg s H).nox bg t ∧ t { nx := fun _ H' => Q .non H', rt := Q } (L2.start Ng [.ref f]) H
section
variable {X : Cx}
theorem pe_lamS {T : List (Addr × Str)} {TT : (XK → Hp → VK → Prop) → Hp → VK → Prop} {x a : Str} {g c P : Addr} {k : Nat} {fd : FuncData} {st : Stmt} {Ng : List Str}
    {params : Arguments} {body : Expr} {scope : Scope} {t : XK → TE} {p lpos pos : Pos} (F : Fun X.K x x st g fd) (hm : X.mg x = some (.ref g)) (hb : L2.Binds X.K fd [a] [])
    (Sg : FnScope Ng [a] (defScope st)) (hNg : Ng[0]? = some a) (hva : Vis (defScope st) a) (hG : ∀ cdv, GivesS X Ng x (defScope st) g cdv (defBody st) a (X.env.qual ++ "<lambda>") TT)
    (TB : TabB X.base X.mg c P) (hcode : X.env.code = .ref c) (hmT : (P, X.env.qual ++ "<lambda>") ∈ T) (hu : ∀ p ∈ T, p.1 = P → p.2 = X.env.qual ++ "<lambda>")
    (hr : Room (k + 2) X.A) (L : LamS X.env.scope scope) (hdef : defaultsOf params X.env = ([], []))
    (hbind : ∀ (q : Str) (cl : List (Str × Addr)) (pm cv ctv : Value), bindArgs (PySem.W.kla_fn "<lambda>" q params body scope cl pm cv ctv) ⟨[], []⟩ = pure [])
    (hbody : ∀ (A : Around) (outer : List Env) (s : Shared) (H : Hp) (E : XK) (f c' : Addr), Room k (A.deeper (lamEnv X scope s.heap.objs.size f c')) → PE (lamCx X A outer s H E scope f c') body (t E))
    (hg : Gl X x := by rfl) (hdb : (x == ("__debug__" : Str)) = false := by decide) (hd : (a == ("__debug__" : Str)) = false := by decide) (hcd : (a == ("__classdict__" : Str)) = false := by decide) :
    PE X (.Call (.Name x p) [.Lambda params body scope lpos] [] pos) (tLam T TT t) := by
  obtain ⟨oc, od, kV, doc, pm, an, cdv, ct, osl, rfl, lk, hcg⟩ := F.ex
  refine ⟨fun pins s σ H Q I h => ?_⟩
  obtain ⟨hT, h⟩ := h
  refine wpAny_Call_Name_kw (ld_glob I hg hm ?_ hdb)
  refine PySem.W.callWith_K (h₀ := X.base) I.ok.mod.kin F.kp ?_ (by rfl) (by rfl)
  have made := lam_make2 (params := params) (body := body) (scope := scope) (pos := lpos) (E := X.xe) (Q := fun v s' => ∃ f c' pm ctv H1, v = .ref f ∧ Inv X pins σ H1 s' ∧ ExtN H H1 ∧ Tabs T H1 ∧
      s'.heap.get? f = some (PySem.W.kla_obj "<lambda>" (X.env.qual ++ "<lambda>") params body scope (cloFrom X.env.cells scope.names []) pm c' ctv) ∧ H1 f = none ∧ f ∉ frs X.stack ∧ H1 c' = some (CodeO c' (X.env.qual ++ "<lambda>")))
    I TB hcode hmT hu hT hdef (L.has I.ok) fun f c' pm ctv H1 s' a1 a2 a3 a4 a5 a6 a7 => ⟨f, c', pm, ctv, H1, rfl, a1, a2, a3, a4, a5, a6, a7⟩
  show wpAny _ _ (spliced ((false, eval (.Lambda params body scope lpos) X.env) :: backTo pos (starEach [] X.env))) _ _ s
  refine Calls.spliced_cons (thn made fun v s' z => ?_)
  obtain ⟨f, c', pm', ctv, H1, rfl, I1, eN, T1, hf, hfn, hfr, hco⟩ := z
  refine Calls.spliced_nil ⟨I1.kIn, ?_⟩
  have run : codeAny (model X.prog X.w) X.A (.call (.ref g) ⟨[.ref f], []⟩) (CR C8.CX0 X.stack X.prog X.w H1 s' Q C8.E0) s' := by
    refine run_ofS (N := Ng) (ps := [a]) (us := [.ref f]) (vs := [.ref f]) lk hcg Sg hr I1.env0 (hb s' [.ref f] I1.kIn rfl) (.cons rfl .nil) rfl fun hr' => ?_
    have inner := hG cdv f c' s' H1 Q (fun E H' Q' => t E σ H' Q') (fun W pn xe p1 p2 tk => pe_actS (i := 0) I1 L hf hfn hfr (hbind _ _ _ _ _) tk hr' (fun E A outer s H hr2 => hbody A outer s H E f c' hr2) hNg hva hd hcd) hco (h H1 eN T1)
    obtain ⟨t', ht', hq'⟩ := inner
    exact ⟨t', ht'.nox, hq'⟩
  refine wpAny_call (codeAny_mono run fun r s2 hq => ?_)
  match r, hq with
  | .error e, hq => exact (show False from hq).elim
  | .ok (.ret u), hq => exact I1.after hq
end
end My

set_option Elab.async false
set_option linter.all false
set_option maxRecDepth 100000
set_option maxHeartbeats 4000000
namespace PySem
namespace HandSPX
open Builtin
/-! ### a class of errors called with keywords: they go on to its own __init__ -/
section
variable {P : Program} {w : World} {A : Around} {U : Value → Shared → Prop} {R : Result → Shared → Prop} {hp : Heap} {gs : Array GenState} {dr : Drawn} {tk : Nat} {os : OsState} {us : List Value} {ks : List (Str × Value)} {ini : Addr}
  {nm qn : Str} {C nsp : Addr} {bases tail tailB : List Value} {dct : Bool} {slN : List Str} {subs : List Value} {abs : Bool} {cl : Option Bool} {cd : Option Addr} {a0 a1 a2 a3 a5 : Option Value} {T nw it : String}
  (F : ExcBaseFacts T nw it tailB) (same : ∀ y : String, tail.contains (.type y) = tailB.contains (.type y)) (at_ : hp.get? C = some (excClassObj nm qn C nsp bases tail dct slN subs abs cl cd a0 a1 a2 a3 a5 nw))
include F same at_
/-- what __new__ is asked first -/
theorem kw_check {Q : Unit → Shared → Prop} (q : Q () ⟨hp, gs, dr, tk, os⟩) : wpAny (model P w) A (checkBuiltinCall nw { pos := .ref C :: us, kw := ks }) Q U ⟨hp, gs, dr, tk, os⟩ := by
  have top : (Value.ref C :: tail).contains (.type T) = true := by rw [List.contains_cons, same, F.hasB, Bool.or_true]
  have star := F.noStar
  unfold checkBuiltinCall
  simp only [F.newKind, F.newSplit, F.newRow]
  repeat (first | refine wpAny_loadPart_at at_ ?_ | (refine wpAny_isSubtype_exc at_ ?_; rw [top]) | refine wpAny_staticBase_exc at_ ?_ | refine wpAny_madeBy_exc at_ ?_ | simp only [bne_self_eq_false, Bool.false_eq_true, if_false] | wp_step)
  exact q
/-- __new__ looks at no keyword -/
theorem kw_new (q : R (.ok (.ret (.ref (hp.objs.size + 1)))) ⟨(hp.push (W.kdv_tup us)).push (excO C hp.objs.size), gs, dr, tk, os⟩) (few : us.length ≤ sizeLine) :
    codeAny (model P w) A (.builtin nw { pos := .ref C :: us, kw := ks }) R ⟨hp, gs, dr, tk, os⟩ := by
  have ends := F.ends
  have top : (Value.ref C :: tail).contains (.type T) = true := by rw [List.contains_cons, same, F.hasB, Bool.or_true]
  have noA : (Value.ref C :: tail).contains (.type "AttributeError") = false := by rw [List.contains_cons, same, F.noAttr]; exact rfl
  have noN : (Value.ref C :: tail).contains (.type "NameError") = false := by rw [List.contains_cons, same, F.noName]; exact rfl
  refine codeAny_builtinAt F.entry ?_; unfold Builtin.«BaseException.__new__»
  refine wpAt_bind (show wpAt _ _ _ (stack >>= _) _ _ _ from wpAt_bind (wpAt_stack fun _ _ => wpAt_of_wpAny ?_))
  wp_walk
  refine wpAt_of_wpAny ?_; rw [F.owner]
  repeat (first | with_reducible refine wpAny_madeHere_exc F.canon at_ ?_ | with_reducible refine wpAny_loadPart_at at_ ?_ | (with_reducible refine wpAny_isSubtype_exc at_ ?_; first | rw [top] | rw [noA] | rw [noN]) | wp_step)
  show R _ _; rw [Heap.size_push]; exact q
variable (few : us.length ≤ sizeLine) (lk : W.Looks (model P w) hp (typeLookup (.ref C) "__init__") (some (.ref ini))) (bd : ∀ y, W.Looks (model P w) hp (bindSpecial (.ref ini) y) (.ref ini, [y]))
include few lk bd
/-- type's call: __new__, then the own __init__ with the keywords -/
theorem kw_type {Q : Fin → Shared → Prop} (q : codeAny (model P w) A (.call (.ref ini) ⟨.ref (hp.objs.size + 1) :: us, ks⟩)
      (fun r z => match r with | .error e => U e z | .ok (.ret v) => v = .none ∧ Q (.done (.ret (.ref (hp.objs.size + 1)))) z | .ok _ => False) ⟨(hp.push (W.kdv_tup us)).push (excO C hp.objs.size), gs, dr, tk, os⟩) :
    wpAny (model P w) A (Builtin.«type.__call__» { pos := .ref C :: us, kw := ks }) Q U ⟨hp, gs, dr, tk, os⟩ := by
  repeat (first | with_reducible refine wpAny_loadPart_at at_ ?_ | with_reducible refine wpAny_madeBy_exc at_ ?_ | wp_step)
  refine codeAny_call_builtin_code (Code.quiet_builtin _ F.quiet) (kw_check F same at_ (kw_new F same at_ (show wpAny _ _ _ _ _ _ from ?_) few))
  have up : ∀ b o, hp.get? b = some o → ((hp.push (W.kdv_tup us)).push (excO C hp.objs.size)).get? b = some o := fun _ _ e => Heap.get?_push_of_some _ (Heap.get?_push_of_some _ e)
  have atN := up _ _ at_
  have new : ((hp.push (W.kdv_tup us)).push (excO C hp.objs.size)).get? (hp.objs.size + 1) = some (excO C hp.objs.size) := by heap_get
  have own : (Value.ref C :: tail).contains (.ref C) = true := by rw [List.contains_cons]; simp
  have lk1 := lk.keeps up
  have bd1 := (bd (.ref (hp.objs.size + 1))).keeps up
  unfold isInstance
  repeat (first | with_reducible refine wpAny_loadPart_at new ?_ | (with_reducible refine wpAny_isSubtype_exc atN ?_; rw [own]) | wp_step)
  refine (show wpAny _ _ (typeLookup (.ref C) _) _ _ _ from lk1.at (wpAny_holding (wpAny_bind (bd1.at (wpAny_bind (wpAny_call (codeAny_mono q fun r z y => ?_)))))))
  match r, y with
  | .error e, y => exact y
  | .ok (.ret v), ⟨e, y⟩ =>
    subst e
    first | exact wpAny_pure (wpAny_pure y) | (wp_walk; exact y)
/-- C(.., k = v, ..) -/
theorem kw_call (q : codeAny (model P w) (A.under (.builtin "type.__call__" ⟨.ref C :: us, ks⟩)) (.call (.ref ini) ⟨.ref (hp.objs.size + 1) :: us, ks⟩) (W.InitBack (hp.objs.size + 1) R) ⟨(hp.push (W.kdv_tup us)).push (excO C hp.objs.size), gs, dr, tk, os⟩) :
    codeAny (model P w) A (.call (.ref C) ⟨us, ks⟩) R ⟨hp, gs, dr, tk, os⟩ := by
  have l1 := tc_lookup
  have l2 := tc_bind (.ref C)
  have ty : (⟨hp, gs, dr, tk, os⟩ : Shared).TypeIs (.ref C) "type" := ⟨_, at_, rfl⟩
  refine codeAny_of_tree (show wpAny _ _ (callAny (.ref C) _) _ _ _ from ?_)
  repeat (any_goals (first | assumption | with_reducible refine wpAny_loadPart_at at_ ?_ | wp_step))
  refine ⟨rfl, codeAny_call_builtin_at (Code.quiet_builtin _ (by decide +kernel)) entry_typeCall (wpAny_check_type_call_sub at_ (kw_type F same at_ few lk bd (codeAny_mono q fun r z y => ?_)))⟩
  match r, y with
  | .error e, y => exact y
  | .ok (.ret v), y => exact y
end
end HandSPX
end PySem

namespace PySem.W
open PySem PySem.Spec PySem.Calls PyProof.Rows
section
variable {prog : Program} {w : World} {A : Around} {E : Value → Shared → Prop} {s : Shared} {K : Frag} {x D : Addr} {ox : Obj} {od : Option Obj}
theorem my_data {C : Addr} {name : Str} {a g : Value} (hc : (clsIn K C).isSome = true) (ha : findIn K (.ref C) name = some (some a)) (hg : specialIn K a "__get__" = some (some g)) (ht : takesIn K a = some true) : findObj K C od name = some (.bind g a) := by
  obtain ⟨cd, h⟩ := Option.isSome_iff_exists.mp hc
  unfold findObj
  simp [h, ha, hg, ht]
theorem my_class {Q : Option Value → Shared → Prop} (C : L2.ExcC K D) (X : K.In s.heap) (I : InstAt s.heap x ox D od) (h : Q (some (.ref D)) { s with toks := s.toks + 1 }) : wpAny (model prog w) A (getAttr? (.ref x) "__class__") Q E s := by
  have hf : findObj K D od "__class__" = some (.bind (.builtin "getset_descriptor.__get__") (.builtin "object.__class__")) := my_data (by obtain ⟨cd, hc, _⟩ := any_some C.hd; rw [hc]; rfl) C.ha C.hn C.ht
  obtain ⟨hp, g, d, t, os⟩ := s
  have a0 := I.type (M := model prog w)
  have a1 := looks_findIn (M := model prog w) X C.hg
  have a2 := looks_findIn (M := model prog w) X C.hk
  have a3 := looks_find (M := model prog w) X I hf
  have sub : Looks (model prog w) hp (isInstance (.ref x) (.type "BaseException")) true := a0.andThen (looks_subIn X C.hs)
  have y0 : (false && onTheHeap (Value.builtin "BaseException.__getattribute__")) = false := rfl
  have y2 : (Value.builtin "BaseException.__getattribute__" == Value.builtin "object.__getattribute__") = false := by decide +kernel
  have y1 : (onTheHeap (Value.ref D) && Value.builtin "BaseException.__getattribute__" == Value.builtin "object.__getattribute__") = false := by rw [y2]; rfl
  unfold getAttr? getAttrBy? getAttrBy
  refine wpAny_bind (wpAny_mkText (wpAny_bind (wpAny_attempt (wpAny_holding (wpAny_bind (a0.at (wpAny_bind (a1.at ?_))))))))
  show wpAny _ _ (if (onTheHeap (Value.ref D) && Value.builtin "BaseException.__getattribute__" == Value.builtin "object.__getattribute__") = true then _ else _) _ _ _
  rw [y1, if_neg Bool.false_ne_true]
  unfold getAttrByItsOwn hookBefore
  refine wpAny_bind ?_
  rw [if_pos (show onTheHeap (Value.ref D) = true from rfl)]
  refine a2.at (wpAny_bind (wpAny_attempt (wpAny_holding ?_)))
  unfold callGetattribute
  rw [y0, if_neg Bool.false_ne_true]
  unfold boundAndCalled
  rw [PySem.F.excAttr_ValueError.ga.bind (.ref x)]
  refine wpAny_bind (wpAny_pure ?_)
  show wpAny _ _ (call (.builtin "BaseException.__getattribute__") [.ref x, .str "__class__" t]) _ _ _
  refine wpAny_call (codeAny_call_builtin PySem.F.excAttr_ValueError.ga.plain PySem.F.entry_bexc_ga ?_)
  refine @check_slot (model prog w) _ _ ⟨hp, g, d, t + 1, os⟩ "BaseException.__getattribute__" "BaseException" "__getattribute__" (.ref x) [.str "__class__" t] [] _ (by decide +kernel) (by decide +kernel) sub (PySem.F.args_bexc_ga (.ref x) (.str "__class__" t)) ?_
  unfold Builtin.«object.__getattribute__»
  refine wpAny_bind (wpAny_of_eq (a := ((Value.ref x : Value), [Value.str "__class__" t])) (by first | rfl | (simp only [slotArgs]; rfl)) ?_)
  refine wpAny_bind (wpAny_pure (wpAny_bind (a0.at (wpAny_bind (a3.at ?_)))))
  show wpAny _ _ (holding [Value.builtin "object.__class__"] (call (.builtin "getset_descriptor.__get__") [.builtin "object.__class__", .ref x, .ref D]) >>= ret) _ _ _
  refine wpAny_bind (wpAny_holding (wpAny_call (class_get (s := ⟨hp, g, d, t + 1, os⟩) (ox := ox) (od := od) X I C.hm ?_)))
  refine wpAny_pure ?_
  show wpAny _ _ (handedOut (.ref D)) _ _ _
  rw [handedOut_of (v := .ref D) rfl]
  first
    | exact wpAny_pure (wpAny_pure h)
    | exact wpAny_pure h
    | exact wpAny_pure (wpAny_bind (wpAny_pure (wpAny_pure h)))
theorem my_kitx (C : L2.ExcC K D) : KitX K (.ref x) (.ref D) (fun h => InstAt h x ox D od) where
  ty := fun _ _ _ I => I.type
  it := fun _ _ X _ => by
    obtain ⟨cd, hc, _⟩ := any_some C.hd
    unfold clsIn at hc
    split at hc
    case h_2 => cases hc
    case h_1 =>
      rename_i ho
      intro A' Q' E' s' k q
      unfold isType loadHead
      exact wpAny_bind (wpAny_loadPart (k _ _ (X _ _ ho)) (wpAny_pure q))
  ne := (handS_kitx_exc (x := x) (ox := ox) C.hg C.hk C.hs C.hd C.ha C.hn C.ht C.hm).ne
  ca := fun X I k => my_class C X I k
end
end PySem.W

namespace My
open PySem PySem.Spec PyProof.Rows L2
/-! ### an own exception as a value -/
theorem inst_exo {P : Program} {w : World} {H : Hp} {h : Heap} {a C dx : Addr} {fs : List (Str × V)} (ok : HOk P w H h) (ha : H a = some (exo a C (some dx))) (hd : H dx = some (exd dx fs)) :
    ∃ (oe : Obj) (od : Obj) (mA : Str → Option Value), PySem.W.InstAt h a oe C (some od) ∧ h.Ns1 dx mA ∧ h.get? dx = some od ∧ (∀ f, RelO (fs.lookup f) (mA f)) := by
  obtain ⟨⟨t1, e⟩, _⟩ := ok a _ ha
  obtain ⟨⟨mA, n1, r⟩, _⟩ := ok dx _ hd
  obtain ⟨od, ho, hl⟩ := lookIn_ns n1
  exact ⟨_, od, mA, ⟨e, rfl, by unfold PySem.W.notCls; trivial, ho⟩, n1, ho, r⟩
section
variable {X : Cx}
def rIsV (K : PySem.W.Frag) : List V → Hp → VK → Prop := fun xs H Q => ∃ (a D : Addr) (c : V) (cv : Value) (b : Bool), xs = [.ref a, c] ∧ (∀ u, RelV c u → u = cv) ∧ PySem.W.kitOne K (.ref D) cv = some b ∧ ExcC K D ∧
  ((∃ dx fs, H a = some (exo a D (some dx)) ∧ H dx = some (exd dx fs)) ∨ H a = some (ExO (.ref D) a)) ∧ Q (.bl b) H
theorem call_isV : CallR X (.builtin "isinstance") (rIsV X.K) := by
  intro pins s σ H xs us Q I r h
  obtain ⟨a, D, c, cv, b, rfl, hcv, e, C, hx, q⟩ := h
  cases r with
  | cons rx rr =>
    cases rr with
    | cons rt rr =>
      cases rr
      cases rx
      have ec := hcv _ rt
      subst ec
      rcases hx with ⟨dx, fs, ha, hd⟩ | ha
      · obtain ⟨oe, od, mA, J, _⟩ := inst_exo I.hok ha hd
        exact PySem.W.kia_one (PySem.W.my_kitx C) I.kIn J e (fun z => nomatch z) fun tk => ⟨.bl b, H, I.kept (t' := tk) fun _ _ z => z, rfl, q⟩
      · obtain ⟨⟨oe, vs, ho, hz, hd, _⟩, _⟩ := I.hok a _ ha
        have J : PySem.W.InstAt s.heap a oe D none := by
          obtain ⟨oc, od, oda, osl⟩ := oe
          obtain ⟨h1, h2⟩ := hz
          dsimp only at h1 h2 hd
          subst h1 h2 hd
          exact ⟨ho, rfl, rfl, trivial⟩
        exact PySem.W.kia_one (PySem.W.my_kitx C) I.kIn J e (fun z => nomatch z) fun tk => ⟨.bl b, H, I.kept (t' := tk) fun _ _ z => z, rfl, q⟩
/-- e.f -/
def tAtV (K : PySem.W.Frag) (f : Str) (te : TE) : TE := fun σ H Q => te σ H fun x H1 => ∃ (a C dx : Addr) (fs : List (Str × V)) (v : V), x = .ref a ∧ XfC K C ∧ PySem.W.findIn K (.ref C) f = some none ∧ H1 a = some (exo a C (some dx)) ∧ H1 dx = some (exd dx fs) ∧ fs.lookup f = some v ∧ Q v H1
theorem pe_atV {e : Expr} {te : TE} {pos : Pos} {n : Str} (he : PE X e te) (hb : attributeBase e n X.env (eval e X.env) = eval e X.env := by rfl) : PE X (.Attribute e n pos) (tAtV X.K n te) := by
  refine ⟨fun pins s σ H Q I h => attr_of hb (thn (he.run pins s σ H _ I h) fun u s1 z => ?_)⟩
  obtain ⟨x, H1, I1, rx, a, C, dx, fs, v, rfl, T, hno, ha, hd, l, q⟩ := z
  obtain rfl : u = Value.ref a := rx
  obtain ⟨oe, od, mA, J, n1, ho, r⟩ := inst_exo I1.hok ha hd
  obtain ⟨u, hu, ru⟩ := RelO.some_of (v := v) (o := mA n) (by rw [← l]; exact r n)
  obtain ⟨od2, ho2, hl⟩ := lookIn_ns n1
  obtain rfl : od2 = od := by rw [ho] at ho2; exact (Option.some.inj ho2).symm
  exact HandSPX.exc_get I1.kIn J T.ga T.gg T.exC (PySem.W.findObj_own T.hdC hno rfl (by rw [hl, hu])) (handed_of ru) ⟨v, H1, I1.tok _, ru, q⟩
end
/-- a def called by keywords alone, all its parameters named in their order -/
def CeK (P : Program) (w : World) (K : PySem.W.Frag) (mg : Str → Option Value) (base : Heap) (CX : CXT) (k : Nat) (x : Str) (ps : List Str) (sp : Sp) : Prop :=
  ∃ (f : Addr) (fd : FuncData), FnOk P w K mg base CX k f fd ps sp ∧ PySem.W.keepIn K (.ref f) = true ∧ (∀ us : List Value, us.length = ps.length → bindArgs fd ⟨[], ps.zip us⟩ = pure (ps.zip us)) ∧ mg x = some (.ref f)
def tCallKw (sp : Sp) (E : XK) (t : TA) : TE := fun σ H Q => t σ H fun vs H1 => sp vs H1 Q E
section
variable {X : Cx} {CX : CXT} {k : Nat} {ps : List Str} {sp : Sp} {E : XK} {x : Str} {p pos : Pos} {kws : List Keyword} {t : TA}
theorem pe_ceK (c : CeK X.prog X.w X.K X.mg X.base CX k x ps sp) (hr : Room k X.A) (hx : Passes CX X E) (ha : PK X kws t) (hg : Gl X x := by rfl) (hdb : (x == ("__debug__" : Str)) = false := by decide)
    (hall : (backToKw pos (keywordEach kws X.env)).all (·.1.isSome) = true := by rfl) (hks : (backToKw pos (keywordEach kws X.env)).filterMap (·.1) = ps := by rfl)
    (hpl : ((backTo pos (starEach [] X.env)).any (·.1) || (backToKw pos (keywordEach kws X.env)).any (·.1.isNone)) = false := by rfl) : PE X (.Call (.Name x p) [] kws pos) (tCallKw sp E t) := by
  obtain ⟨f, fd, F, kp, b, m⟩ := c
  refine ⟨fun pins s σ H Q I h => wpAny_Call_Name_kw (ld_glob I hg m (PySem.W.callWith_KW0 (h₀ := X.base) I.ok.mod.kin kp hall (thn (ha.run pos pins s σ H _ I h) fun ws s2 z => ?_) hpl) hdb)⟩
  obtain ⟨zs, H2, I2, rz, q2⟩ := z
  refine ⟨I2.kIn, ?_⟩
  rw [hks]
  have hl : ws.length = ps.length := by rw [← rz.length]; exact F.len _ _ _ _ q2
  refine wpAny_call (codeAny_mono (F.run X.A X.stack s2 H2 ⟨[], ps.zip ws⟩ ws zs Q E hr I2.env0 (.of_eq (b ws hl)) rz q2) fun r s' hq => ?_)
  match r, hq with
  | .error e, hq => exact hx pins σ H2 s2 e s' I2 hq
  | .ok (.ret u), hq => exact I2.after hq
end
/-- the class of an own exception that is made as a value: its fields, by place or by name -/
structure Ev (P : Program) (w : World) (K : PySem.W.Frag) (mg : Str → Option Value) (base : Heap) (x : Str) (fls : List Str) (C : Addr) (sp : Sp) : Prop where
  oc : OexC K C
  g : mg x = some (.ref C)
  ini : ∃ (fI : Addr) (fd : FuncData), PySem.W.findIn K (.ref C) "__init__" = some (some (.ref fI)) ∧ PySem.W.typeIn K (.ref fI) = some (.type "function") ∧ FnOk P w K mg base CX0 1 fI fd (Str.ofString "self" :: fls) sp ∧ Binds K fd (Str.ofString "self" :: fls) [] ∧
    ∀ us : List Value, ∀ a : Value, us.length = fls.length → bindArgs fd ⟨[a], fls.zip us⟩ = pure ((Str.ofString "self" :: fls).zip (a :: us))
def tMkV (C : Addr) (sp : Sp) (t : TA) : TE := fun σ H Q => t σ H fun vs H1 => vs.length ≤ 1000 ∧ ∀ a, H1 a = none → sp (.ref a :: vs) (upd H1 a (exo a C none)) (fun u H2 => u = .non ∧ Q (.ref a) H2) (fun _ _ _ => False)
section
variable {X : Cx} {x : Str} {fls : List Str} {C : Addr} {sp : Sp} {p pos : Pos} {kws : List Keyword} {t : TA}
theorem run_exV {pins : List (Addr × Obj)} {σ : L2.St} {H : Hp} {s : Shared} {Q : VK} {k : Nat} {ps : List Str} {fI : Addr} {fd : FuncData} {us all : List Value} {kw : List (Str × Value)} {vs : List V} (T : OexC X.K C) (iC : PySem.W.findIn X.K (.ref C) "__init__" = some (some (.ref fI)))
    (tI : PySem.W.typeIn X.K (.ref fI) = some (.type "function")) (F1 : FnOk X.prog X.w X.K X.mg X.base CX0 k fI fd ps sp) (hr : Room (k + 1) X.A) (I : Inv X pins σ H s) (hus : us.length ≤ sizeLine)
    (hb : ∀ (s' : Shared) (a : Value), X.K.In s'.heap → (a :: all).length = ps.length → BindsTo s' fd ⟨a :: us, kw⟩ (ps.zip (a :: all))) (r : Vals vs all)
    (h : ∀ a, H a = none → sp (.ref a :: vs) (upd H a (exo a C none)) (fun u H2 => u = .non ∧ Q (.ref a) H2) (fun _ _ _ => False)) : wpAny (model X.prog X.w) X.A (call (.ref C) us kw) (EP X pins σ Q) X.xe s := by
  obtain ⟨nm, q, N, bs, bm, sn, sub, ab, col, dd, k0, k1, k2, k3, k5, hC, hbm⟩ := T.cls
  obtain ⟨hp, g, dr, tk, os⟩ := s
  have hsz : hp.objs.size ≤ hp.objs.size + 1 := Nat.le_succ _
  have hn : H (hp.objs.size + 1) = none := I.hok.fresh hsz
  have hq := h (hp.objs.size + 1) hn
  have kk : ∀ b o, hp.get? b = some o → ((hp.push (PySem.W.kdv_tup us)).push (PySem.HandSPX.excO C hp.objs.size)).get? b = some o := fun b o e => Heap.get?_push_of_some _ (Heap.get?_push_of_some _ e)
  have hget : ((hp.push (PySem.W.kdv_tup us)).push (PySem.HandSPX.excO C hp.objs.size)).get? (hp.objs.size + 1) = some (PySem.HandSPX.excO C hp.objs.size) := by heap_get
  have I2 := I.laid (t' := tk) (a := hp.objs.size + 1) (o := exo (hp.objs.size + 1) C none) (h' := (hp.push (PySem.W.kdv_tup us)).push (PySem.HandSPX.excO C hp.objs.size)) kk hsz (exo_ok hget)
  have r2 : Vals (V.ref (hp.objs.size + 1) :: vs) (Value.ref (hp.objs.size + 1) :: all) := .cons rfl r
  have hl : (Value.ref (hp.objs.size + 1) :: all).length = ps.length := by
    have e := r2.length
    rw [F1.len _ _ _ _ hq] at e
    exact e.symm
  refine wpAny_call (PySem.HandSPX.kw_call F.excBase_ValueError (fun Y => PySem.HandSPX.refsVE_contains Y bm hbm) (I.kIn _ _ hC) hus (PySem.W.looks_findIn I.kIn iC) (fun self => PySem.W.bind_fn I.kIn self tI)
    (codeAny_mono (F1.run _ X.stack _ _ ⟨Value.ref (hp.objs.size + 1) :: us, kw⟩ (Value.ref (hp.objs.size + 1) :: all) _ _ (fun _ _ _ => False) (hr.make C us kw) (I2.env0.make C us kw) (hb _ (Value.ref (hp.objs.size + 1)) I2.kIn hl) r2 hq) fun r s' hq' => ?_))
  match r, hq' with
  | .error er, hq' => exact False.elim hq'
  | .ok (.ret u), hq' =>
    obtain ⟨v, H', I3, rv, ev, q3⟩ := I2.after hq'
    subst ev
    exact ⟨rv, ⟨V.ref (hp.objs.size + 1), H', I3, rfl, q3⟩⟩
theorem pe_evK (T : Ev X.prog X.w X.K X.mg X.base x fls C sp) (hr : Room 2 X.A) (ha : PK X kws t) (hg : Gl X x := by rfl) (hdb : (x == ("__debug__" : Str)) = false := by decide)
    (hall : (backToKw pos (keywordEach kws X.env)).all (·.1.isSome) = true := by rfl) (hks : (backToKw pos (keywordEach kws X.env)).filterMap (·.1) = fls := by rfl)
    (hpl : ((backTo pos (starEach [] X.env)).any (·.1) || (backToKw pos (keywordEach kws X.env)).any (·.1.isNone)) = false := by rfl) : PE X (.Call (.Name x p) [] kws pos) (tMkV C sp t) := by
  obtain ⟨fI, fd, i1, i2, F1, b, bk⟩ := T.ini
  refine ⟨fun pins s σ H Q I h => wpAny_Call_Name_kw (ld_glob I hg T.g (PySem.W.callWith_KW0 (h₀ := X.base) I.ok.mod.kin T.oc.kC hall (thn (ha.run pos pins s σ H _ I h) fun ws s2 z => ?_) hpl) hdb)⟩
  obtain ⟨zs, H2, I2, rz, _, q2⟩ := z
  refine ⟨I2.kIn, ?_⟩
  rw [hks]
  exact run_exV (us := []) T.oc i1 i2 F1 hr I2 (Nat.zero_le _) (fun s' a _ hl => .of_eq (bk ws a (by simpa using hl))) rz q2
theorem pe_ev1 {e : Expr} {es : List Expr} (T : Ev X.prog X.w X.K X.mg X.base x fls C sp) (hr : Room 2 X.A) (ha : PA X (e :: es) t) (hg : Gl X x := by rfl) (hdb : (x == ("__debug__" : Str)) = false := by decide)
    (he : starEach (e :: es) X.env = (false, eval e X.env) :: starEach es X.env := by rfl) (hpl : (backTo pos (starEach es X.env)).any (·.1) = false := by rfl) : PE X (.Call (.Name x p) (e :: es) [] pos) (tMkV C sp t) := by
  obtain ⟨fI, fd, i1, i2, F1, b, bk⟩ := T.ini
  refine ⟨fun pins s σ H Q I h => wpAny_Call_Name_kw (ld_glob I hg T.g (PySem.W.callWith_K (h₀ := X.base) I.ok.mod.kin T.oc.kC (thn (ha.run pos pins s σ H _ I h) fun ws s2 z => ?_) he hpl) hdb)⟩
  obtain ⟨zs, H2, I2, rz, hz, q2⟩ := z
  refine ⟨I2.kIn, run_exV (us := ws) T.oc i1 i2 F1 hr I2 (by rw [← Paired.length rz, sizeLine_eq]; omega) (fun s' a hK hl => ?_) rz q2⟩
  have := b s' (a :: ws) hK (by rw [List.append_nil]; exact hl)
  rwa [List.append_nil] at this
/-- X(), an own class without own __init__ -/
theorem pe_exc0 {bmB : List Value} {B newId initId : String} (F : ExcBaseFacts B newId initId bmB) (q : PySem.W.excIn X.K C bmB newId = true) (gC : X.mg x = some (.ref C)) (kC : PySem.W.keepIn X.K (.ref C) = true) (hg : Gl X x := by rfl) (hdb : (x == ("__debug__" : Str)) = false := by decide) :
    PE X (.Call (.Name x p) [] [] pos) (fun σ H Q => ∀ a, H a = none → Q (.ref a) (upd H a (ExO (.ref C) a))) := by
  refine ⟨fun pins s σ H Q I h => wpAny_Call_Name_kw (ld_glob I hg gC (PySem.W.callWith_K0 I.kIn kC ?_) hdb)⟩
  obtain ⟨bm, N, nm, qn, bs, hdct, sn, sub, ab, col, dd, k0, k1, k2, k3, k5, mN, hC, hN, hni, T⟩ := exc_obj I.kIn q
  refine wpAny_call_exc_subT F T hC hN hni (fun h' a hm => ?_) (Nat.zero_le _)
  have hn : H a = none := I.hok.gone hm.new
  obtain ⟨t, ht, _, _⟩ := hm.there
  exact ⟨.ref a, upd H a (ExO (.ref C) a), I.laidN hm.keeps hm.new hn (exO_ok ht ⟨rfl, rfl⟩ rfl rfl rfl (show 4 < 6 by decide)), rfl, h a hn⟩
end
end My

set_option maxHeartbeats 1000000
namespace My
/-! ### fractions -/
abbrev gc (a b : Int) : Int := ((Nat.gcd a.natAbs b.natAbs : Nat) : Int)
def fr (a b : Int) : Int × Int := (a / gc a b, b / gc a b)
theorem gc_pos {a b : Int} (h : 0 < b) : 0 < gc a b := by
  have : 0 < Nat.gcd a.natAbs b.natAbs := Nat.gcd_pos_of_pos_right _ (by omega)
  show (0 : Int) < ((Nat.gcd a.natAbs b.natAbs : Nat) : Int)
  omega
theorem gc_le {a b : Int} (h : 0 < b) : (gc a b).natAbs ≤ b.natAbs := by
  show (((Nat.gcd a.natAbs b.natAbs : Nat) : Int)).natAbs ≤ _
  rw [Int.natAbs_natCast]
  exact Nat.le_of_dvd (by omega) (Nat.gcd_dvd_right _ _)
theorem gc_dl (a b : Int) : gc a b ∣ a := Int.natAbs_dvd_natAbs.mp (by show (((Nat.gcd a.natAbs b.natAbs : Nat) : Int)).natAbs ∣ _; rw [Int.natAbs_natCast]; exact Nat.gcd_dvd_left _ _)
theorem gc_dr (a b : Int) : gc a b ∣ b := Int.natAbs_dvd_natAbs.mp (by show (((Nat.gcd a.natAbs b.natAbs : Nat) : Int)).natAbs ∣ _; rw [Int.natAbs_natCast]; exact Nat.gcd_dvd_right _ _)
/-- lowest terms, the lower part above nought -/
def Low (q : Int × Int) : Prop := 0 < q.2 ∧ gc q.1 q.2 = 1
def val (q : Int × Int) : Rat := (q.1 : Rat) / (q.2 : Rat)
theorem rat_ne {b : Int} (h : 0 < b) : (b : Rat) ≠ 0 := by
  have : b ≠ 0 := by omega
  simpa using this
theorem fr_pos {a b : Int} (h : 0 < b) : 0 < (fr a b).2 := by
  obtain ⟨c, e⟩ := gc_dr a b
  have g := gc_pos (a := a) h
  show 0 < b / gc a b
  have e2 : b / gc a b = c := by
    conv => lhs; lhs; rw [e]
    exact Int.mul_ediv_cancel_left _ (by omega)
  rw [e2]
  have : 0 < gc a b * c := by rw [← e]; exact h
  exact Int.pos_of_mul_pos_right this (by omega)
theorem fr_low {a b : Int} (h : 0 < b) : Low (fr a b) := by
  refine ⟨fr_pos h, ?_⟩
  have g := gc_pos (a := a) h
  have e1 : (fr a b).1.natAbs = a.natAbs / Nat.gcd a.natAbs b.natAbs := by
    show (a / gc a b).natAbs = _
    rw [Int.natAbs_ediv_of_dvd (gc_dl a b), Int.natAbs_natCast]
  have e2 : (fr a b).2.natAbs = b.natAbs / Nat.gcd a.natAbs b.natAbs := by
    show (b / gc a b).natAbs = _
    rw [Int.natAbs_ediv_of_dvd (gc_dr a b), Int.natAbs_natCast]
  show ((Nat.gcd (fr a b).1.natAbs (fr a b).2.natAbs : Nat) : Int) = 1
  have z : 0 < Nat.gcd a.natAbs b.natAbs := Nat.gcd_pos_of_pos_right _ (by omega)
  rw [e1, e2, Nat.gcd_div (Nat.gcd_dvd_left _ _) (Nat.gcd_dvd_right _ _), Nat.div_self z]
  rfl
theorem fr_val {a b : Int} (h : 0 < b) : val (fr a b) = (a : Rat) / (b : Rat) := by
  obtain ⟨c, e⟩ := gc_dl a b
  obtain ⟨d, e'⟩ := gc_dr a b
  have g := gc_pos (a := a) h
  have e1 : a / gc a b = c := by
    conv => lhs; lhs; rw [e]
    exact Int.mul_ediv_cancel_left _ (by omega)
  have e2 : b / gc a b = d := by
    conv => lhs; lhs; rw [e']
    exact Int.mul_ediv_cancel_left _ (by omega)
  have gr := rat_ne g
  have d0 : 0 < d := by have := fr_pos (a := a) h; show 0 < d; rw [← e2]; exact this
  have dr := rat_ne d0
  have br := rat_ne h
  show ((a / gc a b : Int) : Rat) / ((b / gc a b : Int) : Rat) = _
  rw [e1, e2]
  have ha : (a : Rat) = (gc a b : Rat) * c := by
    have := congrArg (fun z : Int => (z : Rat)) e
    simp only [Rat.intCast_mul] at this
    exact this
  have hb : (b : Rat) = (gc a b : Rat) * d := by
    have := congrArg (fun z : Int => (z : Rat)) e'
    simp only [Rat.intCast_mul] at this
    exact this
  rw [ha, hb] at *
  grind
theorem low_eq {p q : Int × Int} (hp : Low p) (hq : Low q) (h : val p = val q) : p = q := by
  obtain ⟨a, b⟩ := p
  obtain ⟨c, d⟩ := q
  obtain ⟨h1, h2⟩ := hp
  obtain ⟨h3, h4⟩ := hq
  simp only at h1 h2 h3 h4
  have br := rat_ne h1
  have dr := rat_ne h3
  have x : (a : Rat) * d = c * b := by
    have h' : (a : Rat) / b = (c : Rat) / d := h
    grind
  have x2 : a * d = c * b := by exact_mod_cast x
  have n1 : Nat.gcd a.natAbs b.natAbs = 1 := by
    have : ((Nat.gcd a.natAbs b.natAbs : Nat) : Int) = 1 := h2
    omega
  have n2 : Nat.gcd c.natAbs d.natAbs = 1 := by
    have : ((Nat.gcd c.natAbs d.natAbs : Nat) : Int) = 1 := h4
    omega
  have x3 : a.natAbs * d.natAbs = c.natAbs * b.natAbs := by rw [← Int.natAbs_mul, ← Int.natAbs_mul, x2]
  have c1 : Nat.Coprime b.natAbs a.natAbs := Nat.Coprime.symm n1
  have c2 : Nat.Coprime d.natAbs c.natAbs := Nat.Coprime.symm n2
  have d1 : b.natAbs ∣ d.natAbs := c1.dvd_of_dvd_mul_left (by rw [x3]; exact Nat.dvd_mul_left _ _)
  have d2 : d.natAbs ∣ b.natAbs := c2.dvd_of_dvd_mul_left (by rw [← x3]; exact Nat.dvd_mul_left _ _)
  have e : b = d := by
    have := Nat.dvd_antisymm d1 d2
    omega
  subst e
  have : a = c := Int.eq_of_mul_eq_mul_right (by omega) x2
  rw [this]
theorem fr_self {q : Int × Int} (h : Low q) : fr q.1 q.2 = q := low_eq (fr_low h.1) h (fr_val h.1)
/-! ### sums and products of the law's -/
def qadd (p q : Int × Int) : Int × Int := fr (p.1 * q.2 + q.1 * p.2) (p.2 * q.2)
def qmul (p q : Int × Int) : Int × Int := fr (p.1 * q.1) (p.2 * q.2)
theorem qadd_low {p q : Int × Int} (hp : 0 < p.2) (hq : 0 < q.2) : Low (qadd p q) := fr_low (Int.mul_pos hp hq)
theorem qmul_low {p q : Int × Int} (hp : 0 < p.2) (hq : 0 < q.2) : Low (qmul p q) := fr_low (Int.mul_pos hp hq)
theorem qadd_val {p q : Int × Int} (hp : 0 < p.2) (hq : 0 < q.2) : val (qadd p q) = val p + val q := by
  have h1 := rat_ne hp
  have h2 := rat_ne hq
  unfold qadd
  rw [fr_val (Int.mul_pos hp hq)]
  simp only [Rat.intCast_add, Rat.intCast_mul]
  unfold val
  grind
theorem qmul_val {p q : Int × Int} (hp : 0 < p.2) (hq : 0 < q.2) : val (qmul p q) = val p * val q := by
  have h1 := rat_ne hp
  have h2 := rat_ne hq
  unfold qmul
  rw [fr_val (Int.mul_pos hp hq)]
  simp only [Rat.intCast_mul]
  unfold val
  grind
/-! ### the common denominator -/
def lcmL (s : List (Int × Int)) : Nat := s.foldl (fun z q => Nat.lcm z q.2.natAbs) 1
theorem lcmL_snoc (s : List (Int × Int)) (q : Int × Int) : lcmL (s ++ [q]) = Nat.lcm (lcmL s) q.2.natAbs := by
  unfold lcmL
  rw [List.foldl_append]
  rfl
theorem lcm_le (a b : Nat) : Nat.lcm a b ≤ a * b := by
  unfold Nat.lcm
  exact Nat.div_le_self _ _
/-- induction from the end -/
@[elab_as_elim] theorem snoc_ind {α : Type} {P : List α → Prop} (l : List α) (h0 : P []) (h1 : ∀ l a, P l → P (l ++ [a])) : P l := by
  have : ∀ n (l : List α), l.length = n → P l := by
    intro n
    induction n with
    | zero => intro l e; rw [List.eq_nil_of_length_eq_zero e]; exact h0
    | succ n ih =>
      intro l e
      have ne : l ≠ [] := by intro z; rw [z] at e; cases e
      rw [← List.dropLast_concat_getLast ne]
      exact h1 _ _ (ih _ (by rw [List.length_dropLast, e]; rfl))
  exact this _ l rfl
theorem lcmL_lt {pb : Nat} (s : List (Int × Int)) (h : ∀ q ∈ s, q.2.natAbs < 2 ^ pb) : lcmL s < 2 ^ (pb * s.length + 1) := by
  revert h
  refine snoc_ind s ?_ ?_
  · intro _
    simp [lcmL]
  · intro l q ih h
    rw [lcmL_snoc]
    have h1 := ih fun r hr => h r (List.mem_append_left _ hr)
    have h2 := h q (List.mem_append_right _ List.mem_cons_self)
    refine Nat.lt_of_le_of_lt (lcm_le _ _) ?_
    have h3 := Nat.mul_lt_mul'' h1 h2
    rw [← Nat.pow_add] at h3
    rw [List.length_append, List.length_singleton, Nat.mul_add, Nat.mul_one]
    rwa [show pb * l.length + pb + 1 = pb * l.length + 1 + pb by omega]
theorem lcmL_pos (s : List (Int × Int)) (h : ∀ q ∈ s, 0 < q.2) : 0 < lcmL s := by
  revert h
  refine snoc_ind s ?_ ?_
  · intro _
    decide
  · intro l q ih h
    rw [lcmL_snoc]
    have h1 := ih fun r hr => h r (List.mem_append_left _ hr)
    have h2 := h q (List.mem_append_right _ List.mem_cons_self)
    exact Nat.lcm_pos h1 (by omega)
theorem lcmL_dvd (s : List (Int × Int)) : ∀ q ∈ s, q.2.natAbs ∣ lcmL s := by
  refine snoc_ind s ?_ ?_
  · intro q h
    cases h
  · intro l q ih r h
    rw [lcmL_snoc]
    rcases List.mem_append.mp h with z | z
    · exact Nat.dvd_trans (ih r z) (Nat.dvd_lcm_left _ _)
    · rw [List.mem_singleton.mp z]
      exact Nat.dvd_lcm_right _ _
def tops (s : List (Int × Int)) : List Int := s.map fun q => q.1 * ((lcmL s : Int) / q.2)
theorem natAbs_div_le (a b : Int) : (a / b).natAbs ≤ a.natAbs := Int.natAbs_ediv_le_natAbs a b
theorem tops_lt {tb pb : Nat} {s : List (Int × Int)} (ht : ∀ q ∈ s, q.1.natAbs < 2 ^ tb) (hp : ∀ q ∈ s, q.2.natAbs < 2 ^ pb) : ∀ t ∈ tops s, t.natAbs < 2 ^ (tb + (pb * s.length + 1)) := by
  intro t h
  obtain ⟨q, hq, rfl⟩ := List.mem_map.mp h
  rw [Int.natAbs_mul, Nat.pow_add]
  refine Nat.mul_lt_mul'' (ht q hq) (Nat.lt_of_le_of_lt (natAbs_div_le _ _) ?_)
  rw [Int.natAbs_natCast]
  exact lcmL_lt s hp
/-- a top over the common denominator is the number -/
theorem top_val {s : List (Int × Int)} (hp : ∀ q ∈ s, 0 < q.2) {q : Int × Int} (hq : q ∈ s) : ((q.1 * ((lcmL s : Int) / q.2) : Int) : Rat) / ((lcmL s : Int) : Rat) = val q := by
  have h0 := hp q hq
  have d : q.2 ∣ (lcmL s : Int) := Int.natAbs_dvd_natAbs.mp (by rw [Int.natAbs_natCast]; exact lcmL_dvd s q hq)
  obtain ⟨c, e⟩ := d
  have lp : (0 : Int) < (lcmL s : Int) := by have := lcmL_pos s hp; omega
  have e2 : (lcmL s : Int) / q.2 = c := by
    rw [e]
    exact Int.mul_ediv_cancel_left _ (by omega)
  rw [e2]
  have r1 := rat_ne h0
  have r2 := rat_ne lp
  have e3 : (((lcmL s : Int)) : Rat) = (q.2 : Rat) * c := by
    have := congrArg (fun z : Int => (z : Rat)) e
    simp only [Rat.intCast_mul] at this
    exact this
  simp only [Rat.intCast_mul]
  unfold val
  rw [e3] at r2 ⊢
  grind
/-! ### the value of a polynomial -/
def pval : List Rat → Rat → Rat
  | [], _ => 0
  | c :: cs, x => c + x * pval cs x
def hstep (xn xd : Int) (z : Int × Int) (t : Int) : Int × Int := (z.1 * xn + t * (z.2 * xd), z.2 * xd)
/-- the program's own way: (found, scale) behind the tops ts from the head down -/
def horn (xn xd : Int) (head : Int) (rest : List Int) : Int × Int := rest.foldl (hstep xn xd) (head, 1)
theorem horn_snoc (xn xd head : Int) (rest : List Int) (t : Int) : horn xn xd head (rest ++ [t]) = hstep xn xd (horn xn xd head rest) t := by
  unfold horn
  rw [List.foldl_append]
  rfl
theorem horn_pos {xn xd head : Int} (h : 0 < xd) (rest : List Int) : 0 < (horn xn xd head rest).2 := by
  refine snoc_ind rest (by show (0 : Int) < 1; decide) ?_
  intro l t ih
  rw [horn_snoc]
  exact Int.mul_pos ih h
theorem horn_val {xn xd head : Int} (h : 0 < xd) (rest : List Int) : ((horn xn xd head rest).1 : Rat) / ((horn xn xd head rest).2 : Rat) = pval ((rest.reverse ++ [head]).map fun z : Int => (z : Rat)) ((xn : Rat) / (xd : Rat)) := by
  refine snoc_ind rest ?_ ?_
  · show ((head : Int) : Rat) / ((1 : Int) : Rat) = (head : Rat) + ((xn : Rat) / xd) * 0
    have : ((1 : Int) : Rat) = 1 := rfl
    rw [this]
    grind
  · intro l t ih
    rw [horn_snoc, List.reverse_append]
    show ((((horn xn xd head l).1 * xn + t * ((horn xn xd head l).2 * xd) : Int)) : Rat) / (((horn xn xd head l).2 * xd : Int) : Rat) = (t : Rat) + ((xn : Rat) / xd) * pval ((l.reverse ++ [head]).map fun z : Int => (z : Rat)) ((xn : Rat) / (xd : Rat))
    rw [← ih]
    have h1 := rat_ne (horn_pos (head := head) (xn := xn) h l)
    have h2 := rat_ne h
    simp only [Rat.intCast_add, Rat.intCast_mul]
    grind
theorem pval_scale (k : Rat) (x : Rat) : ∀ cs : List Rat, pval (cs.map fun c => c * k) x = pval cs x * k
  | [] => by simp [pval]
  | c :: cs => by
    show c * k + x * pval (cs.map fun c => c * k) x = (c + x * pval cs x) * k
    rw [pval_scale k x cs]
    grind
/-- the value as the program reckons it, s = rest of the numbers and the head -/
def valOf (s : List (Int × Int)) (x : Int × Int) : Int × Int :=
  let z := horn x.1 x.2 ((tops s).getLast?.getD 0) (tops s).dropLast.reverse
  fr z.1 ((lcmL s : Int) * z.2)
theorem valOf_low {s : List (Int × Int)} {x : Int × Int} (hs : ∀ q ∈ s, 0 < q.2) (hx : 0 < x.2) : Low (valOf s x) :=
  fr_low (Int.mul_pos (by have := lcmL_pos s hs; omega) (horn_pos hx _))
theorem tops_ne {s : List (Int × Int)} (h : s ≠ []) : tops s ≠ [] := by
  unfold tops
  simpa using h
theorem valOf_val {s : List (Int × Int)} {x : Int × Int} (hs : ∀ q ∈ s, 0 < q.2) (hn : s ≠ []) (hx : 0 < x.2) : val (valOf s x) = pval (s.map val) (val x) := by
  have lp : (0 : Int) < (lcmL s : Int) := by have := lcmL_pos s hs; omega
  have hp := horn_pos (xn := x.1) (head := (tops s).getLast?.getD 0) hx (tops s).dropLast.reverse
  have hv := horn_val (xn := x.1) (head := (tops s).getLast?.getD 0) hx (tops s).dropLast.reverse
  unfold valOf
  simp only
  rw [fr_val (Int.mul_pos lp hp)]
  rw [List.reverse_reverse] at hv
  have e : (tops s).dropLast ++ [(tops s).getLast?.getD 0] = tops s := by
    rw [List.getLast?_eq_some_getLast (tops_ne hn)]
    exact List.dropLast_concat_getLast (tops_ne hn)
  rw [e] at hv
  have r1 := rat_ne lp
  have r2 := rat_ne hp
  have e2 : (tops s).map (fun z : Int => (z : Rat)) = (s.map val).map fun c => c * ((lcmL s : Int) : Rat) := by
    unfold tops
    rw [List.map_map, List.map_map]
    refine List.map_congr_left fun q hq => ?_
    have := top_val hs hq
    show ((q.1 * ((lcmL s : Int) / q.2) : Int) : Rat) = val q * ((lcmL s : Int) : Rat)
    rw [← this]
    grind
  rw [e2, pval_scale] at hv
  unfold val at hv ⊢
  simp only [Rat.intCast_mul]
  grind
/-- the law's own sum of powers -/
def sumStep (x : Int × Int) (z : (Int × Int) × (Int × Int)) (c : Int × Int) : (Int × Int) × (Int × Int) := (qadd z.1 (qmul c z.2), qmul z.2 x)
def sumPow (s : List (Int × Int)) (x : Int × Int) : (Int × Int) × (Int × Int) := s.foldl (sumStep x) ((0, 1), (1, 1))
theorem sumPow_ok {x : Int × Int} (hx : 0 < x.2) : ∀ (s : List (Int × Int)) (z : (Int × Int) × (Int × Int)), (∀ q ∈ s, 0 < q.2) → Low z.1 → Low z.2 →
    Low (s.foldl (sumStep x) z).1 ∧ Low (s.foldl (sumStep x) z).2 ∧ val (s.foldl (sumStep x) z).1 = val z.1 + val z.2 * pval (s.map val) (val x)
  | [], z, _, h1, h2 => ⟨h1, h2, by show val z.1 = val z.1 + val z.2 * 0; grind⟩
  | c :: s, z, h, h1, h2 => by
    have hc := h c List.mem_cons_self
    have m := qmul_low hc h2.1
    have i := sumPow_ok hx s (sumStep x z c) (fun q hq => h q (List.mem_cons_of_mem _ hq)) (qadd_low h1.1 m.1) (qmul_low h2.1 hx)
    refine ⟨i.1, i.2.1, ?_⟩
    show val (s.foldl (sumStep x) (sumStep x z c)).1 = _
    rw [i.2.2]
    show val (qadd z.1 (qmul c z.2)) + val (qmul z.2 x) * _ = val z.1 + val z.2 * (val c + val x * pval (s.map val) (val x))
    rw [qadd_val h1.1 m.1, qmul_val hc h2.1, qmul_val h2.1 hx]
    grind
theorem low_0 : Low (0, 1) := ⟨by decide, by decide⟩
theorem low_1 : Low (1, 1) := ⟨by decide, by decide⟩
/-- both ways lead to one number -/
theorem value_is {s : List (Int × Int)} {x : Int × Int} (hs : ∀ q ∈ s, 0 < q.2) (hn : s ≠ []) (hx : 0 < x.2) : valOf s x = (sumPow s x).1 := by
  obtain ⟨h1, _, h3⟩ := sumPow_ok hx s ((0, 1), (1, 1)) hs low_0 low_1
  refine low_eq (valOf_low hs hx) h1 ?_
  rw [valOf_val hs hn hx]
  show _ = val (s.foldl (sumStep x) ((0, 1), (1, 1))).1
  rw [h3]
  have a : val (0, 1) = 0 := by unfold val; simp; grind
  have b : val (1, 1) = 1 := by unfold val; simp; grind
  rw [a, b]
  grind
end My

set_option Elab.async false
set_option linter.all false
set_option maxRecDepth 100000
set_option maxHeartbeats 4000000
namespace My
open PySem PySem.Spec PyProof.Rows L2
def top (i : Nat) : Stmt := PySem.Challenge.pw_stepswithin_k00_numbers_and_steps.main.body.getD i (.Pass ⟨0, 0, 0, 0⟩)
abbrev s_fraction : Stmt := top 15
abbrev s_opened : Stmt := top 16
abbrev s_value_of : Stmt := top 17
abbrev s_is_integer : Stmt := top 22
abbrev s_is_number : Stmt := top 23
abbrev s_is_step : Stmt := top 24
abbrev s_need_number : Stmt := top 25
abbrev s_need_step : Stmt := top 26
abbrev s_need_row : Stmt := top 27
abbrev s_degree_of : Stmt := top 28
abbrev s_head_of : Stmt := top 29
abbrev s_is_plain : Stmt := top 30
abbrev s_value_at : Stmt := top 31
abbrev s__law_mixed : Stmt := top 33
abbrev s__law_begin : Stmt := top 34
abbrev s__law_draw : Stmt := top 35
abbrev s__law_of : Stmt := top 36
abbrev s__law_number : Stmt := top 37
abbrev s__law_step : Stmt := top 38
abbrev s__law_plain : Stmt := top 39
abbrev s__law_divisor : Stmt := top 40
abbrev s__law_frac : Stmt := top 41
abbrev s__law_add : Stmt := top 42
abbrev s__law_mul : Stmt := top 43
abbrev s__law_like : Stmt := top 44
abbrev s__law_refusal : Stmt := top 45
abbrev s__law_power : Stmt := top 46
abbrev s__law_sum_of_powers : Stmt := top 47
abbrev s__law_right : Stmt := top 48
abbrev s__law_refused : Stmt := top 49
abbrev s__law_borders : Stmt := top 50
abbrev s__law_named : Stmt := top 51
abbrev s__law_errors : Stmt := top 52
abbrev s_law : Stmt := top 53
abbrev s_BadNumber_init : Stmt := inClass (top 3) 0
abbrev s_BadStep_init : Stmt := inClass (top 4) 0
abbrev s_BadRow_init : Stmt := inClass (top 5) 0
abbrev s_BadParameter_init : Stmt := inClass (top 6) 0
abbrev s_BadIndex_init : Stmt := inClass (top 7) 0
abbrev s_BadText_init : Stmt := inClass (top 8) 0
abbrev s_BadDeed_init : Stmt := inClass (top 9) 0
abbrev s_Unlike_init : Stmt := inClass (top 11) 0
abbrev s_TooGreat_init : Stmt := inClass (top 12) 0
theorem sc_fraction : FnScope ["top", "bottom", "shared"] ["top", "bottom"] (defScope s_fraction) := ⟨rfl, rfl, rfl, by decide +kernel, rfl, by decide +kernel, by decide +kernel⟩
theorem sc_opened : FnScope ["numbers", "bottom", "_", "part", "top"] ["numbers"] (defScope s_opened) := ⟨rfl, rfl, rfl, by decide +kernel, rfl, by decide +kernel, by decide +kernel⟩
theorem sc_value_of : FnScope ["step", "number", "found", "scale", "top", "tops", "bottom"] ["step", "number"] (defScope s_value_of) := ⟨rfl, rfl, rfl, by decide +kernel, rfl, by decide +kernel, by decide +kernel⟩
theorem sc_is_integer : FnScope ["value"] ["value"] (defScope s_is_integer) := ⟨rfl, rfl, rfl, by decide +kernel, rfl, by decide +kernel, by decide +kernel⟩
theorem sc_is_number : FnScope ["value", "top", "bottom"] ["value"] (defScope s_is_number) := ⟨rfl, rfl, rfl, by decide +kernel, rfl, by decide +kernel, by decide +kernel⟩
theorem sc_is_step : FnScope ["value", "number"] ["value"] (defScope s_is_step) := ⟨rfl, rfl, rfl, by decide +kernel, rfl, by decide +kernel, by decide +kernel⟩
theorem sc_need_number : FnScope ["value"] ["value"] (defScope s_need_number) := ⟨rfl, rfl, rfl, by decide +kernel, rfl, by decide +kernel, by decide +kernel⟩
theorem sc_need_step : FnScope ["value"] ["value"] (defScope s_need_step) := ⟨rfl, rfl, rfl, by decide +kernel, rfl, by decide +kernel, by decide +kernel⟩
theorem sc_need_row : FnScope ["value", "place", "step"] ["value"] (defScope s_need_row) := ⟨rfl, rfl, rfl, by decide +kernel, rfl, by decide +kernel, by decide +kernel⟩
theorem sc_degree_of : FnScope ["step"] ["step"] (defScope s_degree_of) := ⟨rfl, rfl, rfl, by decide +kernel, rfl, by decide +kernel, by decide +kernel⟩
theorem sc_head_of : FnScope ["step"] ["step"] (defScope s_head_of) := ⟨rfl, rfl, rfl, by decide +kernel, rfl, by decide +kernel, by decide +kernel⟩
theorem sc_is_plain : FnScope ["step"] ["step"] (defScope s_is_plain) := ⟨rfl, rfl, rfl, by decide +kernel, rfl, by decide +kernel, by decide +kernel⟩
theorem sc_value_at : FnScope ["step", "number"] ["step", "number"] (defScope s_value_at) := ⟨rfl, rfl, rfl, by decide +kernel, rfl, by decide +kernel, by decide +kernel⟩
theorem sc__law_mixed : FnScope ["cell", "k"] ["cell", "k"] (defScope s__law_mixed) := ⟨rfl, rfl, rfl, by decide +kernel, rfl, by decide +kernel, by decide +kernel⟩
theorem sc__law_begin : FnScope ["script", "cells_so", "cell"] ["script"] (defScope s__law_begin) := ⟨rfl, rfl, rfl, by decide +kernel, rfl, by decide +kernel, by decide +kernel⟩
theorem sc__law_draw : FnScope ["state", "limit", "at", "spot", "left", "mixed_so"] ["state", "limit"] (defScope s__law_draw) := ⟨rfl, rfl, rfl, by decide +kernel, rfl, by decide +kernel, by decide +kernel⟩
theorem sc__law_of : FnScope ["state", "some"] ["state", "some"] (defScope s__law_of) := ⟨rfl, rfl, rfl, by decide +kernel, rfl, by decide +kernel, by decide +kernel⟩
theorem sc__law_number : FnScope ["state", "widest", "below"] ["state", "widest", "below"] (defScope s__law_number) := ⟨rfl, rfl, rfl, by decide +kernel, rfl, by decide +kernel, by decide +kernel⟩
theorem sc__law_step : FnScope ["state", "size", "widest", "below", "found", "head", "power"] ["state", "size", "widest", "below"] (defScope s__law_step) := ⟨rfl, rfl, rfl, by decide +kernel, rfl, by decide +kernel, by decide +kernel⟩
theorem sc__law_plain : FnScope ["state", "size", "widest", "below", "found", "power"] ["state", "size", "widest", "below"] (defScope s__law_plain) := ⟨rfl, rfl, rfl, by decide +kernel, rfl, by decide +kernel, by decide +kernel⟩
theorem sc__law_divisor : FnScope ["one", "other"] ["one", "other"] (defScope s__law_divisor) := ⟨rfl, rfl, rfl, by decide +kernel, rfl, by decide +kernel, by decide +kernel⟩
theorem sc__law_frac : FnScope ["above", "below", "shared"] ["above", "below"] (defScope s__law_frac) := ⟨rfl, rfl, rfl, by decide +kernel, rfl, by decide +kernel, by decide +kernel⟩
theorem sc__law_add : FnScope ["one", "other"] ["one", "other"] (defScope s__law_add) := ⟨rfl, rfl, rfl, by decide +kernel, rfl, by decide +kernel, by decide +kernel⟩
theorem sc__law_mul : FnScope ["one", "other"] ["one", "other"] (defScope s__law_mul) := ⟨rfl, rfl, rfl, by decide +kernel, rfl, by decide +kernel, by decide +kernel⟩
theorem sc__law_like : FnScope ["got", "due"] ["got", "due"] (defScope s__law_like) := ⟨rfl, rfl, rfl, by decide +kernel, rfl, by decide +kernel, by decide +kernel⟩
theorem sc__law_refusal : FnScope ["tell", "e", "found", "answer"] ["tell"] (defScope s__law_refusal) := ⟨rfl, rfl, rfl, by decide +kernel, rfl, by decide +kernel, by decide +kernel⟩
theorem sc__law_power : FnScope ["size"] ["size"] (defScope s__law_power) := ⟨rfl, rfl, rfl, by decide +kernel, rfl, by decide +kernel, by decide +kernel⟩
theorem sc__law_sum_of_powers : FnScope ["told", "worth", "item", "found", "raised"] ["told", "worth"] (defScope s__law_sum_of_powers) := ⟨rfl, rfl, rfl, by decide +kernel, rfl, by decide +kernel, by decide +kernel⟩
theorem sc__law_right : FnScope ["state", "size", "told", "got", "widest", "some", "worth", "turn"] ["state"] (defScope s__law_right) := ⟨rfl, rfl, rfl, by decide +kernel, rfl, by decide +kernel, by decide +kernel⟩
theorem sc__law_refused : FnScope ["state", "odd", "good", "lot", "bad", "tell", "at", "row_so", "none_so", "due"] ["state"] (defScope s__law_refused) := ⟨rfl, rfl, rfl, by decide +kernel, rfl, by decide +kernel, by decide +kernel⟩
theorem sc__law_borders : FnScope ["great", "told"] [] (defScope s__law_borders) := ⟨rfl, rfl, rfl, by decide +kernel, rfl, by decide +kernel, by decide +kernel⟩
theorem sc__law_named : FnScope ["told", "got"] [] (defScope s__law_named) := ⟨rfl, rfl, rfl, by decide +kernel, rfl, by decide +kernel, by decide +kernel⟩
theorem sc__law_errors : FnScope ["some", "got", "at", "item", "told", "k"] [] (defScope s__law_errors) := ⟨rfl, rfl, rfl, by decide +kernel, rfl, by decide +kernel, by decide +kernel⟩
theorem sc_law : FnScope ["script", "state", "turn"] ["script"] (defScope s_law) := ⟨rfl, rfl, rfl, by decide +kernel, rfl, by decide +kernel, by decide +kernel⟩
theorem sc_BadNumber_init : FnScope ["self", "value"] ["self", "value"] (defScope s_BadNumber_init) := ⟨rfl, rfl, rfl, by decide +kernel, rfl, by decide +kernel, by decide +kernel⟩
theorem sc_BadStep_init : FnScope ["self", "value"] ["self", "value"] (defScope s_BadStep_init) := ⟨rfl, rfl, rfl, by decide +kernel, rfl, by decide +kernel, by decide +kernel⟩
theorem sc_BadRow_init : FnScope ["self", "place"] ["self", "place"] (defScope s_BadRow_init) := ⟨rfl, rfl, rfl, by decide +kernel, rfl, by decide +kernel, by decide +kernel⟩
theorem sc_BadParameter_init : FnScope ["self", "value"] ["self", "value"] (defScope s_BadParameter_init) := ⟨rfl, rfl, rfl, by decide +kernel, rfl, by decide +kernel, by decide +kernel⟩
theorem sc_BadIndex_init : FnScope ["self", "value"] ["self", "value"] (defScope s_BadIndex_init) := ⟨rfl, rfl, rfl, by decide +kernel, rfl, by decide +kernel, by decide +kernel⟩
theorem sc_BadText_init : FnScope ["self", "line", "word"] ["self", "line", "word"] (defScope s_BadText_init) := ⟨rfl, rfl, rfl, by decide +kernel, rfl, by decide +kernel, by decide +kernel⟩
theorem sc_BadDeed_init : FnScope ["self", "place"] ["self", "place"] (defScope s_BadDeed_init) := ⟨rfl, rfl, rfl, by decide +kernel, rfl, by decide +kernel, by decide +kernel⟩
theorem sc_Unlike_init : FnScope ["self", "value"] ["self", "value"] (defScope s_Unlike_init) := ⟨rfl, rfl, rfl, by decide +kernel, rfl, by decide +kernel, by decide +kernel⟩
theorem sc_TooGreat_init : FnScope ["self", "most"] ["self", "most"] (defScope s_TooGreat_init) := ⟨rfl, rfl, rfl, by decide +kernel, rfl, by decide +kernel, by decide +kernel⟩
end My

set_option Elab.async false
set_option linter.all false
set_option maxRecDepth 100000
set_option maxHeartbeats 4000000
set_option exponentiation.threshold 20000
namespace My
open PySem PySem.Spec PyProof.Rows L2
/-- what the top leaves of names that the defs read -/
structure Txt (K : PySem.W.Frag) (mg : Str → Option Value) (t1 t2 t3 : Tok) : Prop where
  f_len : mg "len" = none
  f_isinstance : mg "isinstance" = none
  f_abs : mg "abs" = none
  f_all : mg "all" = none
  f_tuple : mg "tuple" = none
  f_list : mg "list" = none
  f_int : mg "int" = none
  f_max : mg "max" = none
  f_repr : mg "repr" = none
  f_range : mg "range" = none
  f_enumerate : mg "enumerate" = none
  f_reversed : mg "reversed" = none
  f_bool : mg "bool" = none
  f_ValueError : mg "ValueError" = none
  g_gcd : mg "gcd" = some (.builtin "math.gcd")
  g_lcm : mg "lcm" = some (.builtin "math.lcm")
  g_GREATEST : mg "GREATEST" = some (.int (10 ^ 60) t1)
  g_MOST_DEGREE : mg "MOST_DEGREE" = some (.int 64 t2)
  g_MOST_STEPS : mg "MOST_STEPS" = some (.int 8 t3)
/-! ### numbers as data -/
def nD (q : Int × Int) : PyData := .tuple [.int q.1, .int q.2]
def sD (s : List (Int × Int)) : PyData := .tuple (s.map nD)
/-- a value that is handed back, data told, nothing changed that was tracked -/
abbrev Told (K : PySem.W.Frag) (N : List Addr) (H : Hp) (d : PyData) (Q : VK) : Prop := ∀ v H', Same H H' → Dp K (cut N H') v d → Q v H'
/-- a new tuple of data -/
theorem told_tup {K : PySem.W.Frag} {N : List Addr} {H H1 : Hp} {p : Addr} {xs : List V} {ds : List PyData} {Q : VK} (k : Told K N H (.tuple ds) Q) (l : Live N H) (s : Same H H1) (n : H1 p = none) (d : DpAll K (cut N H1) xs ds) : Q (.ref p) (upd H1 p (.tup xs)) := by
  have np : p ∉ N := (l.same s).new n
  have s2 := same_new (o := .tup xs) n
  exact k _ _ (s.trans s2) (.tup (.inl (.inl (cut_at np upd_same))) (d.ext (Same.cut N s2)))
theorem dp_two {K : PySem.W.Frag} {H : Hp} {a b : Int} : DpAll K H [.int a, .int b] [.int a, .int b] := .cons (.int a) (.cons (.int b) .nil)
section
variable {P : Program} {w : World} {K : PySem.W.Frag} {mg : Str → Option Value} {base : Heap} {t1 t2 t3 : Tok} {f : Addr} {fd : FuncData}
/-! ### fraction -/
def sp_fraction (K : PySem.W.Frag) : Sp := fun vs H Q _ => ∃ (N : List Addr) (a b : Int), vs = [.int a, .int b] ∧ Live N H ∧ 0 < b ∧ b.natAbs.log2 < 9000 ∧ Told K N H (nD (fr a b)) Q
theorem ok_fraction (F : Fun K "fraction" "fraction" s_fraction f fd) (T : Txt K mg t1 t2 t3) : FnOk P w K mg base CX0 1 f fd ["top", "bottom"] (sp_fraction K) := by
  refine F.ok sc_fraction (fun vs H Q E h => ?_) (fun cdv A outer s H vs Q E hr h => ?_)
  · obtain ⟨N, a, b, rfl, _⟩ := h
    rfl
  · obtain ⟨N, a, b, rfl, l, hb, hz, k⟩ := h
    refine ⟨_, (pss_cons (ps_set (i := 2) sc_fraction.nd rfl (Or.inl rfl) (pe_callBfun cr_gcd (by rfl) T.g_gcd (pa_cons (pv 0) (pa_cons (pv 1) pa_nil))))
      (pss_cons (ps_if (pt_cmpR op_lt (pv 1) pe_int (nomark _)) (pss_one (ps_set (i := 2) sc_fraction.nd rfl (Or.inl rfl) (pe_un un_neg (pv 2)))) pss_nil)
      (pss_one (ps_ret (pe_tup (pa_cons (pe_op op_fdivW (pv 0) (pv 2)) (pa_cons (pe_op op_fdivW (pv 1) (pv 2)) pa_nil))))))), ?_⟩
    have hd : ∀ z, CDivW z (gc a b) := fun z => ⟨gc_pos hb, Nat.lt_of_le_of_lt (by
      have h1 := gc_le (a := a) hb
      have h2 : (gc a b).natAbs ≠ 0 := by have := gc_pos (a := a) hb; omega
      exact (Nat.le_log2 (by omega)).mpr (Nat.le_trans (Nat.log2_self_le h2) h1)) hz⟩
    refine ⟨_, rfl, _, rfl, a, b, rfl, _, rfl, _, _, rfl, rfl, _, rfl, ?_⟩
    rw [decide_eq_false (show ¬ b < 0 by omega)]
    refine iteF ?_
    refine ⟨_, rfl, _, rfl, _, _, rfl, rfl, hd _, _, rfl, _, rfl, _, _, rfl, rfl, hd _, (by show 2 ≤ sizeLine; decide), fun p hp => ?_⟩
    exact told_tup k l (Same.refl H) hp dp_two
/-! ### opened -/
theorem dp_num {K : PySem.W.Frag} {H : Hp} {v : V} {q : Int × Int} (h : Dp K H v (nD q)) : ∃ a, v = .ref a ∧ SqT K H a [.int q.1, .int q.2] := by
  obtain ⟨a, xs, rfl, h1, h2⟩ := h.tupI
  cases h2 with
  | cons x y =>
    cases y with
    | cons x2 y2 =>
      cases y2
      rw [x.i, x2.i] at h1
      exact ⟨a, rfl, h1⟩
theorem seq_un {K : PySem.W.Frag} {N : List Addr} {H : Hp} {a : Addr} {xs : List V} (h : SqT K (cut N H) a xs) : SqT K H a xs := Evl.ex_t (cut_same N H) h
theorem seq_same {K : PySem.W.Frag} {H H' : Hp} {a : Addr} {xs : List V} (s : Same H H') (h : SqT K H a xs) : SqT K H' a xs := Evl.ex_t s h
theorem lst_same {K : PySem.W.Frag} {H H' : Hp} {a : Addr} {xs : List V} (s : Same H H') (h : SqL K H a xs) : SqL K H' a xs := Evl.ex_l s h
theorem map_get {α β : Type} {f : α → β} {l : List α} {i : Nat} {y : β} (h : (l.map f)[i]? = some y) : ∃ x, l[i]? = some x ∧ y = f x := by
  rw [List.getElem?_map] at h
  cases e : l[i]? with
  | none => rw [e] at h; cases h
  | some x => rw [e] at h; exact ⟨x, rfl, (Option.some.inj h).symm⟩
theorem take_more {α : Type} {l : List α} {i : Nat} {x : α} (h : l[i]? = some x) : l.take (i + 1) = l.take i ++ [x] := by
  obtain ⟨h1, h2⟩ := List.getElem?_eq_some_iff.mp h
  rw [← h2]
  exact (List.take_append_getElem h1).symm
theorem mem_of_get {α : Type} {l : List α} {i : Nat} {x : α} (h : l[i]? = some x) : x ∈ l := List.mem_of_getElem? h
/-- a number of a step, read at its place -/
theorem step_at {K : PySem.W.Frag} {H : Hp} {xs : List V} {s : List (Int × Int)} {i : Nat} {x : V} (d : DpAll K H xs (s.map nD)) (h : xs[i]? = some x) : ∃ q a, s[i]? = some q ∧ x = .ref a ∧ SqT K H a [.int q.1, .int q.2] := by
  obtain ⟨e, h1, h2⟩ := d.get' h
  obtain ⟨q, h3, rfl⟩ := map_get h1
  obtain ⟨a, rfl, h4⟩ := dp_num h2
  exact ⟨q, a, h3, rfl, h4⟩
/-- bits of a step's numbers: tb above, pb below the line -/
structure Fit (tb pb : Nat) (s : List (Int × Int)) : Prop where
  pos : ∀ q ∈ s, 0 < q.2
  top : ∀ q ∈ s, q.1.natAbs < 2 ^ tb
  bot : ∀ q ∈ s, q.2.natAbs < 2 ^ pb
theorem lcm_take {pb : Nat} {s : List (Int × Int)} (h : ∀ q ∈ s, q.2.natAbs < 2 ^ pb) (i : Nat) : lcmL (s.take i) < 2 ^ (pb * s.length + 1) := by
  have h1 := lcmL_lt (s.take i) fun q hq => h q (List.mem_of_mem_take hq)
  refine Nat.lt_of_lt_of_le h1 (Nat.pow_le_pow_right (by decide) ?_)
  have : (s.take i).length ≤ s.length := by rw [List.length_take]; omega
  have := Nat.mul_le_mul_left pb this
  omega
def sp_opened (K : PySem.W.Frag) : Sp := fun vs H Q _ => ∃ (N : List Addr) (s : List (Int × Int)) (v : V) (tb pb : Nat), vs = [v] ∧ Live N H ∧ Dp K (cut N H) v (sD s) ∧ Fit tb pb s ∧ pb * s.length + pb + tb ≤ 8000 ∧ s.length ≤ 1000 ∧
  Told K N H (.tuple [.list ((tops s).map PyData.int), .int (lcmL s)]) Q
theorem ok_opened (F : Fun K "opened" "opened" s_opened f fd) (T : Txt K mg t1 t2 t3) : FnOk P w K mg base CX0 1 f fd ["numbers"] (sp_opened K) := by
  refine F.ok sc_opened (fun vs H Q E h => ?_) (fun cdv A outer s H vs Q E hr h => ?_)
  · obtain ⟨N, s, v, tb, pb, rfl, _⟩ := h
    rfl
  · obtain ⟨N, s, v, tb, pb, rfl, l, hv, fit, hz, hlen, k⟩ := h
    obtain ⟨a, xs, rfl, hS, hD⟩ := hv.tupI
    have hlx : xs.length = s.length := by rw [hD.length, List.length_map]
    refine ⟨_, (pss_cons (ps_set (i := 1) sc_opened.nd rfl (Or.inr rfl) pe_int)
      (pss_cons (ps_for PassesOwn.never rfl (pi_tup (pv 0)) (pg_tup rfl (pgs_cons (pg_name (i := 2) sc_opened.nd rfl (Or.inl rfl)) (pgs_cons (pg_name (i := 3) sc_opened.nd rfl (Or.inl rfl)) pgs_nil)))
      (pss_one (ps_set (i := 1) sc_opened.nd rfl (Or.inr rfl) (pe_callBfun cr_lcm (by rfl) T.g_lcm (pa_cons (pv 1) (pa_cons (pv 3) pa_nil))))))
      (pss_one (ps_ret (pe_tup (pa_cons (pe_lc (own := [("top", 4), ("part", 3)]) (g := gTup K 2 (gCons (gName 4) (gCons (gName 3) gNil))) rfl sc_opened.nd (pi_tup (pv 0)) (blkOk_by (N := ["numbers", "bottom", "_", "part", "top"]) (sc := defScope s_opened) (by decide +kernel)) (fun _ _ _ _ _ => by exact (pg_tup rfl (pgs_cons (pg_name (i := 4) sc_opened.nd rfl (Or.inl rfl)) (pgs_cons (pg_name (i := 3) sc_opened.nd rfl (Or.inl rfl)) pgs_nil)))) (fun _ _ _ _ _ => by exact pts_nil) (fun _ _ _ _ _ => by exact (pe_op op_mulW (pv 4) (pe_op op_fdivW (pv 1) (pv 3))))) (pa_cons (pv 1) pa_nil))))))), ?_⟩
    refine ⟨_, rfl, a, rfl, ⟨_, seq_un hS⟩, for_tup (K := K) (a := a) (xs := xs) (fun i σ H' => H' = H ∧ ∃ o1 o2, σ = [some (.ref a), some (.int (lcmL (s.take i))), o1, o2, none])
      ⟨rfl, _, _, rfl⟩ (fun i σ H' _ h => h.1 ▸ seq_un hS) ?_ ?_⟩
    · rintro i x σ H' hx ⟨rfl, o1, o2, rfl⟩
      obtain ⟨q, b, hq, rfl, hb⟩ := step_at hD hx
      refine ⟨b, _, rfl, seq_un hb, rfl, _, _, rfl, _, _, rfl, rfl, ?_⟩
      refine ⟨_, rfl, _, rfl, _, _, rfl, ?_, ?_, rfl, some (.int q.1), some (.int q.2), ?_⟩
      · rw [Int.natAbs_natCast]
        exact log_of (by decide) (Nat.lt_of_lt_of_le (lcm_take fit.bot i) (Nat.pow_le_pow_right (by decide) (by omega)))
      · refine log_of (by decide) (Nat.lt_of_lt_of_le (fit.bot q (mem_of_get hq)) (Nat.pow_le_pow_right (by decide) ?_))
        omega
      · rw [take_more hq, lcmL_snoc, Int.natAbs_natCast]
        rfl
    · rintro σ H' ⟨rfl, o1, o2, rfl⟩
      rw [hlx, List.take_length]
      refine ⟨_, rfl, a, rfl, ⟨_, seq_un hS⟩, fun D hD' => ?_⟩
      have nD' := l.new hD'
      refine lc_tup (K := K) (a := a) (xs := xs) (fun i H1 => H1 = upd H' D (.lst (((tops s).take i).map V.int))) rfl (fun i H1 _ h => h ▸ seq_same (same_new hD') (seq_un hS)) ?_ ?_
      · rintro i x H1 hx rfl
        obtain ⟨q, b, hq, rfl, hb⟩ := step_at hD hx
        have hq0 := fit.pos q (mem_of_get hq)
        have ht : (tops s)[i]? = some (q.1 * ((lcmL s : Int) / q.2)) := by
          unfold tops
          rw [List.getElem?_map, hq]
          rfl
        have hlc := lcmL_lt s fit.bot
        have hi := (List.getElem?_eq_some_iff.mp hx).1
        refine ⟨b, _, rfl, seq_same (same_new hD') (seq_un hb), rfl, _, _, rfl, _, _, rfl, rfl, rfl, ?_⟩
        refine ⟨_, rfl, _, rfl, _, rfl, _, _, rfl, rfl, wide_div hq0 (b := pb + 1) (Nat.lt_of_lt_of_le (fit.bot q (mem_of_get hq)) (Nat.pow_le_pow_right (by decide) (by omega))) (by omega) (by omega), _, _, rfl, rfl, ?_, ?_⟩
        · refine wide_mul (a := tb + 1) (b := pb * s.length + 1) (Nat.lt_of_lt_of_le (fit.top q (mem_of_get hq)) (Nat.pow_le_pow_right (by decide) (by omega))) (Nat.lt_of_le_of_lt (natAbs_div_le _ _) (by rw [Int.natAbs_natCast]; exact hlc)) (by omega) (by omega) (by omega)
        · refine ⟨_, upd_same, ?_, ?_⟩
          · rw [List.length_map, List.length_take]
            exact small1000 (by omega)
          · rw [upd_upd, take_more ht, List.map_append]
            rfl
      · rintro H1 rfl
        have e : (tops s).take xs.length = tops s := List.take_of_length_le (by unfold tops; rw [List.length_map, hlx]; exact Nat.le_refl _)
        rw [e]
        refine ⟨_, rfl, (by show 2 ≤ sizeLine; decide), fun p hp => ?_⟩
        refine told_tup k l (same_new hD') hp (.cons (.lst (.inl (.inl (cut_at nD' upd_same))) (DpAll.ints _)) (.cons (.int _) .nil))
/-! ### value_of -/
theorem for_rev {K : PySem.W.Frag} {a : Addr} {xs : List V} {g : TG} {tb : TS} {D : Ends} {σ : L2.St} {H : Hp} (Pv : Nat → L2.St → Hp → Prop) (h0 : Pv 0 σ H) (hl : ∀ i σ H, Pv i σ H → SqL K H a xs)
    (hs : ∀ i x σ H, i < xs.length → xs[xs.length - 1 - i]? = some x → Pv i σ H → g x σ H fun σ2 H2 => tb { D with nx := Pv (i + 1), ct := Pv (i + 1), bk := D.nx } σ2 H2) (hd : ∀ σ H, Pv xs.length σ H → D.nx σ H) :
    ∃ W : Nat → Nat → L2.St → Hp → Prop, (∃ m, W 0 m σ H) ∧ ∀ i m σ H, W i m σ H →
      ((Itv K a xs.length).stop i H ∧ D.nx σ H) ∨ ((Itv K a xs.length).go i H ∧ ∃ N : L2.St → Hp → Prop, (∀ σ' H', N σ' H' → ∃ m', m' < m ∧ W (i + 1) m' σ' H') ∧
        ∀ x H', (Itv K a xs.length).yld i H x H' → g x σ H' fun σ2 H2 => tb { D with nx := N, ct := N, bk := D.nx } σ2 H2) := by
  refine ⟨fun i m σ H => m = xs.length - i ∧ i ≤ xs.length ∧ Pv i σ H, ⟨xs.length, by simp, Nat.zero_le _, h0⟩, ?_⟩
  rintro i m σ H ⟨rfl, hi, p⟩
  have q := hl i σ H p
  by_cases hlt : i < xs.length
  · have hx : xs[xs.length - 1 - i]? = some (xs[xs.length - 1 - i]'(by omega)) := List.getElem?_eq_getElem _
    refine .inr ⟨⟨hlt, xs, _, q, hx⟩, Pv (i + 1), fun σ' H' p' => ⟨xs.length - (i + 1), by omega, rfl, hlt, p'⟩, fun x H' y => ?_⟩
    obtain ⟨rfl, y⟩ := y
    exact hs i x σ H' hlt (y xs q) p
  · have e : i = xs.length := by omega
    subst e
    exact .inl ⟨Nat.le_refl _, hd σ H p⟩
theorem dp_ints {K : PySem.W.Frag} {H : Hp} : ∀ {xs : List V} {ns : List Int}, DpAll K H xs (ns.map PyData.int) → xs = ns.map V.int
  | _, [], h => by cases h; rfl
  | _, n :: ns, h => by
    cases h with
    | cons x y => rw [x.i, dp_ints y]; rfl
theorem horn_lt {xn xd head : Int} {t n : Nat} (hn : xn.natAbs < 2 ^ n) (hd : xd.natAbs < 2 ^ n) (hh : head.natAbs < 2 ^ t) (rest : List Int) (hr : ∀ z ∈ rest, z.natAbs < 2 ^ t) :
    (horn xn xd head rest).1.natAbs < 2 ^ (t + (n + 1) * rest.length + 1) ∧ (horn xn xd head rest).2.natAbs < 2 ^ (n * rest.length + 1) := by
  revert hr
  refine snoc_ind rest ?_ ?_
  · intro _
    refine ⟨Nat.lt_of_lt_of_le hh (Nat.pow_le_pow_right (by decide) (by simp)), by simp [horn]⟩
  · intro l z ih hr
    obtain ⟨h1, h2⟩ := ih fun y hy => hr y (List.mem_append_left _ hy)
    have hz := hr z (List.mem_append_right _ List.mem_cons_self)
    rw [horn_snoc, List.length_append, List.length_singleton]
    have s2 : ((horn xn xd head l).2 * xd).natAbs < 2 ^ (n * (l.length + 1) + 1) := by
      rw [Int.natAbs_mul]
      have := Nat.mul_lt_mul'' h2 hd
      rw [← Nat.pow_add] at this
      rwa [show n * (l.length + 1) + 1 = n * l.length + 1 + n by rw [Nat.mul_add]; omega]
    refine ⟨?_, s2⟩
    show ((horn xn xd head l).1 * xn + z * ((horn xn xd head l).2 * xd)).natAbs < _
    have a1 : ((horn xn xd head l).1 * xn).natAbs < 2 ^ (t + (n + 1) * (l.length + 1)) := by
      rw [Int.natAbs_mul]
      have := Nat.mul_lt_mul'' h1 hn
      rw [← Nat.pow_add] at this
      rwa [show t + (n + 1) * (l.length + 1) = t + (n + 1) * l.length + 1 + n by rw [Nat.mul_add]; omega]
    have a2 : (z * ((horn xn xd head l).2 * xd)).natAbs < 2 ^ (t + (n + 1) * (l.length + 1)) := by
      rw [Int.natAbs_mul]
      have := Nat.mul_lt_mul'' hz s2
      rw [← Nat.pow_add] at this
      refine Nat.lt_of_lt_of_le this (Nat.pow_le_pow_right (by decide) ?_)
      have : (n + 1) * (l.length + 1) = n * (l.length + 1) + (l.length + 1) := by rw [Nat.add_mul, Nat.one_mul]
      omega
    have a3 := Int.natAbs_add_le ((horn xn xd head l).1 * xn) (z * ((horn xn xd head l).2 * xd))
    rw [Nat.pow_succ]
    omega
def sp_value_of (K : PySem.W.Frag) : Sp := fun vs H Q _ => ∃ (N : List Addr) (s : List (Int × Int)) (x : Int × Int) (v u : V) (tb pb nb : Nat), vs = [v, u] ∧ Live N H ∧ Dp K (cut N H) v (sD s) ∧ Dp K (cut N H) u (nD x) ∧
  Fit tb pb s ∧ s ≠ [] ∧ 0 < x.2 ∧ x.1.natAbs < 2 ^ nb ∧ x.2.natAbs < 2 ^ nb ∧ pb * s.length + pb + tb + (nb + 1) * s.length ≤ 8000 ∧ s.length ≤ 1000 ∧ Told K N H (nD (valOf s x)) Q
theorem ok_value_of (F : Fun K "value_of" "value_of" s_value_of f fd) (T : Txt K mg t1 t2 t3) (C_fraction : Ce P w K mg base CX0 1 "fraction" ["top", "bottom"] (sp_fraction K)) (C_opened : Ce P w K mg base CX0 1 "opened" ["numbers"] (sp_opened K)) :
    FnOk P w K mg base CX0 2 f fd ["step", "number"] (sp_value_of K) := by
  refine F.ok sc_value_of (fun vs H Q E h => ?_) (fun cdv A outer s H vs Q E hr h => ?_)
  · obtain ⟨N, s, x, v, u, tb, pb, nb, rfl, _⟩ := h
    rfl
  · obtain ⟨N, s, x, v, u, tb, pb, nb, rfl, l, hv, hu, fit, hne, hx, hx1, hx2, hz, hlen, k⟩ := h
    obtain ⟨a, rfl, hU⟩ := dp_num hu
    refine ⟨_, (pss_cons (ps_asg (pe_ce C_opened (hr.mono (by decide)) pass0 (pa_cons (pv 0) pa_nil)) (pg_tup rfl (pgs_cons (pg_name (i := 5) sc_value_of.nd rfl (Or.inl rfl)) (pgs_cons (pg_name (i := 6) sc_value_of.nd rfl (Or.inl rfl)) pgs_nil))))
      (pss_cons (ps_set (i := 2) sc_value_of.nd rfl (Or.inl rfl) (pe_ix ix_list (pv 5) (pe_un un_neg pe_int) (fun _ _ => rfl)))
      (pss_cons (ps_set (i := 3) sc_value_of.nd rfl (Or.inl rfl) pe_int)
      (pss_cons (ps_for PassesOwn.never rfl (pi_reversed (by rfl) T.f_reversed (pa_cons (pe_slice sl_list (pv 5) po_none (po_some (pe_un un_neg pe_int))) pa_nil)) (pg_name (i := 4) sc_value_of.nd rfl (Or.inl rfl))
      (pss_cons (ps_aug (i := 3) sc_value_of.nd rfl (Or.inl rfl) (pe_ix ix_tup (pv 1) pe_int (fun _ _ => rfl)) ip_mulW)
      (pss_one (ps_set (i := 2) sc_value_of.nd rfl (Or.inl rfl) (pe_op op_add (pe_op op_mulW (pv 2) (pe_ix ix_tup (pv 1) pe_int (fun _ _ => rfl))) (pe_op op_mulW (pv 4) (pv 3)))))))
      (pss_one (ps_ret (pe_ce C_fraction (hr.mono (by decide)) pass0 (pa_cons (pv 2) (pa_cons (pe_op op_mulW (pv 6) (pv 3)) pa_nil))))))))), ?_⟩
    refine ⟨_, rfl, N, s, v, tb, pb, rfl, l, hv, fit, by omega, hlen, fun r H1 s1 hr1 => ?_⟩
    obtain ⟨p, ys, rfl, hp, hys⟩ := hr1.tupI
    cases hys with
    | @cons y1 _ _ _ d1 r1 =>
    cases r1 with
    | @cons y2 _ _ _ d2 r2 =>
    cases r2
    obtain ⟨pl, zs, rfl, hpl, hzs⟩ := d1.lstI
    have e2 := d2.i
    subst e2
    have e3 := dp_ints hzs
    subst e3
    have hpl1 : SqL K H1 pl ((tops s).map V.int) := Evl.ex_l (cut_same N H1) hpl
    have tne := tops_ne hne
    have tlen : (tops s).length = s.length := by unfold tops; rw [List.length_map]
    have slen : 0 < s.length := List.length_pos_iff.mpr hne
    have hT := tops_lt fit.top fit.bot
    have hsp : pb * s.length + 1 + tb ≤ 8001 := by omega
    have eT : (tops s).dropLast ++ [(tops s).getLast?.getD 0] = tops s := by
      rw [List.getLast?_eq_some_getLast tne]
      exact List.dropLast_concat_getLast tne
    have hhead : ((tops s).getLast?.getD 0) ∈ tops s := by
      rw [List.getLast?_eq_some_getLast tne]
      exact List.getLast_mem tne
    have hdl : ∀ z ∈ (tops s).dropLast.reverse, z.natAbs < 2 ^ (tb + (pb * s.length + 1)) := fun z hz => hT z ((List.dropLast_sublist _).subset (List.mem_reverse.mp hz))
    refine ⟨p, _, rfl, seq_un hp, rfl, _, _, rfl, _, _, rfl, rfl, ?_⟩
    refine ⟨_, rfl, _, rfl, pl, _, _, V.int ((tops s).getLast?.getD 0), rfl, rfl, hpl1, ?_, ?_⟩
    · have : (tops s).map V.int = (tops s).dropLast.map V.int ++ [V.int ((tops s).getLast?.getD 0)] := by
        conv => lhs; rw [← eT]
        rw [List.map_append]
        rfl
      rw [this]
      exact atI_last _ _
    · refine ⟨_, rfl, _, rfl, _, rfl, pl, _, rfl, hpl1, fun q hq => ?_⟩
      have ecut : cutV ((tops s).map V.int) none (some (-1)) = (tops s).dropLast.map V.int := by
        unfold cutV
        have l0 : ((tops s).map V.int).length = (tops s).length := List.length_map _
        have e0 : HT.sIx ((tops s).map V.int).length 0 none = 0 := rfl
        have e1 : HT.sIx ((tops s).map V.int).length ((tops s).map V.int).length (some (-1)) = (tops s).length - 1 := by
          rw [l0]
          unfold HT.sIx
          simp
          omega
        rw [e0, e1, List.drop_zero, ← List.map_take, List.dropLast_eq_take]
        rfl
      rw [ecut]
      have sq := same_new (o := .lst ((tops s).dropLast.map V.int)) hq
      have S2 : Same H (upd H1 q (.lst ((tops s).dropLast.map V.int))) := s1.trans sq
      have nrev : (tops s).dropLast.reverse.length = (tops s).dropLast.length := List.length_reverse
      have ldl : (tops s).dropLast.length = s.length - 1 := by rw [List.length_dropLast, tlen]
      refine ⟨q, _, rfl, .inl (.inl upd_same), for_rev (K := K) (a := q) (xs := (tops s).dropLast.map V.int)
        (fun i σ H' => H' = upd H1 q (.lst ((tops s).dropLast.map V.int)) ∧ ∃ o, σ = [some v, some (.ref a), some (.int (horn x.1 x.2 ((tops s).getLast?.getD 0) ((tops s).dropLast.reverse.take i)).1), some (.int (horn x.1 x.2 ((tops s).getLast?.getD 0) ((tops s).dropLast.reverse.take i)).2), o, some (.ref pl), some (.int (lcmL s))])
        ⟨rfl, _, rfl⟩ (fun i σ H' h => h.1 ▸ .inl (.inl upd_same)) ?_ ?_⟩
      · rintro i y σ H' hi hy ⟨rfl, o, rfl⟩
        rw [List.length_map] at hi hy
        obtain ⟨t, ht, rfl⟩ := map_get hy
        have hrt : (tops s).dropLast.reverse[i]? = some t := by
          rw [List.getElem?_reverse hi]
          exact ht
        have ht1 := hdl t (mem_of_get hrt)
        have hU2 : SqT K (upd H1 q (.lst ((tops s).dropLast.map V.int))) a [.int x.1, .int x.2] := seq_same S2 (seq_un hU)
        have hb := horn_lt hx1 hx2 (hT _ hhead) ((tops s).dropLast.reverse.take i) (fun z hz => hdl z (List.mem_of_mem_take hz))
        have hil : ((tops s).dropLast.reverse.take i).length = i := by
          rw [List.length_take, nrev]
          omega
        rw [hil] at hb
        have hni : nb * i + nb ≤ nb * s.length := by
          have : i + 1 ≤ s.length := by omega
          have := Nat.mul_le_mul_left nb this
          rw [Nat.mul_add, Nat.mul_one] at this
          exact this
        have hni2 : (nb + 1) * i ≤ nb * i + s.length := by
          rw [Nat.add_mul, Nat.one_mul]
          omega
        have hnl : (nb + 1) * s.length = nb * s.length + s.length := by rw [Nat.add_mul, Nat.one_mul]
        have m1 : ((horn x.1 x.2 ((tops s).getLast?.getD 0) ((tops s).dropLast.reverse.take i)).2 * x.2).natAbs < 2 ^ (nb * i + 1 + nb) := wide_lt hb.2 hx2
        have W : ∀ {i j : Int} {c d : Nat}, i.natAbs < 2 ^ c → j.natAbs < 2 ^ d → c + d ≤ 900000 → CMulW i j := fun {i j c d} h1 h2 h3 =>
          wide_mul (a := c + 1) (b := d + 1) (Nat.lt_of_lt_of_le h1 (Nat.pow_le_pow_right (by decide) (by omega))) (Nat.lt_of_lt_of_le h2 (Nat.pow_le_pow_right (by decide) (by omega))) (by omega) (by omega) (by omega)
        refine ⟨_, rfl, _, rfl, a, _, 1, _, rfl, rfl, hU2, rfl, _, _, rfl, rfl, W hb.2 hx2 (by omega), ?_⟩
        refine ⟨_, rfl, _, rfl, a, _, 0, _, rfl, rfl, hU2, rfl, _, _, rfl, rfl, W hb.1 hx1 (by omega), _, rfl, _, rfl, _, _, rfl, rfl, W ht1 m1 (by omega), _, _, rfl, rfl, ?_⟩
        refine ⟨rfl, some (.int t), ?_⟩
        rw [take_more hrt, horn_snoc]
        rfl
      · rintro σ H' ⟨rfl, o, rfl⟩
        have efull : (tops s).dropLast.reverse.take ((tops s).dropLast.map V.int).length = (tops s).dropLast.reverse := List.take_of_length_le (by rw [List.length_map, nrev]; exact Nat.le_refl _)
        rw [efull]
        have hb := horn_lt hx1 hx2 (hT _ hhead) (tops s).dropLast.reverse hdl
        rw [nrev, ldl] at hb
        have hlp := lcmL_pos s fit.pos
        have hll := lcmL_lt s fit.bot
        have hhp := horn_pos (xn := x.1) (head := (tops s).getLast?.getD 0) hx (tops s).dropLast.reverse
        have hnl : (nb + 1) * s.length = nb * s.length + s.length := by rw [Nat.add_mul, Nat.one_mul]
        have hn1 : nb * (s.length - 1) ≤ nb * s.length := Nat.mul_le_mul_left nb (by omega)
        have hlb : ((lcmL s : Int)).natAbs < 2 ^ (pb * s.length + 1) := by rw [Int.natAbs_natCast]; exact hll
        have hm : ((lcmL s : Int) * (horn x.1 x.2 ((tops s).getLast?.getD 0) (tops s).dropLast.reverse).2).natAbs < 2 ^ (pb * s.length + 1 + (nb * (s.length - 1) + 1)) := wide_lt hlb hb.2
        refine ⟨_, rfl, _, rfl, _, rfl, _, _, rfl, rfl, wide_mul hlb hb.2 (by omega) (by omega) (by omega), ?_⟩
        refine ⟨N, _, _, rfl, l.same S2, Int.mul_pos (by omega) hhp, Nat.lt_of_lt_of_le (log_of (by omega) hm) (by omega), fun r H3 s3 hr3 => k r H3 (S2.trans s3) hr3⟩
end
end My

set_option Elab.async false
set_option linter.all false
set_option maxRecDepth 100000
set_option maxHeartbeats 4000000
set_option exponentiation.threshold 20000
namespace My
open PySem PySem.Spec PyProof.Rows L2
/-! ### what is a number, a step -/
def tyn : PyData → String
  | .none => "NoneType" | .bool _ => "bool" | .int _ => "int" | .str _ => "str" | .list _ => "list" | .tuple _ => "tuple" | .dict _ => "dict"
theorem ty_tup {K : PySem.W.Frag} {H : Hp} {a : Addr} {xs : List V} (h : SqT K H a xs) : TyX K H (.ref a) (.type "tuple") := by
  rcases h with (h | ⟨o, h⟩) | ⟨o, its, n, h, c, _⟩
  · exact .base (.tup h)
  · exact .fTuple h
  · exact .kTuple h c
theorem ty_lst {K : PySem.W.Frag} {H : Hp} {a : Addr} {xs : List V} (h : SqL K H a xs) : TyX K H (.ref a) (.type "list") := by
  rcases h with (h | ⟨o, h⟩) | ⟨o, its, n, h, c, _⟩
  · exact .base (.lst h)
  · exact .base (.frz h)
  · exact .kList h c
theorem ty_dp {K : PySem.W.Frag} {H : Hp} {v : V} {d : PyData} (h : Dp K H v d) : TyX K H v (.type (tyn d)) := by
  cases h with
  | non => exact .base .non
  | bl b => exact .base (.bl b)
  | int i => exact .base (.int i)
  | str x => exact .base (.str x)
  | lst a b => exact ty_lst a
  | tup a b => exact ty_tup a
theorem noDict_dp {K : PySem.W.Frag} {H : Hp} {v : V} {d : PyData} (h : Dp K H v d) : ∀ kvs, d ≠ .dict kvs := by
  intro kvs e
  subst e
  cases h
def isI : PyData → Bool
  | .int _ => true
  | _ => false
def isTup : PyData → Bool
  | .tuple _ => true
  | _ => false
theorem kit_tuple {K : PySem.W.Frag} {d : PyData} (h : ∀ kvs, d ≠ .dict kvs) : PySem.W.kitOne K (.type (tyn d)) (.type "tuple") = some (isTup d) := by
  cases d with
  | dict k => exact absurd rfl (h k)
  | none => exact kit_ty (show kitB "NoneType" "tuple" = some false by decide +kernel)
  | bool _ => exact kit_ty (show kitB "bool" "tuple" = some false by decide +kernel)
  | int _ => exact kit_ty (show kitB "int" "tuple" = some false by decide +kernel)
  | str _ => exact kit_ty (show kitB "str" "tuple" = some false by decide +kernel)
  | list _ => exact kit_ty (show kitB "list" "tuple" = some false by decide +kernel)
  | tuple _ => exact kit_ty (show kitB "tuple" "tuple" = some true by decide +kernel)
theorem kit_int {K : PySem.W.Frag} {d : PyData} (h : ∀ kvs, d ≠ .dict kvs) : ∃ b c, PySem.W.kitOne K (.type (tyn d)) (.type "int") = some b ∧ PySem.W.kitOne K (.type (tyn d)) (.type "bool") = some c ∧ isI d = (b && !c) := by
  cases d with
  | dict k => exact absurd rfl (h k)
  | none => exact ⟨false, false, kit_ty (show kitB "NoneType" "int" = some false by decide +kernel), kit_ty (show kitB "NoneType" "bool" = some false by decide +kernel), rfl⟩
  | bool x => exact ⟨true, true, kit_ty (show kitB "bool" "int" = some true by decide +kernel), kit_ty (show kitB "bool" "bool" = some true by decide +kernel), rfl⟩
  | int x => exact ⟨true, false, kit_ty (show kitB "int" "int" = some true by decide +kernel), kit_ty (show kitB "int" "bool" = some false by decide +kernel), rfl⟩
  | str x => exact ⟨false, false, kit_ty (show kitB "str" "int" = some false by decide +kernel), kit_ty (show kitB "str" "bool" = some false by decide +kernel), rfl⟩
  | list x => exact ⟨false, false, kit_ty (show kitB "list" "int" = some false by decide +kernel), kit_ty (show kitB "list" "bool" = some false by decide +kernel), rfl⟩
  | tuple x => exact ⟨false, false, kit_ty (show kitB "tuple" "int" = some false by decide +kernel), kit_ty (show kitB "tuple" "bool" = some false by decide +kernel), rfl⟩
def okNum (n d : Int) : Bool := decide (-(10 ^ 60) ≤ n) && (decide (n ≤ 10 ^ 60) && (decide (1 ≤ d) && (decide (d ≤ 10 ^ 60) && decide (gc n d = 1))))
def isNum : PyData → Bool
  | .tuple [.int n, .int d] => okNum n d
  | _ => false
def isStep : PyData → Bool
  | .tuple ds => decide (2 ≤ ds.length) && (decide (ds.length ≤ 65) && (ds.all isNum && !PyData.eqv (ds.getLast?.getD .none) (.tuple [.int 0, .int 1])))
  | _ => false
theorem isStep_tup (ds : List PyData) : isStep (.tuple ds) = (decide (2 ≤ ds.length) && (decide (ds.length ≤ 65) && (ds.all isNum && !PyData.eqv (ds.getLast?.getD .none) (.tuple [.int 0, .int 1])))) := rfl
section
variable {P : Program} {w : World} {K : PySem.W.Frag} {mg : Str → Option Value} {base : Heap} {t1 t2 t3 : Tok} {f : Addr} {fd : FuncData}
def sp_is_integer (K : PySem.W.Frag) : Sp := fun vs H Q _ => ∃ (v : V) (d : PyData), vs = [v] ∧ Dp K H v d ∧ Q (.bl (isI d)) H
theorem ok_is_integer (F : Fun K "is_integer" "is_integer" s_is_integer f fd) (T : Txt K mg t1 t2 t3) : FnOk P w K mg base CX0 1 f fd ["value"] (sp_is_integer K) := by
  refine F.ok sc_is_integer (fun vs H Q E h => ?_) (fun cdv A outer s H vs Q E hr h => ?_)
  · obtain ⟨v, d, rfl, _⟩ := h
    rfl
  · obtain ⟨v, d, rfl, hd, k⟩ := h
    obtain ⟨b, c, h1, h2, e⟩ := kit_int (K := K) (noDict_dp hd)
    rw [e] at k
    refine ⟨_, (pss_one (ps_ret (pe_and (pe_callB call_isi (by rfl) T.f_isinstance (by decide +kernel) (pa_cons (pv 0) (pa_cons (pe_bltn (v := .ty "int") rfl T.f_int (by decide +kernel) rfl) pa_nil))) (pe_one (pe_not (pe_callB call_isi (by rfl) T.f_isinstance (by decide +kernel) (pa_cons (pv 0) (pa_cons (pe_bltn (v := .ty "bool") rfl T.f_bool (by decide +kernel) rfl) pa_nil)))))))), ?_⟩
    refine ⟨_, rfl, _, _, _, _, b, rfl, .ty "int", ty_dp hd, h1, b, rfl, ?_⟩
    cases b with
    | true => exact ⟨_, rfl, _, _, _, _, c, rfl, .ty "bool", ty_dp hd, h2, c, rfl, k⟩
    | false => exact k
def sp_is_number (K : PySem.W.Frag) : Sp := fun vs H Q _ => ∃ (v : V) (d : PyData), vs = [v] ∧ Dp K H v d ∧ Q (.bl (isNum d)) H
theorem dp_twoI {K : PySem.W.Frag} {H : Hp} {xs : List V} {ds : List PyData} (h : DpAll K H xs ds) (h2 : ds.length = 2) : ∃ x y d e, xs = [x, y] ∧ ds = [d, e] ∧ Dp K H x d ∧ Dp K H y e := by
  match ds, h2, h with
  | [d, e], _, .cons a (.cons b .nil) => exact ⟨_, _, _, _, rfl, rfl, a, b⟩
theorem isNum_len {ds : List PyData} (h : ds.length ≠ 2) : isNum (.tuple ds) = false := by
  unfold isNum
  split
  · rename_i e
    cases e
    exact absurd rfl h
  · rfl
theorem isNum_not {d e : PyData} (h : (isI d && isI e) = false) : isNum (.tuple [d, e]) = false := by
  cases d <;> cases e <;> first | rfl | (simp [isI] at h)
theorem ok_is_number (F : Fun K "is_number" "is_number" s_is_number f fd) (T : Txt K mg t1 t2 t3) (C_is_integer : Ce P w K mg base CX0 1 "is_integer" ["value"] (sp_is_integer K)) : FnOk P w K mg base CX0 2 f fd ["value"] (sp_is_number K) := by
  refine F.ok sc_is_number (fun vs H Q E h => ?_) (fun cdv A outer s H vs Q E hr h => ?_)
  · obtain ⟨v, d, rfl, _⟩ := h
    rfl
  · obtain ⟨v, d, rfl, hd, k⟩ := h
    refine ⟨_, (pss_cons (ps_if (PW.pt (pw_or (pt_not (pt_val (pe_callB call_isi (by rfl) T.f_isinstance (by decide +kernel) (pa_cons (pv 0) (pa_cons (pe_bltn (v := .ty "tuple") rfl T.f_tuple (by decide +kernel) rfl) pa_nil))))) (pw_or1 (pt_cmpR op_ne (pe_callB call_len_seq (by rfl) T.f_len (by decide +kernel) (pa_cons (pv 0) pa_nil)) pe_int (nomark _))))) (pss_one (ps_ret pe_bl)) pss_nil)
      (pss_cons (ps_asg (pv 0) (pg_tup rfl (pgs_cons (pg_name (i := 1) sc_is_number.nd rfl (Or.inl rfl)) (pgs_cons (pg_name (i := 2) sc_is_number.nd rfl (Or.inl rfl)) pgs_nil))))
      (pss_cons (ps_if (PW.pt (pw_or (pt_not (pt_val (pe_ce C_is_integer (hr.mono (by decide)) pass0 (pa_cons (pv 1) pa_nil)))) (pw_or1 (pt_not (pt_val (pe_ce C_is_integer (hr.mono (by decide)) pass0 (pa_cons (pv 2) pa_nil))))))) (pss_one (ps_ret pe_bl)) pss_nil)
      (pss_cons (ps_if (PW.pt (pw_or (pt_cmpR op_gt (pe_callB call_abs (by rfl) T.f_abs (by decide +kernel) (pa_cons (pv 1) pa_nil)) (pe_glob (v := .int (10 ^ 60)) rfl T.g_GREATEST ⟨_, rfl⟩) (nomark _)) (pw_or (pt_cmpR op_lt (pv 2) pe_int (nomark _)) (pw_or1 (pt_cmpR op_gt (pv 2) (pe_glob (v := .int (10 ^ 60)) rfl T.g_GREATEST ⟨_, rfl⟩) (nomark _)))))) (pss_one (ps_ret pe_bl)) pss_nil)
      (pss_one (ps_ret (pe_cmpR op_eq (pe_callBfun cr_gcd (by rfl) T.g_gcd (pa_cons (pv 1) (pa_cons (pv 2) pa_nil))) pe_int (nomark _)))))))), ?_⟩
    refine ⟨_, rfl, _, _, _, _, isTup d, rfl, .ty "tuple", ty_dp hd, kit_tuple (noDict_dp hd), isTup d, rfl, ?_⟩
    cases hd with
    | non => exact k
    | bl b => exact k
    | int i => exact k
    | str x => exact k
    | lst a b => exact k
    | @tup a xs ds hS hD =>
      refine iteF ?_
      refine ⟨_, rfl, a, xs, rfl, .inr hS, rfl, _, rfl, ?_⟩
      have el : xs.length = ds.length := hD.length
      by_cases h2 : ds.length = 2
      · have e2 : (!decide (V.int (xs.length : Int) = V.int 2)) = false := by rw [el, h2]; rfl
        rw [e2]
        refine iteF ?_
        obtain ⟨x, y, d, e, rfl, rfl, hx, hy⟩ := dp_twoI hD h2
        refine ⟨_, rfl, a, _, rfl, hS, rfl, _, _, rfl, _, _, rfl, rfl, ?_⟩
        refine ⟨_, rfl, x, d, rfl, hx, isI d, rfl, ?_⟩
        cases hd1 : isI d with
        | false =>
          rw [isNum_not (by rw [hd1]; rfl)] at k
          exact k
        | true =>
          refine iteF ?_
          refine ⟨_, rfl, y, e, rfl, hy, isI e, rfl, ?_⟩
          cases he1 : isI e with
          | false =>
            rw [isNum_not (by rw [he1, Bool.and_false])] at k
            exact k
          | true =>
            refine iteF ?_
            obtain ⟨n, rfl⟩ : ∃ n, d = .int n := by cases d <;> first | exact ⟨_, rfl⟩ | cases hd1
            obtain ⟨m, rfl⟩ : ∃ n, e = .int n := by cases e <;> first | exact ⟨_, rfl⟩ | cases he1
            cases hx
            cases hy
            have ek : isNum (.tuple [.int n, .int m]) = okNum n m := rfl
            rw [ek] at k
            refine ⟨_, rfl, _, rfl, _, _, rfl, rfl, _, rfl, ?_⟩
            by_cases c1 : (10 : Int) ^ 60 < (if n < 0 then -n else n)
            · rw [decide_eq_true c1]
              have : okNum n m = false := by
                unfold okNum
                by_cases z : n < 0
                · rw [if_pos z] at c1
                  rw [decide_eq_false (show ¬ -(10 ^ 60) ≤ n by omega)]
                  rfl
                · rw [if_neg z] at c1
                  rw [decide_eq_false (show ¬ n ≤ 10 ^ 60 by omega), Bool.false_and, Bool.and_false]
              rw [this] at k
              exact k
            · rw [decide_eq_false c1]
              refine iteF ?_
              refine ⟨_, rfl, _, _, rfl, rfl, _, rfl, ?_⟩
              by_cases c2 : m < 1
              · rw [decide_eq_true c2]
                have : okNum n m = false := by
                  unfold okNum
                  rw [decide_eq_false (show ¬ 1 ≤ m by omega)]
                  simp
                rw [this] at k
                exact k
              · rw [decide_eq_false c2]
                refine iteF ?_
                refine ⟨_, rfl, _, _, rfl, rfl, _, rfl, ?_⟩
                by_cases c3 : (10 : Int) ^ 60 < m
                · rw [decide_eq_true c3]
                  have : okNum n m = false := by
                    unfold okNum
                    rw [decide_eq_false (show ¬ m ≤ 10 ^ 60 by omega)]
                    simp
                  rw [this] at k
                  exact k
                · rw [decide_eq_false c3]
                  refine iteF ?_
                  refine ⟨_, rfl, _, rfl, _, _, rfl, rfl, ?_⟩
                  have : okNum n m = decide (V.int (((Nat.gcd n.natAbs m.natAbs : Nat)) : Int) = V.int 1) := by
                    unfold okNum
                    have z1 : -(10 ^ 60) ≤ n := by
                      by_cases z : n < 0
                      · rw [if_pos z] at c1; omega
                      · omega
                    have z2 : n ≤ 10 ^ 60 := by
                      by_cases z : n < 0
                      · omega
                      · rw [if_neg z] at c1; omega
                    rw [decide_eq_true z1, decide_eq_true z2, decide_eq_true (show 1 ≤ m by omega), decide_eq_true (show m ≤ 10 ^ 60 by omega)]
                    show decide (gc n m = 1) = _
                    by_cases z : gc n m = 1
                    · rw [decide_eq_true z]
                      exact (decide_eq_true (congrArg V.int z)).symm
                    · rw [decide_eq_false z]
                      exact (decide_eq_false (fun q => z (V.int.inj q))).symm
                  rw [this] at k
                  exact k
      · have e2 : (!decide (V.int (xs.length : Int) = V.int 2)) = true := by
          rw [el, decide_eq_false (fun q => h2 (by have := V.int.inj q; omega))]
          rfl
        rw [e2]
        rw [isNum_len h2] at k
        exact k
/-! ### is_step -/
def sp_is_step (K : PySem.W.Frag) : Sp := fun vs H Q _ => ∃ (N : List Addr) (v : V) (d : PyData), vs = [v] ∧ Live N H ∧ Dp K (cut N H) v d ∧ ∀ H', Same H H' → Q (.bl (isStep d)) H'
theorem shaped_num : SeqAt.shaped (.tuple [.int 0, .int 1]) = true := by decide
theorem isNum_shape {d : PyData} (h : isNum d = true) : ∃ n m, d = .tuple [.int n, .int m] ∧ okNum n m = true := by
  unfold isNum at h
  split at h
  · exact ⟨_, _, rfl, h⟩
  · cases h
theorem shaped_of_num {d : PyData} (h : isNum d = true) : SeqAt.shaped d = true := by
  obtain ⟨n, m, rfl, _⟩ := isNum_shape h
  rfl
theorem ok_is_step (F : Fun K "is_step" "is_step" s_is_step f fd) (T : Txt K mg t1 t2 t3) (C_is_number : Ce P w K mg base CX0 2 "is_number" ["value"] (sp_is_number K)) : FnOk P w K mg base CX0 3 f fd ["value"] (sp_is_step K) := by
  refine F.ok sc_is_step (fun vs H Q E h => ?_) (fun cdv A outer s H vs Q E hr h => ?_)
  · obtain ⟨N, v, d, rfl, _⟩ := h
    rfl
  · obtain ⟨N, v, d, rfl, l, hdc, k⟩ := h
    refine ⟨_, (pss_cons (ps_if (PW.pt (pw_or (pt_not (pt_val (pe_callB call_isi (by rfl) T.f_isinstance (by decide +kernel) (pa_cons (pv 0) (pa_cons (pe_bltn (v := .ty "tuple") rfl T.f_tuple (by decide +kernel) rfl) pa_nil))))) (pw_or (pt_cmpR op_lt (pe_callB call_len_seq (by rfl) T.f_len (by decide +kernel) (pa_cons (pv 0) pa_nil)) pe_int (nomark _)) (pw_or1 (pt_cmpR op_gt (pe_callB call_len_seq (by rfl) T.f_len (by decide +kernel) (pa_cons (pv 0) pa_nil)) (pe_op op_add (pe_glob (v := .int 64) rfl T.g_MOST_DEGREE ⟨_, rfl⟩) pe_int) (nomark _)))))) (pss_one (ps_ret pe_bl)) pss_nil)
      (pss_one (ps_ret (pe_and (pe_callB (cr_all rfl) (by rfl) T.f_all (by decide +kernel) (pa_cons (pe_lc (own := [("number", 1)]) (g := gName 1) rfl sc_is_step.nd (pi_tup (pv 0)) (blkOk_by (N := ["value", "number"]) (sc := defScope s_is_step) (by decide +kernel)) (fun _ _ _ _ _ => by exact (pg_name (i := 1) sc_is_step.nd rfl (Or.inl rfl))) (fun _ _ _ _ _ => by exact pts_nil) (fun _ _ _ _ _ => by exact (pe_ce C_is_number (hr.mono (by decide)) pass0 (pa_cons (pv 1) pa_nil)))) pa_nil)) (pe_one (pe_cmpR (op_neD (un64 hr)) (pe_ix ix_tup (pv 0) (pe_un un_neg pe_int) (fun _ _ => rfl)) (pe_tup (pa_cons pe_int (pa_cons pe_int pa_nil))) (nomark _))))))), ?_⟩
    have hd := hdc.un
    refine ⟨_, rfl, _, _, _, _, isTup d, rfl, .ty "tuple", ty_dp hd, kit_tuple (noDict_dp hd), isTup d, rfl, ?_⟩
    cases hdc with
    | non => exact k H (Same.refl H)
    | bl b => exact k H (Same.refl H)
    | int i => exact k H (Same.refl H)
    | str x => exact k H (Same.refl H)
    | lst a b => exact k H (Same.refl H)
    | @tup a xs ds hSc hDc =>
      have hS := seq_un hSc
      have hD := hDc.un
      have el : xs.length = ds.length := hD.length
      refine iteF ?_
      refine ⟨_, rfl, a, xs, rfl, .inr hS, _, _, rfl, rfl, _, rfl, ?_⟩
      by_cases c1 : (xs.length : Int) < 2
      · rw [decide_eq_true c1]
        have : isStep (.tuple ds) = false := by
          rw [isStep_tup]
          rw [decide_eq_false (show ¬ 2 ≤ ds.length by omega)]
          rfl
        rw [this] at k
        exact k H (Same.refl H)
      · rw [decide_eq_false c1]
        refine iteF ?_
        refine ⟨_, rfl, a, xs, rfl, .inr hS, _, _, rfl, rfl, _, _, rfl, rfl, _, rfl, ?_⟩
        by_cases c2 : (64 + 1 : Int) < (xs.length : Int)
        · rw [decide_eq_true c2]
          have : isStep (.tuple ds) = false := by
            rw [isStep_tup]
            rw [decide_eq_false (show ¬ ds.length ≤ 65 by omega)]
            simp
          rw [this] at k
          exact k H (Same.refl H)
        · rw [decide_eq_false c2]
          refine iteF ?_
          have es : isStep (.tuple ds) = (ds.all isNum && !PyData.eqv (ds.getLast?.getD .none) (.tuple [.int 0, .int 1])) := by
            rw [isStep_tup]
            rw [decide_eq_true (show 2 ≤ ds.length by omega), decide_eq_true (show ds.length ≤ 65 by omega)]
            rfl
          rw [es] at k
          refine ⟨_, rfl, a, rfl, ⟨_, hS⟩, fun D hD' => ?_⟩
          refine lc_tup (K := K) (a := a) (xs := xs) (fun i H1 => H1 = upd H D (.lst ((ds.take i).map fun d => V.bl (isNum d)))) rfl (fun i H1 _ h => h ▸ seq_same (same_new hD') hS) ?_ ?_
          · rintro i x H1 hx rfl
            obtain ⟨e, h1, h2⟩ := hD.get' hx
            have hi := (List.getElem?_eq_some_iff.mp hx).1
            refine ⟨rfl, _, rfl, x, e, rfl, h2.ext (same_new hD'), _, upd_same, ?_, ?_⟩
            · rw [List.length_map, List.length_take]
              exact small1000 (by omega)
            · rw [upd_upd, take_more h1, List.map_append]
              rfl
          · rintro H1 rfl
            rw [el, List.take_length]
            refine ⟨D, ds.map isNum, rfl, .inl (.inl (by rw [upd_same, List.map_map]; rfl)), _, rfl, ?_⟩
            have eall : (ds.map isNum).all id = ds.all isNum := by rw [List.all_map]; rfl
            rw [eall]
            cases hall : ds.all isNum with
            | false =>
              rw [hall] at k
              exact k _ (same_new hD')
            | true =>
              refine iteT ?_
              rw [hall, Bool.true_and] at k
              have hne : ds ≠ [] := by
                intro z
                rw [z] at el
                rw [el] at c1
                simp at c1
              obtain ⟨ds', z, rfl⟩ : ∃ ds' z, ds = ds' ++ [z] := ⟨_, _, (List.dropLast_concat_getLast hne).symm⟩
              have hz : isNum z = true := List.all_eq_true.mp hall z (List.mem_append_right _ List.mem_cons_self)
              have el2 : (ds' ++ [z])[ds'.length]? = some z := by simp
              obtain ⟨y, hy, dy⟩ := hDc.get el2
              have hxl : xs.length = ds'.length + 1 := by rw [el]; simp
              have hxs : atI xs (-1) = some y := by
                have hne2 : xs ≠ [] := by intro q; rw [q] at hxl; simp at hxl
                rw [← List.dropLast_concat_getLast hne2]
                have : xs.getLast hne2 = y := by
                  rw [List.getLast_eq_getElem]
                  have h3 := List.getElem?_eq_some_iff.mp hy
                  obtain ⟨h4, h5⟩ := h3
                  rw [← h5]
                  congr 1
                  omega
                rw [this]
                exact atI_last _ _
              have S2 : Same H (upd H D (.lst ((ds' ++ [z]).map fun d => V.bl (isNum d)))) := same_new hD'
              refine ⟨_, rfl, _, rfl, a, xs, _, y, rfl, rfl, seq_same S2 hS, hxs, (by show 2 ≤ sizeLine; decide), fun p hp => ?_⟩
              have S3 := S2.trans (same_new (o := .tup [.int 0, .int 1]) hp)
              refine ⟨z, .tuple [.int 0, .int 1], dy.un.ext S3, .tup (.inl (.inl upd_same)) dp_two, shaped_of_num hz, shaped_num, ?_⟩
              have el3 : ((ds' ++ [z]).getLast?.getD .none) = z := by simp
              rw [el3] at k
              exact k _ S3
end
end My

set_option Elab.async false
set_option linter.all false
set_option maxRecDepth 100000
set_option maxHeartbeats 4000000
set_option exponentiation.threshold 20000
namespace My
open PySem PySem.Spec PyProof.Rows L2
/-! ### what is handed back or refused -/
inductive Er where
  | num | stp | row
def Er.fld : Er → Str
  | .num => "value" | .stp => "value" | .row => "place"
/-- the classes' addresses -/
structure Ads where
  n : Addr
  s : Addr
  r : Addr
def Ads.of (a : Ads) : Er → Addr
  | .num => a.n | .stp => a.s | .row => a.r
inductive Out where
  | ok (d : PyData) | er (e : Er) (d : PyData)
def ToldX (K : PySem.W.Frag) (a : Ads) (N : List Addr) (H : Hp) (o : Out) (Q : VK) (E : XK) : Prop := match o with
  | .ok d => Told K N H d Q
  | .er e d => ∀ p u H', Same H H' → H' p = some (.xd [(e.fld, u)]) → p ∉ N → Dp K (cut N H') u d → E (.ref (a.of e)) (some p) H'
structure Exs (P : Program) (w : World) (K : PySem.W.Frag) (mg : Str → Option Value) (base : Heap) (a : Ads) : Prop where
  x_BadNumber : Ec P w K mg base "BadNumber" "value" a.n
  x_BadStep : Ec P w K mg base "BadStep" "value" a.s
  x_BadRow : Ec P w K mg base "BadRow" "place" a.r
theorem told_er {K : PySem.W.Frag} {a : Ads} {N : List Addr} {H H1 : Hp} {e : Er} {d : PyData} {u : V} {p : Addr} {Q : VK} {E : XK} (k : ToldX K a N H (.er e d) Q E) (l : Live N H) (s : Same H H1) (n : H1 p = none) (hd : Dp K (cut N H1) u d) :
    E (.ref (a.of e)) (some p) (upd H1 p (.xd [(e.fld, u)])) :=
  k p u _ (s.trans (same_new n)) upd_same ((l.same s).new n) (hd.ext (Same.cut N (same_new n)))
theorem for_enumT {K : PySem.W.Frag} {a : Addr} {xs : List V} {g : TG} {tb : TS} {D : Ends} {σ : L2.St} {H : Hp} (Pv : Nat → L2.St → Hp → Prop) (h0 : Pv 0 σ H) (hl : ∀ i σ H, Pv i σ H → SqT K H a xs)
    (hs : ∀ i x σ H, xs[i]? = some x → Pv i σ H → ∀ T, H T = none → g (.ref T) σ (upd H T (.tup [.int (i : Nat), x])) fun σ2 H2 => tb { D with nx := Pv (i + 1), ct := Pv (i + 1), bk := D.nx } σ2 H2) (hd : ∀ σ H, Pv xs.length σ H → D.nx σ H) :
    ∃ W : Nat → Nat → L2.St → Hp → Prop, (∃ m, W 0 m σ H) ∧ ∀ i m σ H, W i m σ H →
      ((IteT K a).stop i H ∧ D.nx σ H) ∨ ((IteT K a).go i H ∧ ∃ N : L2.St → Hp → Prop, (∀ σ' H', N σ' H' → ∃ m', m' < m ∧ W (i + 1) m' σ' H') ∧
        ∀ x H', (IteT K a).yld i H x H' → g x σ H' fun σ2 H2 => tb { D with nx := N, ct := N, bk := D.nx } σ2 H2) := by
  refine ⟨fun i m σ H => m = xs.length - i ∧ i ≤ xs.length ∧ Pv i σ H, ⟨xs.length, by simp, Nat.zero_le _, h0⟩, ?_⟩
  rintro i m σ H ⟨rfl, hi, p⟩
  have q := hl i σ H p
  by_cases hlt : i < xs.length
  · have hx : xs[i]? = some (xs[i]) := List.getElem?_eq_getElem _
    refine .inr ⟨⟨xs, _, q, hx⟩, Pv (i + 1), fun σ' H' p' => ⟨xs.length - (i + 1), by omega, rfl, hlt, p'⟩, fun v H' y => ?_⟩
    obtain ⟨T, x, rfl, nT, rfl, y⟩ := y
    exact hs i x σ H (y xs q) p T nT
  · have e : i = xs.length := by omega
    subst e
    exact .inl ⟨⟨xs, q, Nat.le_refl _⟩, hd σ H p⟩
section
variable {P : Program} {w : World} {K : PySem.W.Frag} {mg : Str → Option Value} {base : Heap} {t1 t2 t3 : Tok} {f : Addr} {fd : FuncData} {ad : Ads}
def needOut (p : PyData → Bool) (e : Er) (d : PyData) : Out := if p d = true then .ok d else .er e d
def sp_need (p : PyData → Bool) (e : Er) (ad : Ads) (K : PySem.W.Frag) : Sp := fun vs H Q E => ∃ (N : List Addr) (v : V) (d : PyData), vs = [v] ∧ Live N H ∧ Dp K (cut N H) v d ∧ ToldX K ad N H (needOut p e d) Q E
theorem needOut_ok {p : PyData → Bool} {e : Er} {d : PyData} (h : p d = true) : needOut p e d = .ok d := if_pos h
theorem needOut_er {p : PyData → Bool} {e : Er} {d : PyData} (h : p d = false) : needOut p e d = .er e d := if_neg (by rw [h]; exact Bool.false_ne_true)
theorem ok_need_number (F : Fun K "need_number" "need_number" s_need_number f fd) (T : Txt K mg t1 t2 t3) (XS : Exs P w K mg base ad) (C_is_number : Ce P w K mg base CX0 2 "is_number" ["value"] (sp_is_number K)) :
    FnOk P w K mg base (L2.CX P w) 4 f fd ["value"] (sp_need isNum .num ad K) := by
  refine F.okX sc_need_number (fun vs H Q E h => ?_) (fun cdv A outer s H vs Q E hr h => ?_)
  · obtain ⟨N, v, d, rfl, _⟩ := h
    rfl
  · obtain ⟨N, v, d, rfl, l, hd, k⟩ := h
    refine ⟨_, (pss_cons (ps_if (pt_not (pt_val (pe_ce C_is_number (hr.mono (by decide)) pass0 (pa_cons (pv 0) pa_nil)))) (pss_one (ps_raise rfl (takes_of rfl rfl rfl rfl) (pmk_ec XS.x_BadNumber hr (pa_cons (pv 0) pa_nil)))) pss_nil)
      (pss_one (ps_ret (pv 0)))), ?_⟩
    refine ⟨_, rfl, v, d, rfl, hd.un, isNum d, rfl, ?_⟩
    cases e : isNum d with
    | true =>
      rw [needOut_ok e] at k
      exact ⟨_, rfl, k v H (Same.refl H) hd⟩
    | false =>
      rw [needOut_er e] at k
      exact ⟨_, rfl, mk_fill XS.x_BadNumber fun q hq => told_er k l (Same.refl H) hq hd⟩
theorem ok_need_step (F : Fun K "need_step" "need_step" s_need_step f fd) (T : Txt K mg t1 t2 t3) (XS : Exs P w K mg base ad) (C_is_step : Ce P w K mg base CX0 3 "is_step" ["value"] (sp_is_step K)) :
    FnOk P w K mg base (L2.CX P w) 4 f fd ["value"] (sp_need isStep .stp ad K) := by
  refine F.okX sc_need_step (fun vs H Q E h => ?_) (fun cdv A outer s H vs Q E hr h => ?_)
  · obtain ⟨N, v, d, rfl, _⟩ := h
    rfl
  · obtain ⟨N, v, d, rfl, l, hd, k⟩ := h
    refine ⟨_, (pss_cons (ps_if (pt_not (pt_val (pe_ce C_is_step (hr.mono (by decide)) pass0 (pa_cons (pv 0) pa_nil)))) (pss_one (ps_raise rfl (takes_of rfl rfl rfl rfl) (pmk_ec XS.x_BadStep hr (pa_cons (pv 0) pa_nil)))) pss_nil)
      (pss_one (ps_ret (pv 0)))), ?_⟩
    refine ⟨_, rfl, N, v, d, rfl, l, hd, fun H1 s1 => ⟨isStep d, rfl, ?_⟩⟩
    cases e : isStep d with
    | true =>
      rw [needOut_ok e] at k
      exact ⟨_, rfl, k v H1 s1 (hd.ext (Same.cut N s1))⟩
    | false =>
      rw [needOut_er e] at k
      exact ⟨_, rfl, mk_fill XS.x_BadStep fun q hq => told_er k l s1 hq (hd.ext (Same.cut N s1))⟩
/-! ### a step's degree, head, plainness -/
def degOut (d : PyData) : Out := match needOut isStep .stp d with
  | .ok (.tuple ds) => .ok (.int ((ds.length : Int) - 1))
  | o => o
def headOut (d : PyData) : Out := match needOut isStep .stp d with
  | .ok (.tuple ds) => .ok (ds.getLast?.getD .none)
  | o => o
theorem isStep_shape {d : PyData} (h : isStep d = true) : ∃ ds, d = .tuple ds ∧ 2 ≤ ds.length ∧ ds.length ≤ 65 ∧ ds.all isNum = true := by
  cases d with
  | tuple ds =>
    rw [isStep_tup] at h
    simp only [Bool.and_eq_true, decide_eq_true_eq] at h
    exact ⟨ds, rfl, h.1, h.2.1, h.2.2.1⟩
  | _ => cases h
def sp_out1 (o : PyData → Out) (ad : Ads) (K : PySem.W.Frag) : Sp := fun vs H Q E => ∃ (N : List Addr) (v : V) (d : PyData), vs = [v] ∧ Live N H ∧ Dp K (cut N H) v d ∧ ToldX K ad N H (o d) Q E
theorem ok_degree_of (F : Fun K "degree_of" "degree_of" s_degree_of f fd) (T : Txt K mg t1 t2 t3) (C_need_step : Ce P w K mg base (L2.CX P w) 4 "need_step" ["value"] (sp_need isStep .stp ad K)) :
    FnOk P w K mg base (L2.CX P w) 5 f fd ["step"] (sp_out1 degOut ad K) := by
  refine F.okX sc_degree_of (fun vs H Q E h => ?_) (fun cdv A outer s H vs Q E hr h => ?_)
  · obtain ⟨N, v, d, rfl, _⟩ := h
    rfl
  · obtain ⟨N, v, d, rfl, l, hd, k⟩ := h
    refine ⟨_, (pss_one (ps_ret (pe_op op_sub (pe_callB call_len_seq (by rfl) T.f_len (by decide +kernel) (pa_cons (pe_ce C_need_step (hr.mono (by decide)) passX (pa_cons (pv 0) pa_nil)) pa_nil)) pe_int))), ?_⟩
    refine ⟨_, rfl, N, v, d, rfl, l, hd, ?_⟩
    cases e : isStep d with
    | true =>
      unfold degOut at k
      obtain ⟨ds, rfl, _⟩ := isStep_shape e
      rw [needOut_ok e] at k ⊢
      intro u H1 s1 hu
      obtain ⟨a, xs, rfl, hS, hD⟩ := hu.tupI
      refine ⟨a, xs, rfl, .inr (seq_un hS), _, _, rfl, rfl, ?_⟩
      rw [hD.length]
      exact k _ H1 s1 (.int _)
    | false =>
      unfold degOut at k
      rw [needOut_er e] at k ⊢
      exact k
theorem last_at {K : PySem.W.Frag} {H : Hp} {xs : List V} {ds : List PyData} (h : DpAll K H xs ds) (hne : ds ≠ []) : ∃ y, atI xs (-1) = some y ∧ Dp K H y (ds.getLast?.getD .none) := by
  obtain ⟨ds', z, rfl⟩ : ∃ ds' z, ds = ds' ++ [z] := ⟨_, _, (List.dropLast_concat_getLast hne).symm⟩
  have el := h.length
  have el2 : (ds' ++ [z])[ds'.length]? = some z := by simp
  obtain ⟨y, hy, dy⟩ := h.get el2
  have hxl : xs.length = ds'.length + 1 := by rw [el]; simp
  have hne2 : xs ≠ [] := by intro q; rw [q] at hxl; simp at hxl
  refine ⟨y, ?_, by simpa using dy⟩
  have e : xs.getLast hne2 = y := by
    rw [List.getLast_eq_getElem]
    obtain ⟨h4, h5⟩ := List.getElem?_eq_some_iff.mp hy
    rw [← h5]
    congr 1
    omega
  rw [← List.dropLast_concat_getLast hne2, e]
  exact atI_last _ _
theorem ok_head_of (F : Fun K "head_of" "head_of" s_head_of f fd) (T : Txt K mg t1 t2 t3) (C_need_step : Ce P w K mg base (L2.CX P w) 4 "need_step" ["value"] (sp_need isStep .stp ad K)) :
    FnOk P w K mg base (L2.CX P w) 5 f fd ["step"] (sp_out1 headOut ad K) := by
  refine F.okX sc_head_of (fun vs H Q E h => ?_) (fun cdv A outer s H vs Q E hr h => ?_)
  · obtain ⟨N, v, d, rfl, _⟩ := h
    rfl
  · obtain ⟨N, v, d, rfl, l, hd, k⟩ := h
    refine ⟨_, (pss_one (ps_ret (pe_ix ix_tup (pe_ce C_need_step (hr.mono (by decide)) passX (pa_cons (pv 0) pa_nil)) (pe_un un_neg pe_int) (fun _ _ => rfl)))), ?_⟩
    refine ⟨_, rfl, N, v, d, rfl, l, hd, ?_⟩
    cases e : isStep d with
    | true =>
      unfold headOut at k
      obtain ⟨ds, rfl, h2, _⟩ := isStep_shape e
      rw [needOut_ok e] at k ⊢
      intro u H1 s1 hu
      obtain ⟨a, xs, rfl, hS, hD⟩ := hu.tupI
      obtain ⟨y, hy, dy⟩ := last_at hD (by intro z; rw [z] at h2; simp at h2)
      exact ⟨_, rfl, a, xs, _, y, rfl, rfl, seq_un hS, hy, k _ H1 s1 dy⟩
    | false =>
      unfold headOut at k
      rw [needOut_er e] at k ⊢
      exact k
/-! ### is_plain -/
def plainOut (d : PyData) : Out := match needOut isStep .stp d with
  | .ok (.tuple ds) => .ok (.bool (PyData.eqv (ds.head?.getD .none) (nD (0, 1)) && PyData.eqv (ds.getLast?.getD .none) (nD (1, 1))))
  | o => o
theorem all_last {ds : List PyData} (h : ds.all isNum = true) (hne : ds ≠ []) : isNum (ds.getLast?.getD .none) = true := by
  rw [List.getLast?_eq_some_getLast hne]
  exact List.all_eq_true.mp h _ (List.getLast_mem hne)
theorem ok_is_plain (F : Fun K "is_plain" "is_plain" s_is_plain f fd) (T : Txt K mg t1 t2 t3) (C_need_step : Ce P w K mg base (L2.CX P w) 4 "need_step" ["value"] (sp_need isStep .stp ad K)) :
    FnOk P w K mg base (L2.CX P w) 5 f fd ["step"] (sp_out1 plainOut ad K) := by
  refine F.okX sc_is_plain (fun vs H Q E h => ?_) (fun cdv A outer s H vs Q E hr h => ?_)
  · obtain ⟨N, v, d, rfl, _⟩ := h
    rfl
  · obtain ⟨N, v, d, rfl, l, hd, k⟩ := h
    refine ⟨_, (pss_cons (ps_expr (pe_ce C_need_step (hr.mono (by decide)) passX (pa_cons (pv 0) pa_nil)))
      (pss_one (ps_ret (pe_and (pe_cmpR (op_eqD (un64 hr)) (pe_ix ix_tup (pv 0) pe_int (fun _ _ => rfl)) (pe_tup (pa_cons pe_int (pa_cons pe_int pa_nil))) (nomark _)) (pe_one (pe_cmpR (op_eqD (un64 hr)) (pe_ix ix_tup (pv 0) (pe_un un_neg pe_int) (fun _ _ => rfl)) (pe_tup (pa_cons pe_int (pa_cons pe_int pa_nil))) (nomark _))))))), ?_⟩
    refine ⟨_, rfl, N, v, d, rfl, l, hd, ?_⟩
    cases e : isStep d with
    | true =>
      unfold plainOut at k
      obtain ⟨ds, rfl, h2, _, hall⟩ := isStep_shape e
      rw [needOut_ok e] at k ⊢
      intro u H1 s1 hu
      obtain ⟨a, xs, rfl, hS, hD⟩ := hd.tupI
      have hne : ds ≠ [] := by intro z; rw [z] at h2; simp at h2
      obtain ⟨y, hy, dy⟩ := last_at hD hne
      obtain ⟨d0, ds', rfl⟩ : ∃ d0 ds', ds = d0 :: ds' := by
        cases ds with
        | nil => exact absurd rfl hne
        | cons a b => exact ⟨a, b, rfl⟩
      have k : Told K N H (.bool (PyData.eqv ((d0 :: ds').head?.getD .none) (nD (0, 1)) && PyData.eqv ((d0 :: ds').getLast?.getD .none) (nD (1, 1)))) Q := k
      obtain ⟨x0, hx0, dx0⟩ := hD.get (i := 0) rfl
      have hn0 : isNum d0 = true := List.all_eq_true.mp hall d0 List.mem_cons_self
      have hnl := all_last hall hne
      have hS1 := seq_same s1 (seq_un hS)
      refine ⟨_, rfl, a, xs, 0, x0, rfl, rfl, hS1, atI_nat hx0, (by show 2 ≤ sizeLine; decide), fun p hp => ?_⟩
      have S2 := s1.trans (same_new (o := .tup [.int 0, .int 1]) hp)
      refine ⟨d0, nD (0, 1), dx0.un.ext S2, .tup (.inl (.inl upd_same)) dp_two, shaped_of_num hn0, shaped_num, _, rfl, ?_⟩
      cases e0 : PyData.eqv d0 (nD (0, 1)) with
      | false =>
        have : (PyData.eqv ((d0 :: ds').head?.getD .none) (nD (0, 1)) && PyData.eqv ((d0 :: ds').getLast?.getD .none) (nD (1, 1))) = false := by
          show (PyData.eqv d0 (nD (0, 1)) && _) = false
          rw [e0]
          rfl
        rw [this] at k
        exact k _ _ S2 (.bl _)
      | true =>
        refine iteT ?_
        refine ⟨_, rfl, _, rfl, a, xs, _, y, rfl, rfl, seq_same S2 (seq_un hS), hy, (by show 2 ≤ sizeLine; decide), fun p2 hp2 => ?_⟩
        have S3 := S2.trans (same_new (o := .tup [.int 1, .int 1]) hp2)
        refine ⟨_, nD (1, 1), dy.un.ext S3, .tup (.inl (.inl upd_same)) dp_two, shaped_of_num hnl, shaped_num, ?_⟩
        have : (PyData.eqv ((d0 :: ds').head?.getD .none) (nD (0, 1)) && PyData.eqv ((d0 :: ds').getLast?.getD .none) (nD (1, 1))) = PyData.eqv ((d0 :: ds').getLast?.getD .none) (nD (1, 1)) := by
          show (PyData.eqv d0 (nD (0, 1)) && _) = _
          rw [e0]
          rfl
        rw [this] at k
        exact k _ _ S3 (.bl _)
    | false =>
      unfold plainOut at k
      rw [needOut_er e] at k ⊢
      exact k
/-! ### value_at -/
theorem small_great {n : Int} (h1 : -(10 ^ 60) ≤ n) (h2 : n ≤ 10 ^ 60) : n.natAbs < 2 ^ 200 := by
  have : n.natAbs ≤ 10 ^ 60 := by omega
  exact Nat.lt_of_le_of_lt this (by decide)
theorem num_of {d : PyData} (h : isNum d = true) : ∃ q : Int × Int, d = nD q ∧ 0 < q.2 ∧ q.1.natAbs < 2 ^ 200 ∧ q.2.natAbs < 2 ^ 200 ∧ Low q := by
  obtain ⟨n, m, rfl, ho⟩ := isNum_shape h
  unfold okNum at ho
  simp only [Bool.and_eq_true, decide_eq_true_eq] at ho
  obtain ⟨h1, h2, h3, h4, h5⟩ := ho
  exact ⟨(n, m), rfl, by show 0 < m; omega, small_great h1 h2, small_great (by omega) h4, by show 0 < m; omega, h5⟩
theorem nums_of : ∀ {ds : List PyData}, ds.all isNum = true → ∃ s : List (Int × Int), ds = s.map nD ∧ Fit 200 200 s
  | [], _ => ⟨[], rfl, ⟨fun _ h => (by cases h), fun _ h => (by cases h), fun _ h => (by cases h)⟩⟩
  | d :: ds, h => by
    rw [List.all_cons, Bool.and_eq_true] at h
    obtain ⟨q, e, h1, h2, h3, _⟩ := num_of h.1
    obtain ⟨s, e2, F⟩ := nums_of h.2
    refine ⟨q :: s, by rw [e, e2]; rfl, ⟨fun r hr => ?_, fun r hr => ?_, fun r hr => ?_⟩⟩ <;>
    · rcases List.mem_cons.mp hr with z | z
      · rw [z]; assumption
      · first | exact F.pos r z | exact F.top r z | exact F.bot r z
theorem nD_inj {p q : Int × Int} (h : nD p = nD q) : p = q := by
  obtain ⟨a, b⟩ := p
  obtain ⟨c, d⟩ := q
  unfold nD at h
  injection h with h
  injection h with h1 h
  injection h1 with h1
  injection h with h2 h
  injection h2 with h2
  simp only at h1 h2
  rw [h1, h2]
theorem map_nD_inj : ∀ {s t : List (Int × Int)}, s.map nD = t.map nD → s = t
  | [], [], _ => rfl
  | [], _ :: _, h => by cases h
  | _ :: _, [], h => by cases h
  | a :: s, b :: t, h => by
    rw [List.map_cons, List.map_cons] at h
    injection h with h1 h2
    rw [nD_inj h1, map_nD_inj h2]
def sp_value_at (ad : Ads) (K : PySem.W.Frag) : Sp := fun vs H Q E => ∃ (N : List Addr) (v u : V) (d e : PyData), vs = [v, u] ∧ Live N H ∧ Dp K (cut N H) v d ∧ Dp K (cut N H) u e ∧
  (isStep d = false → ToldX K ad N H (.er .stp d) Q E) ∧ (isStep d = true → isNum e = false → ToldX K ad N H (.er .num e) Q E) ∧
  (isStep d = true → isNum e = true → ∃ (s : List (Int × Int)) (x : Int × Int), d = sD s ∧ e = nD x ∧ s.length ≤ 15 ∧ Told K N H (nD (valOf s x)) Q)
theorem ok_value_at (F : Fun K "value_at" "value_at" s_value_at f fd) (T : Txt K mg t1 t2 t3) (C_need_step : Ce P w K mg base (L2.CX P w) 4 "need_step" ["value"] (sp_need isStep .stp ad K))
    (C_need_number : Ce P w K mg base (L2.CX P w) 4 "need_number" ["value"] (sp_need isNum .num ad K)) (C_value_of : Ce P w K mg base CX0 2 "value_of" ["step", "number"] (sp_value_of K)) :
    FnOk P w K mg base (L2.CX P w) 5 f fd ["step", "number"] (sp_value_at ad K) := by
  refine F.okX sc_value_at (fun vs H Q E h => ?_) (fun cdv A outer s H vs Q E hr h => ?_)
  · obtain ⟨N, v, u, d, e, rfl, _⟩ := h
    rfl
  · obtain ⟨N, v, u, d, e, rfl, l, hd, he, k1, k2, k3⟩ := h
    refine ⟨_, (pss_cons (ps_expr (pe_ce C_need_step (hr.mono (by decide)) passX (pa_cons (pv 0) pa_nil)))
      (pss_cons (ps_expr (pe_ce C_need_number (hr.mono (by decide)) passX (pa_cons (pv 1) pa_nil)))
      (pss_one (ps_ret (pe_ce C_value_of (hr.mono (by decide)) pass0 (pa_cons (pv 0) (pa_cons (pv 1) pa_nil))))))), ?_⟩
    refine ⟨_, rfl, N, v, d, rfl, l, hd, ?_⟩
    cases es : isStep d with
    | false =>
      rw [needOut_er es]
      exact k1 es
    | true =>
      rw [needOut_ok es]
      intro v1 H1 s1 hv1
      refine ⟨_, rfl, N, u, e, rfl, l.same s1, he.ext (Same.cut N s1), ?_⟩
      cases en : isNum e with
      | false =>
        rw [needOut_er en]
        have k := k2 es en
        exact fun p x H' s' h1 h2 h3 => k p x H' (s1.trans s') h1 h2 h3
      | true =>
        rw [needOut_ok en]
        intro u1 H2 s2 hu1
        obtain ⟨st, x, rfl, rfl, hlen, k⟩ := k3 es en
        obtain ⟨ds, eds, h2, _, hall⟩ := isStep_shape es
        have eds' : ds = st.map nD := by injection eds with q; exact q.symm
        obtain ⟨s3, e3, fit⟩ := nums_of hall
        have e4 : st = s3 := map_nD_inj (eds'.symm.trans e3)
        subst e4
        obtain ⟨q, eq, q1, q2, q3, _⟩ := num_of en
        have e5 := nD_inj eq
        subst e5
        have S := s1.trans s2
        have hne : st ≠ [] := by
          intro z
          rw [eds', z] at h2
          simp at h2
        refine ⟨_, rfl, _, rfl, N, st, x, v, u, 200, 200, 200, rfl, l.same S, hd.ext (Same.cut N S), he.ext (Same.cut N S), fit, hne, q1, q2, q3, by omega, by omega, fun r H3 s3 hr3 => k r H3 (S.trans s3) hr3⟩
/-! ### need_row -/
def rowOut (d : PyData) : Out := match d with
  | .tuple ds => if 1 ≤ ds.length ∧ ds.length ≤ 8 then (match ds.findIdx? fun e => !isStep e with
      | none => .ok d
      | some i => .er .row (.tuple [.int (i : Nat)])) else .er .row (.tuple [])
  | _ => .er .row (.tuple [])
theorem ok_need_row (F : Fun K "need_row" "need_row" s_need_row f fd) (T : Txt K mg t1 t2 t3) (XS : Exs P w K mg base ad) (C_is_step : Ce P w K mg base CX0 3 "is_step" ["value"] (sp_is_step K)) :
    FnOk P w K mg base (L2.CX P w) 5 f fd ["value"] (sp_out1 rowOut ad K) := by
  refine F.okX sc_need_row (fun vs H Q E h => ?_) (fun cdv A outer s H vs Q E hr h => ?_)
  · obtain ⟨N, v, d, rfl, _⟩ := h
    rfl
  · obtain ⟨N, v, d, rfl, l, hdc, k⟩ := h
    refine ⟨_, (pss_cons (ps_if (PW.pt (pw_or (pt_not (pt_val (pe_callB call_isi (by rfl) T.f_isinstance (by decide +kernel) (pa_cons (pv 0) (pa_cons (pe_bltn (v := .ty "tuple") rfl T.f_tuple (by decide +kernel) rfl) pa_nil))))) (pw_or (pt_cmpR op_lt (pe_callB call_len_seq (by rfl) T.f_len (by decide +kernel) (pa_cons (pv 0) pa_nil)) pe_int (nomark _)) (pw_or1 (pt_cmpR op_gt (pe_callB call_len_seq (by rfl) T.f_len (by decide +kernel) (pa_cons (pv 0) pa_nil)) (pe_glob (v := .int 8) rfl T.g_MOST_STEPS ⟨_, rfl⟩) (nomark _)))))) (pss_one (ps_raise rfl (takes_of rfl rfl rfl rfl) (pmk_ec XS.x_BadRow hr (pa_cons (pe_tup pa_nil) pa_nil)))) pss_nil)
      (pss_cons (ps_for (passes_of rfl) rfl (pi_enumT (by rfl) T.f_enumerate (pa_cons (pv 0) pa_nil)) (pg_tup rfl (pgs_cons (pg_name (i := 1) sc_need_row.nd rfl (Or.inl rfl)) (pgs_cons (pg_name (i := 2) sc_need_row.nd rfl (Or.inl rfl)) pgs_nil)))
      (pss_one (ps_if (pt_not (pt_val (pe_ce C_is_step (hr.mono (by decide)) pass0 (pa_cons (pv 2) pa_nil)))) (pss_one (ps_raise rfl (takes_of rfl rfl rfl rfl) (pmk_ec XS.x_BadRow hr (pa_cons (pe_tup (pa_cons (pv 1) pa_nil)) pa_nil)))) pss_nil)))
      (pss_one (ps_ret (pv 0))))), ?_⟩
    have hd := hdc.un
    have none_er : (rowOut d = .er .row (.tuple [])) → ∀ p, H p = none → [V.ref p].length ≤ 1000 ∧ ∀ a, (upd H p (.tup [])) a = none → sp_init K "place" (.ref a :: ([.ref p] ++ [])) (upd (upd H p (.tup [])) a (exo a ad.r none))
        (fun u H2 => u = .non ∧ ∃ (d : Addr) (fs : List (Str × V)), H2 a = some (exo a ad.r (some d)) ∧ H2 d = some (exd d fs) ∧ (upd H p (.tup [])) d = none ∧ E (.ref ad.r) (some d) (upd (del H2 a) d (.xd fs))) (fun _ _ _ => False) := by
      intro e p hp
      rw [e] at k
      have np := l.new hp
      exact mk_fill XS.x_BadRow fun q hq => told_er k l (same_new hp) hq (.tup (.inl (.inl (cut_at np upd_same))) .nil)
    refine ⟨_, rfl, _, _, _, _, isTup d, rfl, .ty "tuple", ty_dp hd, kit_tuple (noDict_dp hd), isTup d, rfl, ?_⟩
    cases hdc with
    | non => exact ⟨Nat.zero_le _, none_er rfl⟩
    | bl b => exact ⟨Nat.zero_le _, none_er rfl⟩
    | int i => exact ⟨Nat.zero_le _, none_er rfl⟩
    | str x => exact ⟨Nat.zero_le _, none_er rfl⟩
    | lst a b => exact ⟨Nat.zero_le _, none_er rfl⟩
    | @tup a xs ds hSc hDc =>
      have hS := seq_un hSc
      have hD := hDc.un
      have el : xs.length = ds.length := hD.length
      refine iteF ?_
      refine ⟨_, rfl, a, xs, rfl, .inr hS, _, _, rfl, rfl, _, rfl, ?_⟩
      by_cases c1 : (xs.length : Int) < 1
      · rw [decide_eq_true c1]
        exact ⟨Nat.zero_le _, none_er (if_neg (by omega))⟩
      · rw [decide_eq_false c1]
        refine iteF ?_
        refine ⟨_, rfl, a, xs, rfl, .inr hS, _, _, rfl, rfl, _, rfl, ?_⟩
        by_cases c2 : (8 : Int) < (xs.length : Int)
        · rw [decide_eq_true c2]
          exact ⟨Nat.zero_le _, none_er (if_neg (by omega))⟩
        · rw [decide_eq_false c2]
          refine iteF ?_
          have er : rowOut (.tuple ds) = (match ds.findIdx? fun e => !isStep e with | none => .ok (.tuple ds) | some i => .er .row (.tuple [.int (i : Nat)])) := if_pos ⟨by omega, by omega⟩
          refine ⟨_, rfl, a, xs, rfl, hS, for_enumT (K := K) (a := a) (xs := xs) (fun i σ H' => Same H H' ∧ (∀ j, j < i → ∀ e, ds[j]? = some e → isStep e = true) ∧ ∃ o1 o2, σ = [some (.ref a), o1, o2])
            ⟨Same.refl H, fun j hj => absurd hj (Nat.not_lt_zero j), _, _, rfl⟩ (fun i σ H' h => seq_same h.1 hS) ?_ ?_⟩
          · rintro i x σ H' hx ⟨S1, hall, o1, o2, rfl⟩ T1 nT
            obtain ⟨e, h1, h2⟩ := hDc.get' hx
            have S2 := S1.trans (same_new (o := .tup [.int (i : Nat), x]) nT)
            refine ⟨T1, _, rfl, .inl (.inl upd_same), rfl, _, _, rfl, _, _, rfl, rfl, ?_⟩
            refine ⟨_, rfl, N, x, e, rfl, l.same S2, h2.ext (Same.cut N S2), fun H3 s3 => ⟨isStep e, rfl, ?_⟩⟩
            have S3 := S2.trans s3
            cases es : isStep e with
            | true =>
              refine ⟨S3, fun j hj y hy => ?_, _, _, rfl⟩
              by_cases z : j = i
              · subst z
                rw [h1] at hy
                cases hy
                exact es
              · exact hall j (by omega) y hy
            | false =>
              have hi := (List.getElem?_eq_some_iff.mp h1).1
              have ef : ds.findIdx? (fun e => !isStep e) = some i := by
                rw [List.findIdx?_eq_some_iff_getElem]
                refine ⟨hi, ?_, fun j hj => ?_⟩
                · have := (List.getElem?_eq_some_iff.mp h1).2
                  rw [this, es]
                  rfl
                · have hj2 : j < ds.length := by omega
                  have := hall j hj _ (List.getElem?_eq_getElem hj2)
                  rw [this]
                  decide
              rw [er, ef] at k
              refine ⟨_, rfl, (by show 1 ≤ sizeLine; decide), fun p hp => ?_⟩
              have np := (l.same S3).new hp
              exact mk_fill XS.x_BadRow fun q hq => told_er k l (S3.trans (same_new hp)) hq (.tup (.inl (.inl (cut_at np upd_same))) (.cons (.int _) .nil))
          · rintro σ H' ⟨S1, hall, o1, o2, rfl⟩
            have ef : ds.findIdx? (fun e => !isStep e) = none := by
              rw [List.findIdx?_eq_none_iff]
              intro e he
              obtain ⟨j, hj, e2⟩ := List.mem_iff_getElem.mp he
              have := hall j (by omega) e (by rw [List.getElem?_eq_getElem hj, e2])
              rw [this]
              rfl
            rw [er, ef] at k
            exact ⟨_, rfl, k _ H' S1 ((Dp.tup hSc hDc).ext (Same.cut N S1))⟩
end
end My

set_option Elab.async false
set_option linter.all false
set_option maxRecDepth 100000
set_option maxHeartbeats 4000000
set_option exponentiation.threshold 20000
namespace My
open PySem PySem.Spec PyProof.Rows L2
section
variable {P : Program} {w : World} {K : PySem.W.Frag} {mg : Str → Option Value} {base : Heap} {t1 t2 t3 : Tok} {f : Addr} {fd : FuncData} {ad : Ads}
/-! ### the law's own fractions -/
def sp_law_divisor : Sp := fun vs H Q _ => ∃ (a b : Int), vs = [.int a, .int b] ∧ Q (.int (gc a b)) H
theorem max_abs (a : Int) : (if -a > a then -a else a) = (a.natAbs : Int) := by
  by_cases h : -a > a
  · rw [if_pos h]; omega
  · rw [if_neg h]; omega
theorem ok__law_divisor (F : Fun K "_law_divisor" "_law_divisor" s__law_divisor f fd) (T : Txt K mg t1 t2 t3) : FnOk P w K mg base CX0 1 f fd ["one", "other"] sp_law_divisor := by
  refine F.ok sc__law_divisor (fun vs H Q E h => ?_) (fun cdv A outer s H vs Q E hr h => ?_)
  · obtain ⟨a, b, rfl, _⟩ := h
    rfl
  · obtain ⟨a, b, rfl, k⟩ := h
    refine ⟨_, (pss_cons (ps_par (i := 0) (j := 1) (by rfl) sc__law_divisor.nd rfl rfl (by decide) rfl rfl (pa_cons (pe_callB (call_max2 rfl) (by rfl) T.f_max (by decide +kernel) (pa_cons (pv 0) (pa_cons (pe_un un_neg (pv 0)) pa_nil))) (pa_cons (pe_callB (call_max2 rfl) (by rfl) T.f_max (by decide +kernel) (pa_cons (pv 1) (pa_cons (pe_un un_neg (pv 1)) pa_nil))) pa_nil)) (by rfl))
      (pss_cons (ps_while PassesOwn.never (pt_cmpR op_gt (pv 1) pe_int (nomark _)) (pss_one (ps_par (i := 0) (j := 1) (by rfl) sc__law_divisor.nd rfl rfl (by decide) rfl rfl (pa_cons (pv 1) (pa_cons (pe_op op_modN (pv 0) (pv 1)) pa_nil)) (by rfl))))
      (pss_one (ps_ret (pv 0))))), ?_⟩
    refine ⟨_, rfl, _, rfl, _, rfl, _, _, rfl, ?_⟩
    refine ⟨_, rfl, _, rfl, _, rfl, _, _, rfl, _, _, rfl, ?_⟩
    rw [max_abs, max_abs]
    refine while_by (fun σ H' => H' = H ∧ ∃ x y : Nat, σ = [some (.int x), some (.int y)] ∧ Nat.gcd x y = Nat.gcd a.natAbs b.natAbs) (fun σ _ => match σ with | [_, some (.int y)] => y.toNat | _ => 0) ⟨rfl, _, _, rfl, rfl⟩ ?_ ?_
    · rintro σ H' ⟨rfl, x, y, rfl, hg⟩
      refine ⟨_, rfl, _, _, rfl, rfl, _, rfl, ?_⟩
      by_cases hy : (0 : Int) < (y : Int)
      · rw [decide_eq_true hy]
        refine iteT ?_
        refine ⟨_, rfl, _, rfl, _, rfl, _, _, rfl, rfl, by omega, _, _, rfl, ?_⟩
        have e : (x : Int).fmod (y : Int) = ((x % y : Nat) : Int) := by
          rw [Int.fmod_eq_emod_of_nonneg _ (by omega)]
          rfl
        refine ⟨⟨rfl, y, x % y, ?_, ?_⟩, ?_⟩
        · show [some (V.int (y : Int)), some (V.int ((x : Int).fmod (y : Int)))] = _
          rw [e]
        · rw [← hg, Nat.gcd_comm x y, Nat.gcd_rec y x, Nat.gcd_comm]
        · show ((x : Int).fmod (y : Int)).toNat < ((y : Nat) : Int).toNat
          rw [e]
          have := Nat.mod_lt x (show y > 0 by omega)
          omega
      · rw [decide_eq_false hy]
        refine iteF ?_
        have : y = 0 := by omega
        subst this
        rw [Nat.gcd_zero_right] at hg
        refine ⟨_, rfl, ?_⟩
        rw [hg]
        exact k
    · rintro σ H' Q1 Q2 hq ⟨v, hv, i, j, e1, e2, k', e3, q⟩
      exact ⟨v, hv, i, j, e1, e2, k', e3, hq _ _ q⟩
def sp_law_frac (K : PySem.W.Frag) : Sp := fun vs H Q _ => ∃ (N : List Addr) (a b : Int), vs = [.int a, .int b] ∧ Live N H ∧ 0 < b ∧ b.natAbs.log2 < 9000 ∧ Told K N H (nD (fr a b)) Q
theorem ok__law_frac (F : Fun K "_law_frac" "_law_frac" s__law_frac f fd) (T : Txt K mg t1 t2 t3) (C__law_divisor : Ce P w K mg base CX0 1 "_law_divisor" ["one", "other"] sp_law_divisor) : FnOk P w K mg base CX0 2 f fd ["above", "below"] (sp_law_frac K) := by
  refine F.ok sc__law_frac (fun vs H Q E h => ?_) (fun cdv A outer s H vs Q E hr h => ?_)
  · obtain ⟨N, a, b, rfl, _⟩ := h
    rfl
  · obtain ⟨N, a, b, rfl, l, hb, hz, k⟩ := h
    refine ⟨_, (pss_cons (ps_set (i := 2) sc__law_frac.nd rfl (Or.inl rfl) (pe_ce C__law_divisor (hr.mono (by decide)) pass0 (pa_cons (pv 0) (pa_cons (pv 1) pa_nil))))
      (pss_cons (ps_if (pt_cmpR op_lt (pv 1) pe_int (nomark _)) (pss_one (ps_set (i := 2) sc__law_frac.nd rfl (Or.inl rfl) (pe_un un_neg (pv 2)))) pss_nil)
      (pss_one (ps_ret (pe_tup (pa_cons (pe_op op_fdivW (pv 0) (pv 2)) (pa_cons (pe_op op_fdivW (pv 1) (pv 2)) pa_nil))))))), ?_⟩
    have hd : ∀ z, CDivW z (gc a b) := fun z => ⟨gc_pos hb, Nat.lt_of_le_of_lt (by
      have h1 := gc_le (a := a) hb
      have h2 : (gc a b).natAbs ≠ 0 := by have := gc_pos (a := a) hb; omega
      exact (Nat.le_log2 (by omega)).mpr (Nat.le_trans (Nat.log2_self_le h2) h1)) hz⟩
    refine ⟨_, rfl, _, rfl, a, b, rfl, _, rfl, _, _, rfl, rfl, _, rfl, ?_⟩
    rw [decide_eq_false (show ¬ b < 0 by omega)]
    refine iteF ?_
    refine ⟨_, rfl, _, rfl, _, _, rfl, rfl, hd _, _, rfl, _, rfl, _, _, rfl, rfl, hd _, (by show 2 ≤ sizeLine; decide), fun p hp => ?_⟩
    exact told_tup k l (Same.refl H) hp dp_two
/-- both parts within n bits, the lower one above nought -/
structure Bd (n : Nat) (q : Int × Int) : Prop where
  pos : 0 < q.2
  top : q.1.natAbs < 2 ^ n
  bot : q.2.natAbs < 2 ^ n
theorem fr_bd {a b : Int} {n : Nat} (h : 0 < b) (ha : a.natAbs < 2 ^ n) (hb : b.natAbs < 2 ^ n) : Bd n (fr a b) :=
  ⟨fr_pos h, Nat.lt_of_le_of_lt (natAbs_div_le _ _) ha, Nat.lt_of_le_of_lt (natAbs_div_le _ _) hb⟩
theorem qmul_bd {p q : Int × Int} {m n : Nat} (hp : Bd m p) (hq : Bd n q) : Bd (m + n) (qmul p q) := fr_bd (Int.mul_pos hp.pos hq.pos) (wide_lt hp.top hq.top) (wide_lt hp.bot hq.bot)
theorem qadd_bd {p q : Int × Int} {m n : Nat} (hp : Bd m p) (hq : Bd n q) : Bd (m + n + 1) (qadd p q) := by
  refine fr_bd (Int.mul_pos hp.pos hq.pos) ?_ (Nat.lt_of_lt_of_le (wide_lt hp.bot hq.bot) (Nat.pow_le_pow_right (by decide) (by omega)))
  have h1 := wide_lt hp.top hq.bot
  have h2 := wide_lt hq.top hp.bot
  rw [Nat.add_comm] at h2
  have h3 := Int.natAbs_add_le (p.1 * q.2) (q.1 * p.2)
  rw [Nat.pow_succ]
  omega
theorem Bd.mono {p : Int × Int} {m n : Nat} (h : Bd m p) (hn : m ≤ n) : Bd n p := ⟨h.pos, Nat.lt_of_lt_of_le h.top (Nat.pow_le_pow_right (by decide) hn), Nat.lt_of_lt_of_le h.bot (Nat.pow_le_pow_right (by decide) hn)⟩
theorem W2 {i j : Int} {c d : Nat} (h1 : i.natAbs < 2 ^ c) (h2 : j.natAbs < 2 ^ d) (h3 : c + d ≤ 900000) : CMulW i j :=
  wide_mul (a := c + 1) (b := d + 1) (Nat.lt_of_lt_of_le h1 (Nat.pow_le_pow_right (by decide) (by omega))) (Nat.lt_of_lt_of_le h2 (Nat.pow_le_pow_right (by decide) (by omega))) (by omega) (by omega) (by omega)
def sp_law_two (g : Int × Int → Int × Int → Int × Int) (K : PySem.W.Frag) : Sp := fun vs H Q _ => ∃ (N : List Addr) (v u : V) (p q : Int × Int) (m n : Nat), vs = [v, u] ∧ Live N H ∧ Dp K (cut N H) v (nD p) ∧ Dp K (cut N H) u (nD q) ∧ Bd m p ∧ Bd n q ∧ m + n ≤ 8000 ∧ Told K N H (nD (g p q)) Q
theorem ok__law_add (F : Fun K "_law_add" "_law_add" s__law_add f fd) (T : Txt K mg t1 t2 t3) (C__law_frac : Ce P w K mg base CX0 2 "_law_frac" ["above", "below"] (sp_law_frac K)) : FnOk P w K mg base CX0 3 f fd ["one", "other"] (sp_law_two qadd K) := by
  refine F.ok sc__law_add (fun vs H Q E h => ?_) (fun cdv A outer s H vs Q E hr h => ?_)
  · obtain ⟨N, v, u, p, q, m, n, rfl, _⟩ := h
    rfl
  · obtain ⟨N, v, u, p, q, m, n, rfl, l, hv, hu, hp, hq, hz, k⟩ := h
    obtain ⟨a, rfl, ha⟩ := dp_num hv.un
    obtain ⟨b, rfl, hb⟩ := dp_num hu.un
    refine ⟨_, (pss_one (ps_ret (pe_ce C__law_frac (hr.mono (by decide)) pass0 (pa_cons (pe_op op_add (pe_op op_mulW (pe_ix ix_tup (pv 0) pe_int (fun _ _ => rfl)) (pe_ix ix_tup (pv 1) pe_int (fun _ _ => rfl))) (pe_op op_mulW (pe_ix ix_tup (pv 1) pe_int (fun _ _ => rfl)) (pe_ix ix_tup (pv 0) pe_int (fun _ _ => rfl)))) (pa_cons (pe_op op_mulW (pe_ix ix_tup (pv 0) pe_int (fun _ _ => rfl)) (pe_ix ix_tup (pv 1) pe_int (fun _ _ => rfl))) pa_nil))))), ?_⟩
    refine ⟨_, rfl, a, _, 0, _, rfl, rfl, ha, rfl, _, rfl, b, _, 1, _, rfl, rfl, hb, rfl, _, _, rfl, rfl, W2 hp.top hq.bot (by omega), ?_⟩
    refine ⟨_, rfl, b, _, 0, _, rfl, rfl, hb, rfl, _, rfl, a, _, 1, _, rfl, rfl, ha, rfl, _, _, rfl, rfl, W2 hq.top hp.bot (by omega), _, _, rfl, rfl, ?_⟩
    refine ⟨_, rfl, a, _, 1, _, rfl, rfl, ha, rfl, _, rfl, b, _, 1, _, rfl, rfl, hb, rfl, _, _, rfl, rfl, W2 hp.bot hq.bot (by omega), ?_⟩
    exact ⟨N, _, _, rfl, l, Int.mul_pos hp.pos hq.pos, Nat.lt_of_lt_of_le (log_of (n := m + n + 1) (by omega) (Nat.lt_of_lt_of_le (wide_lt hp.bot hq.bot) (Nat.pow_le_pow_right (by decide) (by omega)))) (by omega), k⟩
theorem ok__law_mul (F : Fun K "_law_mul" "_law_mul" s__law_mul f fd) (T : Txt K mg t1 t2 t3) (C__law_frac : Ce P w K mg base CX0 2 "_law_frac" ["above", "below"] (sp_law_frac K)) : FnOk P w K mg base CX0 3 f fd ["one", "other"] (sp_law_two qmul K) := by
  refine F.ok sc__law_mul (fun vs H Q E h => ?_) (fun cdv A outer s H vs Q E hr h => ?_)
  · obtain ⟨N, v, u, p, q, m, n, rfl, _⟩ := h
    rfl
  · obtain ⟨N, v, u, p, q, m, n, rfl, l, hv, hu, hp, hq, hz, k⟩ := h
    obtain ⟨a, rfl, ha⟩ := dp_num hv.un
    obtain ⟨b, rfl, hb⟩ := dp_num hu.un
    refine ⟨_, (pss_one (ps_ret (pe_ce C__law_frac (hr.mono (by decide)) pass0 (pa_cons (pe_op op_mulW (pe_ix ix_tup (pv 0) pe_int (fun _ _ => rfl)) (pe_ix ix_tup (pv 1) pe_int (fun _ _ => rfl))) (pa_cons (pe_op op_mulW (pe_ix ix_tup (pv 0) pe_int (fun _ _ => rfl)) (pe_ix ix_tup (pv 1) pe_int (fun _ _ => rfl))) pa_nil))))), ?_⟩
    refine ⟨_, rfl, a, _, 0, _, rfl, rfl, ha, rfl, _, rfl, b, _, 0, _, rfl, rfl, hb, rfl, _, _, rfl, rfl, W2 hp.top hq.top (by omega), ?_⟩
    refine ⟨_, rfl, a, _, 1, _, rfl, rfl, ha, rfl, _, rfl, b, _, 1, _, rfl, rfl, hb, rfl, _, _, rfl, rfl, W2 hp.bot hq.bot (by omega), ?_⟩
    exact ⟨N, _, _, rfl, l, Int.mul_pos hp.pos hq.pos, Nat.lt_of_lt_of_le (log_of (n := m + n + 1) (by omega) (Nat.lt_of_lt_of_le (wide_lt hp.bot hq.bot) (Nat.pow_le_pow_right (by decide) (by omega)))) (by omega), k⟩
/-! ### the sum of powers -/
def fb (c n : Nat) : Nat → Nat
  | 0 => 1
  | i + 1 => fb c n i + (c + (n * i + 1)) + 1
theorem fb_mono {c n : Nat} : ∀ {i j : Nat}, i ≤ j → fb c n i + (j - i) * (c + n * i + 2) ≤ fb c n j := by
  intro i j h
  induction j with
  | zero =>
    have : i = 0 := by omega
    subst this
    simp
  | succ j ih =>
    by_cases e : i = j + 1
    · subst e
      simp
    · have h1 := ih (by omega)
      have e2 : j + 1 - i = (j - i) + 1 := by omega
      rw [e2, Nat.add_mul, Nat.one_mul]
      have h2 : n * i ≤ n * j := Nat.mul_le_mul_left n (by omega)
      show _ ≤ fb c n j + (c + (n * j + 1)) + 1
      omega
theorem fb_le {c n i j : Nat} (h : i ≤ j) : fb c n i ≤ fb c n j := Nat.le_trans (Nat.le_add_right _ _) (fb_mono h)
theorem sumPow_bd {c n : Nat} {x : Int × Int} (hx : Bd n x) (s : List (Int × Int)) (hs : ∀ q ∈ s, Bd c q) : Bd (fb c n s.length) (sumPow s x).1 ∧ Bd (n * s.length + 1) (sumPow s x).2 := by
  revert hs
  refine snoc_ind s ?_ ?_
  · intro _
    refine ⟨⟨by show (0 : Int) < 1; decide, by show 0 < 2 ^ 1; decide, by show 1 < 2 ^ 1; decide⟩, ⟨by show (0 : Int) < 1; decide, ?_, ?_⟩⟩ <;>
    · show 1 < 2 ^ (n * 0 + 1)
      simp
  · intro l q ih hs
    obtain ⟨h1, h2⟩ := ih fun r hr => hs r (List.mem_append_left _ hr)
    have hq := hs q (List.mem_append_right _ List.mem_cons_self)
    have e : sumPow (l ++ [q]) x = sumStep x (sumPow l x) q := by
      unfold sumPow
      rw [List.foldl_append]
      rfl
    rw [e, List.length_append, List.length_singleton]
    refine ⟨?_, ?_⟩
    · exact qadd_bd h1 (qmul_bd hq h2)
    · have := qmul_bd h2 hx
      rwa [show n * l.length + 1 + n = n * (l.length + 1) + 1 by rw [Nat.mul_add]; omega] at this
def sp_law_sum_of_powers (K : PySem.W.Frag) : Sp := fun vs H Q _ => ∃ (N : List Addr) (v u : V) (s : List (Int × Int)) (x : Int × Int) (c n : Nat), vs = [v, u] ∧ Live N H ∧ Dp K (cut N H) v (sD s) ∧ Dp K (cut N H) u (nD x) ∧
  (∀ q ∈ s, Bd c q) ∧ Bd n x ∧ fb c n (s.length + 1) ≤ 7900 ∧ n * s.length + n ≤ 7000 ∧ Told K N H (nD (sumPow s x).1) Q
theorem nD_eq {q : Int × Int} : nD q = .tuple [.int q.1, .int q.2] := rfl
theorem sumPow_more {s : List (Int × Int)} {x q : Int × Int} {i : Nat} (h : s[i]? = some q) : sumPow (s.take (i + 1)) x = sumStep x (sumPow (s.take i) x) q := by
  rw [take_more h]
  unfold sumPow
  rw [List.foldl_append]
  rfl
theorem ok__law_sum_of_powers (F : Fun K "_law_sum_of_powers" "_law_sum_of_powers" s__law_sum_of_powers f fd) (T : Txt K mg t1 t2 t3) (C__law_add : Ce P w K mg base CX0 3 "_law_add" ["one", "other"] (sp_law_two qadd K))
    (C__law_mul : Ce P w K mg base CX0 3 "_law_mul" ["one", "other"] (sp_law_two qmul K)) : FnOk P w K mg base CX0 4 f fd ["told", "worth"] (sp_law_sum_of_powers K) := by
  refine F.ok sc__law_sum_of_powers (fun vs H Q E h => ?_) (fun cdv A outer s H vs Q E hr h => ?_)
  · obtain ⟨N, v, u, s, x, c, n, rfl, _⟩ := h
    rfl
  · obtain ⟨N, v, u, st, x, c, n, rfl, l, hv, hu, hs, hx, hz, hz2, k⟩ := h
    obtain ⟨a, xs, rfl, hS, hD⟩ := hv.tupI
    have hlx : xs.length = st.length := by rw [hD.length, List.length_map]
    refine ⟨_, (pss_cons (ps_asg (pe_tup (pa_cons (pe_tup (pa_cons pe_int (pa_cons pe_int pa_nil))) (pa_cons (pe_tup (pa_cons pe_int (pa_cons pe_int pa_nil))) pa_nil))) (pg_tup rfl (pgs_cons (pg_name (i := 3) sc__law_sum_of_powers.nd rfl (Or.inl rfl)) (pgs_cons (pg_name (i := 4) sc__law_sum_of_powers.nd rfl (Or.inl rfl)) pgs_nil))))
      (pss_cons (ps_for PassesOwn.never rfl (pi_tup (pv 0)) (pg_name (i := 2) sc__law_sum_of_powers.nd rfl (Or.inl rfl))
      (pss_cons (ps_set (i := 3) sc__law_sum_of_powers.nd rfl (Or.inl rfl) (pe_ce C__law_add (hr.mono (by decide)) pass0 (pa_cons (pv 3) (pa_cons (pe_ce C__law_mul (hr.mono (by decide)) pass0 (pa_cons (pv 2) (pa_cons (pv 4) pa_nil))) pa_nil))))
      (pss_one (ps_set (i := 4) sc__law_sum_of_powers.nd rfl (Or.inl rfl) (pe_ce C__law_mul (hr.mono (by decide)) pass0 (pa_cons (pv 4) (pa_cons (pv 1) pa_nil)))))))
      (pss_one (ps_ret (pv 3))))), ?_⟩
    refine ⟨(by show 2 ≤ sizeLine; decide), fun p1 n1 => ⟨(by show 2 ≤ sizeLine; decide), fun p2 n2 => ⟨(by show 2 ≤ sizeLine; decide), fun p3 n3 => ⟨p3, _, rfl, .inl (.inl upd_same), rfl, _, _, rfl, _, _, rfl, rfl, ?_⟩⟩⟩⟩
    have S1 := same_new (o := .tup [.int 0, .int 1]) n1
    have T2 := same_new (o := .tup [.int 1, .int 1]) n2
    have T3 := same_new (o := .tup [.ref p1, .ref p2]) n3
    have S2 := (S1.trans T2).trans T3
    have q1 : p1 ∉ N := l.new n1
    have q2 : p2 ∉ N := (l.same S1).new n2
    have d1 : Dp K (cut N (upd (upd (upd H p1 (.tup [.int 0, .int 1])) p2 (.tup [.int 1, .int 1])) p3 (.tup [.ref p1, .ref p2]))) (.ref p1) (nD (0, 1)) := by
      refine .tup (.inl (.inl (cut_at q1 ?_))) dp_two
      exact T3 _ _ (T2 _ _ upd_same)
    have d2 : Dp K (cut N (upd (upd (upd H p1 (.tup [.int 0, .int 1])) p2 (.tup [.int 1, .int 1])) p3 (.tup [.ref p1, .ref p2]))) (.ref p2) (nD (1, 1)) := .tup (.inl (.inl (cut_at q2 (T3 _ _ upd_same)))) dp_two
    refine ⟨_, rfl, a, rfl, ⟨_, seq_same S2 (seq_un hS)⟩, for_tup (K := K) (a := a) (xs := xs)
      (fun i σ H' => Same H H' ∧ ∃ o y z, σ = [some (.ref a), some u, o, some y, some z] ∧ Dp K (cut N H') y (nD (sumPow (st.take i) x).1) ∧ Dp K (cut N H') z (nD (sumPow (st.take i) x).2))
      ⟨S2, none, _, _, rfl, d1, d2⟩ (fun i σ H' _ h => seq_same h.1 (seq_un hS)) ?_ ?_⟩
    · rintro i y σ H' hy ⟨S, o, y1, z1, rfl, dy, dz⟩
      obtain ⟨e, h1, h2⟩ := hD.get' hy
      obtain ⟨q, hq, rfl⟩ := map_get h1
      have hi := (List.getElem?_eq_some_iff.mp hq).1
      have hqb := hs q (mem_of_get hq)
      have hb := sumPow_bd hx (st.take i) (fun r hr => hs r (List.mem_of_mem_take hr))
      have hil : (st.take i).length = i := by rw [List.length_take]; omega
      rw [hil] at hb
      have hni : n * i + n ≤ n * st.length + n := Nat.add_le_add_right (Nat.mul_le_mul_left n (by omega)) n
      have hf : fb c n i + (c + (n * i + 1)) + 1 ≤ 7900 := Nat.le_trans (fb_le (i := i + 1) (j := st.length + 1) (by omega)) hz
      rw [sumPow_more hq]
      refine ⟨_, rfl, _, rfl, _, rfl, N, y, z1, q, _, c, n * i + 1, rfl, l.same S, (h2.ext (Same.cut N S)), dz, hqb, hb.2, by omega, fun r H1 s1 hr1 => ?_⟩
      refine ⟨N, y1, r, _, _, fb c n i, c + (n * i + 1), rfl, l.same (S.trans s1), dy.ext (Same.cut N s1), hr1, hb.1, qmul_bd hqb hb.2, by omega, fun r2 H2 s2 hr2 => ?_⟩
      refine ⟨_, rfl, _, rfl, N, z1, u, _, x, n * i + 1, n, rfl, l.same ((S.trans s1).trans s2), dz.ext (Same.cut N (s1.trans s2)), hu.ext (Same.cut N ((S.trans s1).trans s2)), hb.2, hx, by omega, fun r3 H3 s3 hr3 => ?_⟩
      exact ⟨((S.trans s1).trans s2).trans s3, some y, r2, r3, rfl, hr2.ext (Same.cut N s3), hr3⟩
    · rintro σ H' ⟨S, o, y, z, rfl, dy, dz⟩
      rw [hlx, List.take_length] at dy
      exact ⟨_, rfl, k y H' S dy⟩
/-! ### powers -/
def powD (n : Nat) : PyData := .tuple (List.replicate n (nD (0, 1)) ++ [nD (1, 1)])
def sp_law_power (K : PySem.W.Frag) : Sp := fun vs H Q _ => ∃ (N : List Addr) (n : Nat), vs = [.int n] ∧ Live N H ∧ 1 ≤ n ∧ n ≤ 500 ∧ Told K N H (powD n) Q
theorem flat_one {α : Type} (x : α) : ∀ n : Nat, (List.replicate n [x]).flatten = List.replicate n x
  | 0 => rfl
  | n + 1 => by rw [List.replicate_succ, List.flatten_cons, flat_one x n]; rfl
theorem dp_rep {K : PySem.W.Frag} {H : Hp} {v : V} {d : PyData} (h : Dp K H v d) : ∀ n : Nat, DpAll K H (List.replicate n v) (List.replicate n d)
  | 0 => .nil
  | n + 1 => .cons h (dp_rep h n)
theorem ok__law_power (F : Fun K "_law_power" "_law_power" s__law_power f fd) (T : Txt K mg t1 t2 t3) : FnOk P w K mg base CX0 1 f fd ["size"] (sp_law_power K) := by
  refine F.ok sc__law_power (fun vs H Q E h => ?_) (fun cdv A outer s H vs Q E hr h => ?_)
  · obtain ⟨N, n, rfl, _⟩ := h
    rfl
  · obtain ⟨N, n, rfl, l, h1, h2, k⟩ := h
    refine ⟨_, (pss_one (ps_ret (pe_op op_catA (pe_op op_repA (pe_tup (pa_cons (pe_tup (pa_cons pe_int (pa_cons pe_int pa_nil))) pa_nil)) (pv 0)) (pe_tup (pa_cons (pe_tup (pa_cons pe_int (pa_cons pe_int pa_nil))) pa_nil))))), ?_⟩
    refine ⟨(by show 2 ≤ sizeLine; decide), fun p1 n1 => ⟨(by show 1 ≤ sizeLine; decide), fun p2 n2 => ?_⟩⟩
    have S1 := same_new (o := .tup [.int 0, .int 1]) n1
    have S2 := S1.trans (same_new (o := .tup [.ref p1]) n2)
    have q1 : p1 ∉ N := l.new n1
    have d1 : ∀ {H'}, Same (upd H p1 (.tup [.int 0, .int 1])) H' → Dp K (cut N H') (.ref p1) (nD (0, 1)) := fun {H'} s => .tup (.inl (.inl (cut_at q1 (s _ _ upd_same)))) dp_two
    have rest : ∀ (p3 : Addr) (H3 : Hp), Same (upd (upd H p1 (.tup [.int 0, .int 1])) p2 (.tup [.ref p1])) H3 → SqT K H3 p3 (List.replicate n (.ref p1)) →
        [V.int 1, V.int 1].length ≤ sizeLine ∧ ∀ p, H3 p = none → [V.ref p].length ≤ sizeLine ∧ ∀ p', (upd H3 p (.tup [.int 1, .int 1])) p' = none → rCatA K (.ref p3) (.ref p') (upd (upd H3 p (.tup [.int 1, .int 1])) p' (.tup [.ref p])) Q := by
      intro p3 H3 s3 hp3
      refine ⟨(by show 2 ≤ sizeLine; decide), fun p4 n4 => ⟨(by show 1 ≤ sizeLine; decide), fun p5 n5 => ?_⟩⟩
      have S4 := s3.trans (same_new (o := .tup [.int 1, .int 1]) n4)
      have S5 := S4.trans (same_new (o := .tup [.ref p4]) n5)
      have l3 := l.same (S2.trans s3)
      refine ⟨p3, p5, _, [.ref p4], rfl, rfl, seq_same ((same_new n4).trans (same_new n5)) hp3, .inl (.inl upd_same), ?_, ?_, fun _ z => (by cases z), fun _ _ p6 n6 => ?_⟩
      · rw [List.length_replicate]
        show n + 1 ≤ sizeLine
        rw [sizeLine_eq]
        omega
      · intro z
        have := congrArg List.length z
        rw [List.length_replicate] at this
        have : n = 0 := this
        omega
      · refine told_tup k l (S2.trans S5) n6 (DpAll.append (dp_rep (d1 ((same_new n2).trans S5)) n) (.cons ?_ .nil))
        refine .tup (.inl (.inl (cut_at (l3.new n4) ?_))) dp_two
        exact same_new n5 _ _ upd_same
    refine ⟨_, rfl, p2, (n : Int), [.ref p1], rfl, rfl, .inl (.inl upd_same), (by intro z; cases z), by omega, by omega, (by show 1 ≤ 1000; decide), fun e => ?_, fun e p3 n3 => ?_⟩
    · have : n = 1 := by omega
      subst this
      exact rest p2 _ (Same.refl _) (.inl (.inl upd_same))
    · refine rest p3 _ (same_new n3) (.inl (.inl ?_))
      rw [upd_same]
      show some (HO.tup (List.replicate (n : Int).toNat [V.ref p1]).flatten) = _
      rw [Int.toNat_natCast, flat_one]
end
end My

set_option Elab.async false
set_option linter.all false
set_option maxRecDepth 100000
set_option maxHeartbeats 4000000
set_option exponentiation.threshold 20000
namespace My
open PySem PySem.Spec PyProof.Rows L2
/-! ### the law's own draws -/
def stK (pc pl : Addr) (n : Int) : List (Key × V) := [(.inr "cells", .ref pc), (.inr "lefts", .ref pl), (.inr "at", .int n)]
structure St (K : PySem.W.Frag) (N : List Addr) (H : Hp) (pd pl : Addr) (m : Nat) : Prop where
  md : pd ∈ N
  ml : pl ∈ N
  ex : ∃ (pc : Addr) (cells lefts : List Int) (n : Nat), H pd = some (.dK (stK pc pl n)) ∧ H pl = some (.lst (lefts.map V.int)) ∧ SqL K (cut N H) pc (cells.map V.int) ∧ cells.length = lefts.length ∧ 1 ≤ cells.length ∧ cells.length ≤ 1000 ∧ n ≤ m
/-- all but the state's two objects stays -/
def Chg (pd pl : Addr) (H H' : Hp) : Prop := ∀ b o, b ≠ pd → b ≠ pl → H b = some o → H' b = some o
theorem Chg.of {pd pl : Addr} {H H' : Hp} (s : Same H H') : Chg pd pl H H' := fun b o _ _ e => s b o e
theorem Chg.trans {pd pl : Addr} {H H1 H2 : Hp} (a : Chg pd pl H H1) (b : Chg pd pl H1 H2) : Chg pd pl H H2 := fun c o h1 h2 e => b c o h1 h2 (a c o h1 h2 e)
theorem Chg.cut {pd pl : Addr} {N : List Addr} {H H' : Hp} (c : Chg pd pl H H') (h1 : pd ∈ N) (h2 : pl ∈ N) : Same (My.cut N H) (My.cut N H') := fun a o e => by
  by_cases h : a ∈ N
  · rw [cut_in h] at e; cases e
  · rw [cut_out h] at e ⊢
    exact c a o (fun z => h (z ▸ h1)) (fun z => h (z ▸ h2)) e
theorem St.live {K : PySem.W.Frag} {N : List Addr} {H H' : Hp} {pd pl : Addr} {m : Nat} (S : St K N H' pd pl m) (c : Chg pd pl H H') (l : Live N H) : Live N H' := fun a h => by
  obtain ⟨pc, cells, lefts, n, e1, e2, _⟩ := S.ex
  by_cases h1 : a = pd
  · rw [h1, e1]; simp
  · by_cases h2 : a = pl
    · rw [h2, e2]; simp
    · have := l a h
      cases e : H a with
      | none => exact absurd e this
      | some o => rw [c a o h1 h2 e]; simp
theorem St.same {K : PySem.W.Frag} {N : List Addr} {H H' : Hp} {pd pl : Addr} {m : Nat} (S : St K N H pd pl m) (s : Same H H') : St K N H' pd pl m := by
  obtain ⟨pc, cells, lefts, n, e1, e2, e3, e4⟩ := S.ex
  exact ⟨S.md, S.ml, pc, cells, lefts, n, s _ _ e1, s _ _ e2, lst_same (Same.cut N s) e3, e4⟩
theorem St.more {K : PySem.W.Frag} {N : List Addr} {H : Hp} {pd pl : Addr} {m m' : Nat} (S : St K N H pd pl m) (h : m ≤ m') : St K N H pd pl m' := by
  obtain ⟨pc, cells, lefts, n, e1, e2, e3, e4, e5, e6, e7⟩ := S.ex
  exact ⟨S.md, S.ml, pc, cells, lefts, n, e1, e2, e3, e4, e5, e6, Nat.le_trans e7 h⟩
theorem st_ne {K : PySem.W.Frag} {N : List Addr} {H : Hp} {pd pl : Addr} {m : Nat} (S : St K N H pd pl m) : pd ≠ pl := by
  obtain ⟨pc, cells, lefts, n, e1, e2, _⟩ := S.ex
  exact ne_of e1 e2 (by intro z; cases z)
theorem get_at {H : Hp} {pd pc pl : Addr} {n : Int} (h : H pd = some (.dK (stK pc pl n))) : DGet H pd (.str "at") (some (.int n)) := .inl ⟨_, .inr "at", .inl h, rfl, rfl⟩
theorem get_lefts {H : Hp} {pd pc pl : Addr} {n : Int} (h : H pd = some (.dK (stK pc pl n))) : DGet H pd (.str "lefts") (some (.ref pl)) := .inl ⟨_, .inr "lefts", .inl h, rfl, rfl⟩
theorem get_cells {H : Hp} {pd pc pl : Addr} {n : Int} (h : H pd = some (.dK (stK pc pl n))) : DGet H pd (.str "cells") (some (.ref pc)) := .inl ⟨_, .inr "cells", .inl h, rfl, rfl⟩
theorem put_at {H : Hp} {pd pc pl : Addr} {n m : Int} (h : H pd = some (.dK (stK pc pl n))) : DPut H pd (.str "at") (.int m) (upd H pd (.dK (stK pc pl m))) := by
  have e : putK (stK pc pl n) (.inr "at") (.int m) = stK pc pl m := rfl
  exact .inl ⟨_, .inr "at", h, rfl, (by show 3 < sizeLine; decide), by rw [e]⟩
section
variable {P : Program} {w : World} {K : PySem.W.Frag} {mg : Str → Option Value} {base : Heap} {t1 t2 t3 : Tok} {f : Addr} {fd : FuncData} {ad : Ads}
def sp_law_mixed : Sp := fun vs H Q _ => ∃ (c k : Int), vs = [.int c, .int k] ∧ 0 ≤ k ∧ k ≤ 1000000 ∧ ∀ r : Int, 0 ≤ r → r < 2147483647 → Q (.int r) H
theorem fmod_range (a : Int) {b : Int} (h : 0 < b) : 0 ≤ a.fmod b ∧ a.fmod b < b := by
  rw [Int.fmod_eq_emod_of_nonneg _ (by omega)]
  exact ⟨Int.emod_nonneg _ (by omega), Int.emod_lt_of_pos _ h⟩
theorem abs_lt {a : Int} {n : Nat} (h0 : 0 ≤ a) (h : a < 2 ^ n) : a.natAbs < 2 ^ n := by
  have : ((a.natAbs : Nat) : Int) < ((2 ^ n : Nat) : Int) := by
    rw [Int.natCast_pow]
    have : ((a.natAbs : Nat) : Int) = a := by omega
    rw [this]
    exact h
  omega
theorem ok__law_mixed (F : Fun K "_law_mixed" "_law_mixed" s__law_mixed f fd) (T : Txt K mg t1 t2 t3) : FnOk P w K mg base CX0 1 f fd ["cell", "k"] sp_law_mixed := by
  refine F.ok sc__law_mixed (fun vs H Q E h => ?_) (fun cdv A outer s H vs Q E hr h => ?_)
  · obtain ⟨a, b, rfl, _⟩ := h
    rfl
  · obtain ⟨c, k, rfl, h0, h1, q⟩ := h
    refine ⟨_, (pss_cons (ps_set (i := 0) sc__law_mixed.nd rfl (Or.inl rfl) (pe_op op_modN (pe_callTy call_int1 (by rfl) T.f_int (by decide +kernel) (pa_cons (pv 0) pa_nil)) pe_int))
      (pss_one (ps_ret (pe_op op_modN (pe_op op_mulW (pe_op op_modN (pe_op op_add (pe_op op_add (pe_op op_mulW (pv 0) (pe_op op_add pe_int (pe_op op_mulW (pe_op op_mulW pe_int (pv 1)) (pv 1)))) (pe_op op_mulW pe_int (pv 1))) pe_int) pe_int) pe_int) pe_int)))), ?_⟩
    have r1 := fmod_range c (show (0 : Int) < 2147483647 by decide)
    refine ⟨_, rfl, .inl ⟨_, rfl, _, _, rfl, rfl, (by show (2147483647 : Int) ≠ 0; decide), ?_⟩⟩
    have kb : k.natAbs < 2 ^ 20 := by
      have : k.natAbs ≤ 1000000 := by omega
      exact Nat.lt_of_le_of_lt this (by decide)
    have db : (c.fmod 2147483647).natAbs < 2 ^ 31 := by
      have : (c.fmod 2147483647).natAbs < 2147483647 := by omega
      exact Nat.lt_of_lt_of_le this (by decide)
    have k2 : (2 * k).natAbs < 2 ^ 21 := by
      have : (2 * k).natAbs ≤ 2000000 := by omega
      exact Nat.lt_of_le_of_lt this (by decide)
    have k3 : (2 * k * k).natAbs < 2 ^ 41 := wide_lt k2 kb
    have k4 : (48271 + 2 * k * k).natAbs < 2 ^ 42 := by
      have h1 := Int.natAbs_add_le 48271 (2 * k * k)
      have h2 : (48271 : Int).natAbs = 48271 := rfl
      have h3 : (2 : Nat) ^ 42 = 2 * 2 ^ 41 := by decide
      have h4 : 48271 < (2 : Nat) ^ 41 := by decide
      omega
    refine ⟨_, rfl, _, rfl, _, _, rfl, rfl, W2 (c := 2) (d := 20) (by decide) kb (by decide), _, rfl, _, _, rfl, rfl, W2 k2 kb (by decide), _, _, rfl, rfl, ?_⟩
    refine ⟨_, _, rfl, rfl, W2 db k4 (by decide), ?_⟩
    refine ⟨_, rfl, _, _, rfl, rfl, W2 (c := 17) (d := 20) (by decide) kb (by decide), _, _, rfl, rfl, _, _, rfl, rfl, _, _, rfl, rfl, (by show (2147483647 : Int) ≠ 0; decide), ?_⟩
    have r2 := fmod_range (c.fmod 2147483647 * (48271 + 2 * k * k) + 69621 * k + 11) (show (0 : Int) < 2147483647 by decide)
    have r2b : ((c.fmod 2147483647 * (48271 + 2 * k * k) + 69621 * k + 11).fmod 2147483647).natAbs < 2 ^ 31 := by
      have : ((c.fmod 2147483647 * (48271 + 2 * k * k) + 69621 * k + 11).fmod 2147483647).natAbs < 2147483647 := by omega
      exact Nat.lt_of_lt_of_le this (by decide)
    refine ⟨_, _, rfl, rfl, W2 r2b (d := 17) (by decide) (by decide), _, _, rfl, rfl, (by show (2147483629 : Int) ≠ 0; decide), ?_⟩
    have r3 := fmod_range ((c.fmod 2147483647 * (48271 + 2 * k * k) + 69621 * k + 11).fmod 2147483647 * 69621) (show (0 : Int) < 2147483629 by decide)
    exact q _ r3.1 (by omega)
/-! ### a draw -/
def sp_law_draw (K : PySem.W.Frag) : Sp := fun vs H Q _ => ∃ (N : List Addr) (pd pl : Addr) (m : Nat) (b : Int), vs = [.ref pd, .int b] ∧ Live N H ∧ St K N H pd pl m ∧ m ≤ 900000 ∧ 0 < b ∧ b.natAbs.log2 < 9000 ∧
  ∀ (r : Int) (H' : Hp), 0 ≤ r → r < b → Chg pd pl H H' → St K N H' pd pl (m + 1) → Q (.int r) H'
theorem ixN_nat {n j : Nat} (h : j < n) : ixN n (j : Int) = some j := by
  unfold ixN
  rw [if_pos (by omega), if_pos (by omega), Int.toNat_natCast]
theorem ok__law_draw (F : Fun K "_law_draw" "_law_draw" s__law_draw f fd) (T : Txt K mg t1 t2 t3) (C__law_mixed : Ce P w K mg base CX0 1 "_law_mixed" ["cell", "k"] sp_law_mixed) : FnOk P w K mg base CX0 2 f fd ["state", "limit"] (sp_law_draw K) := by
  refine F.ok sc__law_draw (fun vs H Q E h => ?_) (fun cdv A outer s H vs Q E hr h => ?_)
  · obtain ⟨N, pd, pl, m, b, rfl, _⟩ := h
    rfl
  · obtain ⟨N, pd, pl, m, b, rfl, l, S, hm, hb, hbz, k⟩ := h
    have ne := st_ne S
    obtain ⟨pc, cells, lefts, n, e1, e2, e3, e4, e5, e6, e7⟩ := S.ex
    refine ⟨_, (pss_cons (ps_set (i := 2) sc__law_draw.nd rfl (Or.inl rfl) (pe_dget (hu_of hr) (pv 0) pe_str (fun _ _ => rfl)))
      (pss_cons (ps_dput (hu_of hr) (pv 0) pe_str (pe_op op_add (pv 2) pe_int) rfl)
      (pss_cons (ps_set (i := 3) sc__law_draw.nd rfl (Or.inl rfl) (pe_op op_modN (pe_callTy call_int1 (by rfl) T.f_int (by decide +kernel) (pa_cons (pv 2) pa_nil)) (pe_callB call_len_seq (by rfl) T.f_len (by decide +kernel) (pa_cons (pe_dget (hu_of hr) (pv 0) pe_str (fun _ _ => rfl)) pa_nil))))
      (pss_cons (ps_set (i := 4) sc__law_draw.nd rfl (Or.inl rfl) (pe_ix ix_list (pe_dget (hu_of hr) (pv 0) pe_str (fun _ _ => rfl)) (pv 3) (fun _ _ => rfl)))
      (pss_cons (ps_if (pt_cmpR op_gt (pv 4) pe_int (nomark _)) (pss_cons (ps_asg (pe_op op_fdivW (pv 4) (pv 1)) (pg_sub (pe_dget (hu_of hr) (pv 0) pe_str (fun _ _ => rfl)) (pv 3) set_list))
      (pss_one (ps_ret (pe_op op_modN (pe_callTy call_int1 (by rfl) T.f_int (by decide +kernel) (pa_cons (pv 4) pa_nil)) (pv 1))))) pss_nil)
      (pss_cons (ps_set (i := 5) sc__law_draw.nd rfl (Or.inl rfl) (pe_ce C__law_mixed (hr.mono (by decide)) pass0 (pa_cons (pe_ce C__law_mixed (hr.mono (by decide)) pass0 (pa_cons (pe_ix ix_list (pe_dget (hu_of hr) (pv 0) pe_str (fun _ _ => rfl)) (pv 3) (fun _ _ => rfl)) (pa_cons (pv 2) pa_nil))) (pa_cons (pe_op op_add pe_int (pv 2)) pa_nil))))
      (pss_one (ps_ret (pe_op op_modN (pe_op op_fdivW (pe_callTy call_int1 (by rfl) T.f_int (by decide +kernel) (pa_cons (pe_op op_add (pe_op op_mulW (pv 5) pe_int) (pe_ce C__law_mixed (hr.mono (by decide)) pass0 (pa_cons (pv 5) (pa_cons (pe_op op_add pe_int (pv 2)) pa_nil)))) pa_nil)) pe_int) (pv 1)))))))))), ?_⟩
    -- at = state['at']; state['at'] = at + 1
    refine ⟨_, rfl, pd, _, rfl, get_at e1, _, rfl, _, _, rfl, rfl, _, rfl, pd, _, rfl, put_at e1, ?_⟩
    have c1 : Chg pd pl H (upd H pd (.dK (stK pc pl (n + 1)))) := fun a o h1 h2 e => by rw [upd_ne h1]; exact e
    have d1 : (upd H pd (.dK (stK pc pl (n + 1)))) pd = some (.dK (stK pc pl (n + 1))) := upd_same
    have d2 : (upd H pd (.dK (stK pc pl (n + 1)))) pl = some (.lst (lefts.map V.int)) := by rw [upd_ne (Ne.symm ne)]; exact e2
    have d3c : SqL K (cut N (upd H pd (.dK (stK pc pl (n + 1))))) pc (cells.map V.int) := by rw [cut_upd S.md]; exact e3
    have d3 : SqL K (upd H pd (.dK (stK pc pl (n + 1)))) pc (cells.map V.int) := lst_same (cut_same _ _) d3c
    have S1 : St K N (upd H pd (.dK (stK pc pl (n + 1)))) pd pl (m + 1) := ⟨S.md, S.ml, pc, cells, lefts, n + 1, d1, d2, d3c, e4, e5, e6, by omega⟩
    -- spot
    refine ⟨_, rfl, .inl ⟨_, rfl, _, rfl, pd, _, rfl, get_cells d1, pc, _, rfl, .inl d3, _, _, rfl, rfl, ?_, ?_⟩⟩
    · rw [List.length_map]
      show ((cells.length : Nat) : Int) ≠ 0
      omega
    have es : ((n : Nat) : Int).fmod ((cells.map V.int).length : Nat) = ((n % cells.length : Nat) : Int) := by
      rw [List.length_map, Int.fmod_eq_emod_of_nonneg _ (by omega)]
      rfl
    have hj : n % cells.length < cells.length := Nat.mod_lt _ (by omega)
    have hjl : n % cells.length < lefts.length := by omega
    have gl : (lefts.map V.int)[n % cells.length]? = some (.int (lefts[n % cells.length])) := by
      rw [List.getElem?_map, List.getElem?_eq_getElem hjl]
      rfl
    have gc : (cells.map V.int)[n % cells.length]? = some (.int (cells[n % cells.length])) := by
      rw [List.getElem?_map, List.getElem?_eq_getElem hj]
      rfl
    have al : atI (lefts.map V.int) (((n : Nat) : Int).fmod ((cells.map V.int).length : Nat)) = some (.int (lefts[n % cells.length])) := by rw [es]; exact atI_nat gl
    have ac : atI (cells.map V.int) (((n : Nat) : Int).fmod ((cells.map V.int).length : Nat)) = some (.int (cells[n % cells.length])) := by rw [es]; exact atI_nat gc
    -- left
    refine ⟨_, rfl, pd, _, rfl, get_lefts d1, _, rfl, pl, _, _, _, rfl, rfl, .inl (.inl d2), al, ?_⟩
    refine ⟨_, rfl, _, _, rfl, rfl, _, rfl, ?_⟩
    by_cases hl : 0 < lefts[n % cells.length]
    · rw [decide_eq_true hl]
      refine iteT ?_
      refine ⟨_, rfl, _, rfl, _, _, rfl, rfl, ⟨hb, hbz⟩, _, rfl, pd, _, rfl, get_lefts d1, _, rfl, pl, _, _, n % cells.length, rfl, rfl, d2, ?_, ?_⟩
      · rw [es, List.length_map]
        exact ixN_nat hjl
      refine ⟨_, rfl, .inl ⟨_, rfl, _, rfl, _, _, rfl, rfl, (by show b ≠ 0; omega), ?_⟩⟩
      have r := fmod_range (lefts[n % cells.length]) hb
      refine k _ _ r.1 r.2 (c1.trans fun a o h1 h2 e => by rw [upd_ne h2]; exact e) ⟨S.md, S.ml, pc, cells, lefts.set (n % cells.length) (lefts[n % cells.length] / b), n + 1, ?_, ?_, ?_, ?_, e5, e6, by omega⟩
      · rw [upd_ne ne]
        exact d1
      · rw [upd_same, List.map_set]
      · rw [cut_upd S.ml]
        exact d3c
      · rw [List.length_set]
        exact e4
    · rw [decide_eq_false hl]
      refine iteF ?_
      refine ⟨_, rfl, pd, _, rfl, get_cells d1, _, rfl, pc, _, _, _, rfl, rfl, d3, ac, _, rfl, _, _, rfl, by omega, by omega, fun r1 h1 h2 => ?_⟩
      refine ⟨_, rfl, _, _, rfl, rfl, _, _, rfl, by omega, by omega, fun r2 h3 h4 => ?_⟩
      have b2 : r2.natAbs < 2 ^ 31 := Nat.lt_of_lt_of_le (show r2.natAbs < 2147483647 by omega) (by decide)
      refine ⟨_, rfl, _, _, rfl, rfl, W2 b2 (d := 31) (by decide) (by decide), _, rfl, _, rfl, _, _, rfl, rfl, _, _, rfl, by omega, by omega, fun r3 h5 h6 => ?_⟩
      refine ⟨_, _, rfl, rfl, .inl ⟨_, rfl, _, _, rfl, rfl, wide_div (b := 7) (by decide) (by decide) (by decide) (by decide), _, rfl, _, _, rfl, rfl, (by show b ≠ 0; omega), ?_⟩⟩
      have r := fmod_range ((r2 * 2147483647 + r3) / 64) hb
      exact k _ _ r.1 r.2 c1 S1
/-! ### a choice, a number -/
def sp_law_of (K : PySem.W.Frag) : Sp := fun vs H Q _ => ∃ (N : List Addr) (pd pl a : Addr) (m : Nat) (xs : List V), vs = [.ref pd, .ref a] ∧ Live N H ∧ St K N H pd pl m ∧ m ≤ 900000 ∧ SqL K (cut N H) a xs ∧ 1 ≤ xs.length ∧ xs.length ≤ 1000 ∧
  ∀ (v : V) (H' : Hp), v ∈ xs → Chg pd pl H H' → St K N H' pd pl (m + 1) → Q v H'
theorem ok__law_of (F : Fun K "_law_of" "_law_of" s__law_of f fd) (T : Txt K mg t1 t2 t3) (C__law_draw : Ce P w K mg base CX0 2 "_law_draw" ["state", "limit"] (sp_law_draw K)) : FnOk P w K mg base CX0 3 f fd ["state", "some"] (sp_law_of K) := by
  refine F.ok sc__law_of (fun vs H Q E h => ?_) (fun cdv A outer s H vs Q E hr h => ?_)
  · obtain ⟨N, pd, pl, a, m, xs, rfl, _⟩ := h
    rfl
  · obtain ⟨N, pd, pl, a, m, xs, rfl, l, S, hm, ha, h1, h2, k⟩ := h
    refine ⟨_, (pss_one (ps_ret (pe_ix ix_list (pv 1) (pe_ce C__law_draw (hr.mono (by decide)) pass0 (pa_cons (pv 0) (pa_cons (pe_callB call_len_seq (by rfl) T.f_len (by decide +kernel) (pa_cons (pv 1) pa_nil)) pa_nil))) (fun _ _ => rfl)))), ?_⟩
    refine ⟨_, rfl, _, rfl, _, rfl, a, xs, rfl, .inl (lst_same (cut_same _ _) ha), N, pd, pl, m, _, rfl, l, S, hm, by omega, ?_, fun r H' r0 r1 c S' => ?_⟩
    · refine Nat.lt_of_lt_of_le (log_of (n := 10) (by decide) ?_) (by decide)
      rw [Int.natAbs_natCast]
      exact Nat.lt_of_le_of_lt h2 (by decide)
    · have hr : r = ((r.toNat : Nat) : Int) := by omega
      have hlt : r.toNat < xs.length := by omega
      refine ⟨a, xs, r, xs[r.toNat], rfl, rfl, lst_same (cut_same N _) (lst_same (c.cut S.md S.ml) ha), ?_, k _ _ (List.getElem_mem _) c S'⟩
      have e := atI_nat (xs := xs) (List.getElem?_eq_getElem hlt)
      rw [← hr] at e
      exact e
structure NumR (wd bl : Int) (q : Int × Int) : Prop where
  low : Low q
  lo : -wd ≤ q.1
  hi : q.1 ≤ wd
  bot : q.2 ≤ bl
theorem fr_numR {a b wd bl : Int} (h1 : -wd ≤ a) (h2 : a ≤ wd) (h3 : 0 < b) (h4 : b ≤ bl) : NumR wd bl (fr a b) := by
  have x : (fr a b).1.natAbs ≤ a.natAbs := natAbs_div_le _ _
  have y : (fr a b).2.natAbs ≤ b.natAbs := natAbs_div_le _ _
  have p := fr_pos (a := a) h3
  exact ⟨fr_low h3, by omega, by omega, by omega⟩
def sp_law_number (K : PySem.W.Frag) : Sp := fun vs H Q _ => ∃ (N : List Addr) (pd pl : Addr) (m : Nat) (wd bl : Int), vs = [.ref pd, .int wd, .int bl] ∧ Live N H ∧ St K N H pd pl m ∧ m ≤ 800000 ∧ 0 ≤ wd ∧ 0 < bl ∧ wd.natAbs < 2 ^ 300 ∧ bl.natAbs < 2 ^ 300 ∧
  ∀ (v : V) (q : Int × Int) (H' : Hp), Chg pd pl H H' → St K N H' pd pl (m + 2) → Dp K (cut N H') v (nD q) → NumR wd bl q → Q v H'
theorem log_small {a : Int} {n : Nat} (h : a.natAbs < 2 ^ n) (h0 : 0 < n) (h1 : n ≤ 9000) : a.natAbs.log2 < 9000 := Nat.lt_of_lt_of_le (log_of h0 h) h1
theorem ok__law_number (F : Fun K "_law_number" "_law_number" s__law_number f fd) (T : Txt K mg t1 t2 t3) (C__law_draw : Ce P w K mg base CX0 2 "_law_draw" ["state", "limit"] (sp_law_draw K))
    (C__law_frac : Ce P w K mg base CX0 2 "_law_frac" ["above", "below"] (sp_law_frac K)) : FnOk P w K mg base CX0 3 f fd ["state", "widest", "below"] (sp_law_number K) := by
  refine F.ok sc__law_number (fun vs H Q E h => ?_) (fun cdv A outer s H vs Q E hr h => ?_)
  · obtain ⟨N, pd, pl, m, wd, bl, rfl, _⟩ := h
    rfl
  · obtain ⟨N, pd, pl, m, wd, bl, rfl, l, S, hm, h0, h1, h2, h3, k⟩ := h
    refine ⟨_, (pss_one (ps_ret (pe_ce C__law_frac (hr.mono (by decide)) pass0 (pa_cons (pe_op op_sub (pe_ce C__law_draw (hr.mono (by decide)) pass0 (pa_cons (pv 0) (pa_cons (pe_op op_add (pe_op op_mulW pe_int (pv 1)) pe_int) pa_nil))) (pv 1)) (pa_cons (pe_op op_add pe_int (pe_ce C__law_draw (hr.mono (by decide)) pass0 (pa_cons (pv 0) (pa_cons (pv 2) pa_nil)))) pa_nil))))), ?_⟩
    have b1 : (2 * wd + 1).natAbs < 2 ^ 302 := by
      have e : (2 : Nat) ^ 302 = 4 * 2 ^ 300 := by rw [show (302 : Nat) = 300 + 2 by rfl, Nat.pow_add, Nat.mul_comm]
      have : 0 < (2 : Nat) ^ 300 := Nat.two_pow_pos _
      omega
    refine ⟨_, rfl, _, rfl, _, _, rfl, rfl, W2 (c := 2) (by decide) h2 (by decide), _, _, rfl, rfl, N, pd, pl, m, _, rfl, l, S, by omega, by omega, log_small b1 (by decide) (by decide), fun r H1 r0 r1 c1 S1 => ?_⟩
    refine ⟨_, rfl, _, _, rfl, rfl, _, rfl, _, rfl, N, pd, pl, m + 1, bl, rfl, S1.live c1 l, S1, by omega, h1, log_small h3 (by decide) (by decide), fun r2 H2 q0 q1 c2 S2 => ?_⟩
    have c := c1.trans c2
    refine ⟨_, _, rfl, rfl, N, _, _, rfl, S2.live c l, by omega, ?_, fun v H3 s3 hv => ?_⟩
    · refine log_small (n := 300) ?_ (by decide) (by decide)
      have : (1 + r2).natAbs ≤ bl.natAbs := by omega
      exact Nat.lt_of_le_of_lt this h3
    · exact k v _ H3 (c.trans (Chg.of s3)) (S2.same s3) hv (fr_numR (by omega) (by omega) (by omega) (by omega))
theorem fr_ne {a b : Int} (h : 0 < b) (ha : a ≠ 0) : (fr a b).1 ≠ 0 := by
  intro z
  have e := Int.ediv_mul_cancel (gc_dl a b)
  have z' : a / gc a b = 0 := z
  rw [z', Int.zero_mul] at e
  exact ha e.symm
/-! ### a step -/
/-- a drawn step: its numbers, its head not nought -/
structure StepR (wd bl : Int) (n : Nat) (s : List (Int × Int)) : Prop where
  len : s.length = n
  num : ∀ q ∈ s, NumR wd bl q
  head : ∀ q, s.getLast? = some q → q.1 ≠ 0
def sp_law_step (K : PySem.W.Frag) : Sp := fun vs H Q _ => ∃ (N : List Addr) (pd pl : Addr) (m n : Nat) (wd bl : Int), vs = [.ref pd, .int n, .int wd, .int bl] ∧ Live N H ∧ St K N H pd pl m ∧ m ≤ 700000 ∧ n ≤ 100 ∧ 0 < wd ∧ 0 < bl ∧ wd.natAbs < 2 ^ 300 ∧ bl.natAbs < 2 ^ 300 ∧
  ∀ (v : V) (s : List (Int × Int)) (H' : Hp), Chg pd pl H H' → St K N H' pd pl (m + 2 * n + 3) → Dp K (cut N H') v (sD s) → StepR wd bl (n + 1) s → Q v H'
theorem cut_sub {N : List Addr} {H : Hp} (D : Addr) : Same (cut (D :: N) H) (cut N H) := fun a o e => by
  by_cases h : a ∈ N
  · rw [cut_in (List.mem_cons_of_mem _ h)] at e; cases e
  · by_cases h2 : a = D
    · rw [cut_in (by rw [h2]; exact List.mem_cons_self)] at e; cases e
    · rw [cut_out (by intro z; rcases List.mem_cons.mp z with z | z; exact h2 z; exact h z)] at e
      rw [cut_out h]; exact e
theorem cut_add {N : List Addr} {H : Hp} {D : Addr} (h : H D = none) (o : HO) : Same (cut N H) (cut (D :: N) (upd H D o)) := fun a u e => by
  by_cases h1 : a ∈ N
  · rw [cut_in h1] at e; cases e
  · rw [cut_out h1] at e
    have : a ≠ D := ne_of_none e h
    rw [cut_out (by intro z; rcases List.mem_cons.mp z with z | z; exact this z; exact h1 z), upd_ne this]
    exact e
/-- the state with one more object that may change -/
theorem St.push {N : List Addr} {H : Hp} {pd pl D : Addr} {m : Nat} (S : St K N H pd pl m) (h : H D = none) (o : HO) : St K (D :: N) (upd H D o) pd pl m := by
  obtain ⟨pc, cells, lefts, n, e1, e2, e3, e4⟩ := S.ex
  refine ⟨List.mem_cons_of_mem _ S.md, List.mem_cons_of_mem _ S.ml, pc, cells, lefts, n, ?_, ?_, lst_same (cut_add h o) e3, e4⟩
  · rw [upd_ne (ne_of_none e1 h)]; exact e1
  · rw [upd_ne (ne_of_none e2 h)]; exact e2
theorem St.pop {N : List Addr} {H : Hp} {pd pl D : Addr} {m : Nat} (S : St K (D :: N) H pd pl m) (h1 : pd ∈ N) (h2 : pl ∈ N) : St K N H pd pl m := by
  obtain ⟨pc, cells, lefts, n, e1, e2, e3, e4⟩ := S.ex
  exact ⟨h1, h2, pc, cells, lefts, n, e1, e2, lst_same (cut_sub D) e3, e4⟩
theorem St.setD {N : List Addr} {H : Hp} {pd pl D : Addr} {m : Nat} (S : St K (D :: N) H pd pl m) (h1 : D ≠ pd) (h2 : D ≠ pl) (o : HO) : St K (D :: N) (upd H D o) pd pl m := by
  obtain ⟨pc, cells, lefts, n, e1, e2, e3, e4⟩ := S.ex
  refine ⟨S.md, S.ml, pc, cells, lefts, n, by rw [upd_ne (Ne.symm h1)]; exact e1, by rw [upd_ne (Ne.symm h2)]; exact e2, ?_, e4⟩
  rw [cut_upd List.mem_cons_self]
  exact e3
theorem Live.push {N : List Addr} {H : Hp} {D : Addr} (l : Live N H) (h : H D = none) (o : HO) : Live (D :: N) (upd H D o) := fun a ha => by
  by_cases e : a = D
  · rw [e, upd_same]; simp
  · rw [upd_ne e]
    rcases List.mem_cons.mp ha with z | z
    · exact absurd z e
    · exact l a z
theorem Live.setD {N : List Addr} {H : Hp} {D : Addr} (l : Live N H) (o : HO) : Live N (upd H D o) := fun a ha => by
  by_cases e : a = D
  · rw [e, upd_same]; simp
  · rw [upd_ne e]; exact l a ha
/-- n drawn numbers in a list -/
theorem draws_list {N : List Addr} {H : Hp} {pd pl D : Addr} {m n : Nat} {wd bl : Int} {g : TG} {te : TE} {vs : List Nat} {σ : L2.St} {Qd : Hp → Prop} (l : Live N H) (S : St K N H pd pl m) (hD : H D = none) (hn : n ≤ 1000)
    (hte : ∀ i H1 Q1, i < n → Live (D :: N) H1 → St K (D :: N) H1 pd pl (m + 2 * i) → (∀ (v : V) (q : Int × Int) (H' : Hp), Chg pd pl H1 H' → St K (D :: N) H' pd pl (m + 2 * i + 2) → Dp K (cut (D :: N) H') v (nD q) → NumR wd bl q → Q1 v H') →
      g (.int (0 + (i : Int))) (wipe σ vs) H1 fun σ2 H2 => wipe σ2 vs = wipe σ vs ∧ te σ2 H2 Q1)
    (hd : ∀ (xs : List V) (qs : List (Int × Int)) (H' : Hp), (∀ b o, b ≠ pd → b ≠ pl → H b = some o → H' b = some o) → Live N H' → St K N H' pd pl (m + 2 * n) → H' D = some (.lst xs) → DpAll K (cut N H') xs (qs.map nD) → qs.length = n → (∀ q ∈ qs, NumR wd bl q) → Qd H') :
    ∃ W : Nat → Nat → Hp → Prop, (∃ m, W 0 m (upd H D (.lst []))) ∧ ∀ i m H, W i m H →
      ((Itr 0 n).stop i H ∧ Qd H) ∨ ((Itr 0 n).go i H ∧ ∃ Nx : Hp → Prop, (∀ H', Nx H' → ∃ m', m' < m ∧ W (i + 1) m' H') ∧ ∀ x H', (Itr 0 n).yld i H x H' → g x (wipe σ vs) H' fun σ2 H2 => wipe σ2 vs = wipe σ vs ∧ tYes σ2 H2 fun b H3 =>
        if b = true then te σ2 H3 fun y H4 => ∃ acc, H4 D = some (.lst acc) ∧ acc.length < sizeLine ∧ Nx (upd H4 D (.lst (acc ++ [y]))) else Nx H3) := by
  have nd1 : D ≠ pd := by
    obtain ⟨pc, cells, lefts, n, e1, _⟩ := S.ex
    exact Ne.symm (ne_of_none e1 hD)
  have nd2 : D ≠ pl := by
    obtain ⟨pc, cells, lefts, n, e1, e2, _⟩ := S.ex
    exact Ne.symm (ne_of_none e2 hD)
  refine lc_range (lo := 0) (n := n) (fun i H1 => (∀ b o, b ≠ pd → b ≠ pl → H b = some o → H1 b = some o) ∧ Live (D :: N) H1 ∧ St K (D :: N) H1 pd pl (m + 2 * i) ∧ ∃ (xs : List V) (qs : List (Int × Int)), H1 D = some (.lst xs) ∧ DpAll K (cut (D :: N) H1) xs (qs.map nD) ∧ qs.length = i ∧ ∀ q ∈ qs, NumR wd bl q)
    ⟨fun b o _ _ e => same_new hD b o e, l.push hD _, S.push hD _, [], [], upd_same, .nil, rfl, fun _ h => (by cases h)⟩ ?_ ?_
  · rintro i H1 hi ⟨c, l1, S1, xs, qs, e1, e2, e3, e4⟩
    have key := hte i H1 (fun y H4 => ∃ acc, H4 D = some (.lst acc) ∧ acc.length < sizeLine ∧
      ((∀ b o, b ≠ pd → b ≠ pl → H b = some o → (upd H4 D (.lst (acc ++ [y]))) b = some o) ∧ Live (D :: N) (upd H4 D (.lst (acc ++ [y]))) ∧ St K (D :: N) (upd H4 D (.lst (acc ++ [y]))) pd pl (m + 2 * (i + 1)) ∧ ∃ (xs : List V) (qs : List (Int × Int)), (upd H4 D (.lst (acc ++ [y]))) D = some (.lst xs) ∧ DpAll K (cut (D :: N) (upd H4 D (.lst (acc ++ [y])))) xs (qs.map nD) ∧ qs.length = i + 1 ∧ ∀ q ∈ qs, NumR wd bl q)) hi l1 S1 (fun v q H' c2 S2 hv hq => by
        have el : xs.length = qs.length := by rw [e2.length, List.length_map]
        refine ⟨xs, c2 D _ nd1 nd2 e1, small1000 (by omega), fun b o h1 h2 e => ?_, (S2.live c2 l1).setD _, (S2.setD nd1 nd2 _).more (by omega), xs ++ [v], qs ++ [q], upd_same, ?_, by rw [List.length_append, e3]; rfl, fun r hr => ?_⟩
        · rw [upd_ne (ne_of_none e hD)]
          exact c2 b o h1 h2 (c b o h1 h2 e)
        · rw [cut_upd List.mem_cons_self, List.map_append]
          exact DpAll.append (e2.ext (c2.cut S1.md S1.ml)) (.cons hv .nil)
        · rcases List.mem_append.mp hr with z | z
          · exact e4 r z
          · rw [List.mem_singleton.mp z]; exact hq)
    exact key
  · rintro H1 ⟨c, l1, S1, xs, qs, e1, e2, e3, e4⟩
    exact hd xs qs H1 c (fun a ha => l1 a (List.mem_cons_of_mem _ ha)) (S1.pop S.md S.ml) e1 (e2.ext (cut_sub D)) e3 e4
theorem dp_lst_un {N : List Addr} {H : Hp} {D : Addr} {xs : List V} (nD' : D ∉ N) (h : H D = some (.lst xs)) : SqL K (cut N H) D xs := .inl (.inl (cut_at nD' h))
theorem ok__law_step (F : Fun K "_law_step" "_law_step" s__law_step f fd) (T : Txt K mg t1 t2 t3) (C__law_draw : Ce P w K mg base CX0 2 "_law_draw" ["state", "limit"] (sp_law_draw K))
    (C__law_frac : Ce P w K mg base CX0 2 "_law_frac" ["above", "below"] (sp_law_frac K)) (C__law_number : Ce P w K mg base CX0 3 "_law_number" ["state", "widest", "below"] (sp_law_number K)) : FnOk P w K mg base CX0 4 f fd ["state", "size", "widest", "below"] (sp_law_step K) := by
  refine F.ok sc__law_step (fun vs H Q E h => ?_) (fun cdv A outer s H vs Q E hr h => ?_)
  · obtain ⟨N, pd, pl, m, n, wd, bl, rfl, _⟩ := h
    rfl
  · obtain ⟨N, pd, pl, m, n, wd, bl, rfl, l, S, hm, hn, h0, h1, h2, h3, k⟩ := h
    refine ⟨_, (pss_cons (ps_setLc (i := 4) (own := [("power", 6)]) (g := gName 6) rfl sc__law_step.nd rfl rfl (sw_true rfl rfl rfl (by decide +kernel)) (pi_range1 rfl T.f_range (pa_cons (pv 1) pa_nil)) (blkOk_by (N := ["state", "size", "widest", "below", "found", "head", "power"]) (sc := defScope s__law_step) (by decide +kernel)) (fun _ _ _ _ _ => by exact (pg_name (i := 6) sc__law_step.nd rfl (Or.inl rfl))) (fun _ _ _ _ _ => by exact pts_nil) (fun _ _ _ _ _ => by exact (pe_ce C__law_number (hr.mono (by decide)) pass0 (pa_cons (pv 0) (pa_cons (pv 2) (pa_cons (pv 3) pa_nil))))))
      (pss_cons (ps_set (i := 5) sc__law_step.nd rfl (Or.inl rfl) (pe_ce C__law_frac (hr.mono (by decide)) pass0 (pa_cons (pe_op op_mulW (pe_op op_add pe_int (pe_ce C__law_draw (hr.mono (by decide)) pass0 (pa_cons (pv 0) (pa_cons (pv 2) pa_nil)))) (pe_op op_sub pe_int (pe_op op_mulW pe_int (pe_ce C__law_draw (hr.mono (by decide)) pass0 (pa_cons (pv 0) (pa_cons pe_int pa_nil)))))) (pa_cons (pe_op op_add pe_int (pe_ce C__law_draw (hr.mono (by decide)) pass0 (pa_cons (pv 0) (pa_cons (pv 3) pa_nil)))) pa_nil))))
      (pss_one (ps_ret (pe_callTy call_tuple_of (by rfl) T.f_tuple (by decide +kernel) (pa_cons (pe_op op_cat (pv 4) (pe_lst (pa_cons (pv 5) pa_nil))) pa_nil)))))), ?_⟩
    refine ⟨_, rfl, _, rfl, by omega, by omega, fun D hD => ?_⟩
    have nDN := l.new hD
    rw [Int.toNat_natCast]
    refine draws_list (wd := wd) (bl := bl) l S hD (by omega) (fun i H1 Q1 hi l1 S1 q1 => ?_) (fun xs qs H1 c l1 S1 e1 e2 e3 e4 => ?_)
    · refine ⟨rfl, _, rfl, _, rfl, _, rfl, D :: N, pd, pl, m + 2 * i, wd, bl, rfl, l1, S1, by omega, by omega, h1, h2, h3, fun v q H' c2 S2 hv hq => q1 v q H' c2 S2 hv hq⟩
    · -- head
      have c : Chg pd pl H H1 := c
      refine ⟨_, rfl, _, rfl, N, pd, pl, _, wd, rfl, l1, S1, by omega, h0, log_small h2 (by decide) (by decide), fun r1 H2 r10 r11 c2 S2 => ?_⟩
      refine ⟨_, _, rfl, rfl, _, rfl, N, pd, pl, _, 2, rfl, S2.live c2 l1, S2, by omega, by decide, by decide, fun r2 H3 r20 r21 c3 S3 => ?_⟩
      refine ⟨_, _, rfl, rfl, W2 (c := 2) (d := 2) (by decide) (Nat.lt_of_le_of_lt (show r2.natAbs ≤ 1 by omega) (by decide)) (by decide), _, _, rfl, rfl, ?_⟩
      have hw1 : (1 + r1).natAbs < 2 ^ 300 := Nat.lt_of_le_of_lt (show (1 + r1).natAbs ≤ wd.natAbs by omega) h2
      have hsgn : 1 - 2 * r2 = 1 ∨ 1 - 2 * r2 = -1 := by omega
      refine ⟨_, _, rfl, rfl, W2 hw1 (d := 1) (by rcases hsgn with z | z <;> rw [z] <;> decide) (by decide), ?_⟩
      have l3 := S3.live c3 (S2.live c2 l1)
      refine ⟨_, rfl, _, rfl, N, pd, pl, _, bl, rfl, l3, S3, by omega, h1, log_small h3 (by decide) (by decide), fun r3 H4 r30 r31 c4 S4 => ?_⟩
      have l4 := S4.live c4 l3
      refine ⟨_, _, rfl, rfl, N, _, _, rfl, l4, by omega, log_small (n := 300) (Nat.lt_of_le_of_lt (show (1 + r3).natAbs ≤ bl.natAbs by omega) h3) (by decide) (by decide), fun hv H5 s5 hd5 => ?_⟩
      have nd1 : D ≠ pd := fun e => nDN (e ▸ S.md)
      have nd2 : D ≠ pl := fun e => nDN (e ▸ S.ml)
      have c25 : Chg pd pl H1 H5 := ((c2.trans c3).trans c4).trans (Chg.of s5)
      have eD : H5 D = some (.lst xs) := c25 D _ nd1 nd2 e1
      have S5 := S4.same s5
      refine ⟨_, rfl, _, rfl, (by show 1 ≤ sizeLine; decide), fun p1 n1 => ?_⟩
      have x1 := same_new (o := .lst [hv]) n1
      refine ⟨D, p1, xs, [hv], rfl, rfl, x1 _ _ eD, upd_same, ?_, fun p2 n2 => ?_⟩
      · have : xs.length = qs.length := by rw [e2.length, List.length_map]
        rw [this, e3, sizeLine_eq]
        show n + 1 ≤ _
        omega
      have x2 := x1.trans (same_new (o := .lst (xs ++ [hv])) n2)
      refine ⟨p2, xs ++ [hv], rfl, .inl ⟨.inl (.inl upd_same), fun p3 n3 => ?_⟩⟩
      have x3 := x2.trans (same_new (o := .tup (xs ++ [hv])) n3)
      have l5 := l4.same s5
      have np3 : p3 ∉ N := (l5.same x2).new n3
      refine k _ (qs ++ [fr ((1 + r1) * (1 - 2 * r2)) (1 + r3)]) _ ((c.trans c25).trans (Chg.of x3)) ((S5.same x3).more (by omega)) ?_ ⟨by rw [List.length_append, e3]; rfl, fun q hq => ?_, fun q hq => ?_⟩
      · refine .tup (.inl (.inl (cut_at np3 upd_same))) ?_
        rw [List.map_append]
        exact DpAll.append (e2.ext ((c25.trans (Chg.of x3)).cut S.md S.ml)) (.cons (hd5.ext (Same.cut N x3)) .nil)
      · rcases List.mem_append.mp hq with z | z
        · exact e4 q z
        · rw [List.mem_singleton.mp z]
          rcases hsgn with y | y <;> rw [y] <;> exact fr_numR (by omega) (by omega) (by omega) (by omega)
      · have e : q = fr ((1 + r1) * (1 - 2 * r2)) (1 + r3) := by simpa using hq.symm
        rw [e]
        refine fr_ne (by omega) ?_
        rcases hsgn with y | y <;> rw [y] <;> omega
/-! ### a plain step -/
def sp_law_plain (K : PySem.W.Frag) : Sp := fun vs H Q _ => ∃ (N : List Addr) (pd pl : Addr) (m n : Nat) (wd bl : Int), vs = [.ref pd, .int n, .int wd, .int bl] ∧ Live N H ∧ St K N H pd pl m ∧ m ≤ 700000 ∧ 1 ≤ n ∧ n ≤ 100 ∧ 0 < wd ∧ 0 < bl ∧ wd.natAbs < 2 ^ 300 ∧ bl.natAbs < 2 ^ 300 ∧
  ∀ (v : V) (s : List (Int × Int)) (H' : Hp), Chg pd pl H H' → St K N H' pd pl (m + 2 * n + 3) → Dp K (cut N H') v (sD s) → StepR wd bl (n + 1) s → Q v H'
theorem ok__law_plain (F : Fun K "_law_plain" "_law_plain" s__law_plain f fd) (T : Txt K mg t1 t2 t3) (C__law_number : Ce P w K mg base CX0 3 "_law_number" ["state", "widest", "below"] (sp_law_number K)) : FnOk P w K mg base CX0 4 f fd ["state", "size", "widest", "below"] (sp_law_plain K) := by
  refine F.ok sc__law_plain (fun vs H Q E h => ?_) (fun cdv A outer s H vs Q E hr h => ?_)
  · obtain ⟨N, pd, pl, m, n, wd, bl, rfl, _⟩ := h
    rfl
  · obtain ⟨N, pd, pl, m, n, wd, bl, rfl, l, S, hm, hn1, hn, h0, h1, h2, h3, k⟩ := h
    refine ⟨_, (pss_cons (ps_setLc (i := 4) (own := [("power", 5)]) (g := gName 5) rfl sc__law_plain.nd rfl rfl (sw_true rfl rfl rfl (by decide +kernel)) (pi_range1 rfl T.f_range (pa_cons (pe_op op_sub (pv 1) pe_int) pa_nil)) (blkOk_by (N := ["state", "size", "widest", "below", "found", "power"]) (sc := defScope s__law_plain) (by decide +kernel)) (fun _ _ _ _ _ => by exact (pg_name (i := 5) sc__law_plain.nd rfl (Or.inl rfl))) (fun _ _ _ _ _ => by exact pts_nil) (fun _ _ _ _ _ => by exact (pe_ce C__law_number (hr.mono (by decide)) pass0 (pa_cons (pv 0) (pa_cons (pv 2) (pa_cons (pv 3) pa_nil))))))
      (pss_one (ps_ret (pe_op op_catA (pe_op op_catA (pe_tup (pa_cons (pe_tup (pa_cons pe_int (pa_cons pe_int pa_nil))) pa_nil)) (pe_callTy call_tuple_of (by rfl) T.f_tuple (by decide +kernel) (pa_cons (pv 4) pa_nil))) (pe_tup (pa_cons (pe_tup (pa_cons pe_int (pa_cons pe_int pa_nil))) pa_nil)))))), ?_⟩
    refine ⟨_, rfl, _, _, rfl, rfl, _, rfl, by omega, by omega, fun D hD => ?_⟩
    have nDN := l.new hD
    have en : ((n : Int) - 1).toNat = n - 1 := by omega
    rw [en]
    refine draws_list (wd := wd) (bl := bl) l S hD (by omega) (fun i H1 Q1 hi l1 S1 q1 => ?_) (fun xs qs H1 c l1 S1 e1 e2 e3 e4 => ?_)
    · refine ⟨rfl, _, rfl, _, rfl, _, rfl, D :: N, pd, pl, m + 2 * i, wd, bl, rfl, l1, S1, by omega, by omega, h1, h2, h3, fun v q H' c2 S2 hv hq => q1 v q H' c2 S2 hv hq⟩
    · have c : Chg pd pl H H1 := c
      refine ⟨(by show 2 ≤ sizeLine; decide), fun p1 n1 => ⟨(by show 1 ≤ sizeLine; decide), fun p2 n2 => ?_⟩⟩
      have y1 := same_new (o := .tup [.int 0, .int 1]) n1
      have y2 := y1.trans (same_new (o := .tup [.ref p1]) n2)
      refine ⟨_, rfl, D, xs, rfl, .inl ⟨.inl (.inl (y2 _ _ e1)), fun p3 n3 => ?_⟩⟩
      have y3 := y2.trans (same_new (o := .tup xs) n3)
      have nx : xs.length = n - 1 := by rw [e2.length, List.length_map, e3]
      have np1 : p1 ∉ N := l1.new n1
      have dn1 : ∀ {H'}, Same (upd H1 p1 (.tup [.int 0, .int 1])) H' → Dp K (cut N H') (.ref p1) (nD (0, 1)) := fun {H'} s => .tup (.inl (.inl (cut_at np1 (s _ _ upd_same)))) dp_two
      have rest : ∀ (p4 : Addr) (H4 : Hp), Same (upd (upd (upd H1 p1 (.tup [.int 0, .int 1])) p2 (.tup [.ref p1])) p3 (.tup xs)) H4 → SqT K H4 p4 (.ref p1 :: xs) →
          [V.int 1, V.int 1].length ≤ sizeLine ∧ ∀ p, H4 p = none → [V.ref p].length ≤ sizeLine ∧ ∀ p', (upd H4 p (.tup [.int 1, .int 1])) p' = none → rCatA K (.ref p4) (.ref p') (upd (upd H4 p (.tup [.int 1, .int 1])) p' (.tup [.ref p])) Q := by
        intro p4 H4 s4 hp4
        have y4 := y3.trans s4
        refine ⟨(by show 2 ≤ sizeLine; decide), fun p5 n5 => ⟨(by show 1 ≤ sizeLine; decide), fun p6 n6 => ?_⟩⟩
        have y5 := y4.trans (same_new (o := .tup [.int 1, .int 1]) n5)
        have y6 := y5.trans (same_new (o := .tup [.ref p5]) n6)
        have l4 := l1.same y4
        refine ⟨p4, p6, _, [.ref p5], rfl, rfl, seq_same ((same_new n5).trans (same_new n6)) hp4, .inl (.inl upd_same), ?_, (fun z => by cases z), (fun _ z => by cases z), fun _ _ p7 n7 => ?_⟩
        · show xs.length + 1 + 1 ≤ sizeLine
          rw [sizeLine_eq]
          omega
        have y7 := y6.trans (same_new (o := .tup (.ref p1 :: xs ++ [.ref p5])) n7)
        have np7 : p7 ∉ N := (l1.same y6).new n7
        refine k _ ((0, 1) :: qs ++ [(1, 1)]) _ (c.trans (Chg.of y7)) ((S1.same y7).more (by omega)) ?_ ⟨by simp [e3]; omega, fun q hq => ?_, fun q hq => ?_⟩
        · refine .tup (.inl (.inl (cut_at np7 upd_same))) ?_
          rw [List.map_append]
          refine DpAll.append (.cons ?_ ?_) (.cons ?_ .nil)
          · exact dn1 (((same_new n2).trans (same_new n3)).trans (s4.trans ((same_new n5).trans ((same_new n6).trans (same_new n7)))))
          · exact e2.ext (Same.cut N y7)
          · refine .tup (.inl (.inl (cut_at (l4.new n5) ?_))) dp_two
            exact same_new n7 _ _ (same_new n6 _ _ upd_same)
        · rcases List.mem_append.mp hq with z | z
          · rcases List.mem_cons.mp z with z | z
            · rw [z]
              exact ⟨low_0, by show -wd ≤ 0; omega, by show 0 ≤ wd; omega, by show 1 ≤ bl; omega⟩
            · exact e4 q z
          · rw [List.mem_singleton.mp z]
            exact ⟨low_1, by show -wd ≤ 1; omega, by show 1 ≤ wd; omega, by show 1 ≤ bl; omega⟩
        · rw [List.getLast?_concat] at hq
          cases hq
          decide
      refine ⟨p2, p3, [.ref p1], xs, rfl, rfl, .inl (.inl (same_new n3 _ _ upd_same)), .inl (.inl upd_same), ?_, (fun z => by cases z), fun _ z => ?_, fun _ _ p4 n4 => ?_⟩
      · show 1 + xs.length ≤ sizeLine
        rw [sizeLine_eq]
        omega
      · refine rest p2 _ (Same.refl _) ?_
        rw [z]
        exact .inl (.inl (same_new n3 _ _ upd_same))
      · exact rest p4 _ (same_new n4) (.inl (.inl upd_same))
end
end My

set_option Elab.async false
set_option linter.all false
set_option maxRecDepth 100000
set_option maxHeartbeats 4000000
set_option exponentiation.threshold 20000
namespace My
open PySem PySem.Spec PyProof.Rows L2
/-! ### data whose text may be written -/
structure Sh (n k : Nat) (d : PyData) : Prop where
  ok : d.showable = true
  nod : d.hasDict = false
  deep : d.depth ≤ k
  len : d.shown.length ≤ n
theorem Sh.mono {n m k l : Nat} {d : PyData} (h : Sh n k d) (h1 : n ≤ m) (h2 : k ≤ l) : Sh m l d := ⟨h.ok, h.nod, Nat.le_trans h.deep h2, Nat.le_trans h.len h1⟩
theorem sh_int {i : Int} (h : i.natAbs < 2 ^ 1920) : Sh 1921 0 (.int i) := by
  have h1 := log_of (by decide) h
  exact ⟨by simpa only [PyData.showable, decide_eq_true_eq] using h1, by simp only [PyData.hasDict], by simp only [PyData.depth]; exact Nat.le_refl _, by simpa only [PyData.shown] using int_text_len_1921 h1⟩
theorem sh_bool {b : Bool} : Sh 1921 0 (.bool b) := by cases b <;> exact ⟨by decide, by decide, by decide, by decide⟩
theorem sh_none : Sh 1921 0 .none := ⟨by decide, by decide, by decide, by decide⟩
theorem sh_all {n k : Nat} : ∀ {ds : List PyData}, (∀ d ∈ ds, Sh n k d) → PyData.showableAll ds = true ∧ PyData.hasDictAll ds = false ∧ PyData.depthAll ds ≤ k ∧ ((PyData.shownAll ds).map (·.length)).sum ≤ ds.length * n
  | [], _ => by
    simp only [PyData.showableAll, PyData.hasDictAll, PyData.depthAll, PyData.shownAll, List.map_nil, List.sum_nil]
    exact ⟨trivial, trivial, Nat.zero_le _, Nat.zero_le _⟩
  | d :: ds, h => by
    obtain ⟨a, b, c, e⟩ := sh_all fun x hx => h x (List.mem_cons_of_mem _ hx)
    have q := h d List.mem_cons_self
    simp only [PyData.showableAll, PyData.hasDictAll, PyData.depthAll, PyData.shownAll, List.map_cons, List.sum_cons, List.length_cons, Bool.and_eq_true, Bool.or_eq_false_iff]
    refine ⟨⟨q.ok, a⟩, ⟨q.nod, b⟩, Nat.max_le.mpr ⟨q.deep, c⟩, ?_⟩
    have := q.len
    rw [Nat.add_mul, Nat.one_mul]
    omega
theorem shownAll_len : ∀ ds : List PyData, (PyData.shownAll ds).length = ds.length
  | [] => rfl
  | d :: ds => by simp only [PyData.shownAll, List.length_cons, shownAll_len ds]
theorem sh_tup {n k : Nat} {ds : List PyData} (h : ∀ d ∈ ds, Sh n k d) : Sh (ds.length * (n + 2) + 3) (k + 1) (.tuple ds) := by
  obtain ⟨a, b, c, e⟩ := sh_all h
  have t := tupleText_len_le (PyData.shownAll ds)
  rw [shownAll_len] at t
  refine ⟨by simpa only [PyData.showable] using a, by simpa only [PyData.hasDict] using b, by simp only [PyData.depth]; omega, ?_⟩
  simp only [PyData.shown]
  rw [Nat.mul_add]
  omega
theorem sh_lst {n k : Nat} {ds : List PyData} (h : ∀ d ∈ ds, Sh n k d) : Sh (ds.length * (n + 2) + 3) (k + 1) (.list ds) := by
  obtain ⟨a, b, c, e⟩ := sh_all h
  have t := listText_len_le (PyData.shownAll ds)
  rw [shownAll_len] at t
  refine ⟨by simpa only [PyData.showable] using a, by simpa only [PyData.hasDict] using b, by simp only [PyData.depth]; omega, ?_⟩
  simp only [PyData.shown]
  rw [Nat.mul_add]
  omega
theorem sh_num {q : Int × Int} (h1 : q.1.natAbs < 2 ^ 1920) (h2 : q.2.natAbs < 2 ^ 1920) : Sh 3849 1 (nD q) := by
  have := sh_tup (n := 1921) (k := 0) (ds := [.int q.1, .int q.2]) (fun d hd => by
    rcases List.mem_cons.mp hd with z | z
    · rw [z]; exact sh_int h1
    · rw [List.mem_singleton] at z
      rw [z]; exact sh_int h2)
  exact this
theorem sh_step {s : List (Int × Int)} {m : Nat} (h : ∀ q ∈ s, q.1.natAbs < 2 ^ 1920 ∧ q.2.natAbs < 2 ^ 1920) (hl : s.length ≤ m) : Sh (m * 3851 + 3) 2 (sD s) := by
  have := sh_tup (n := 3849) (k := 1) (ds := s.map nD) (fun d hd => by
    obtain ⟨q, hq, rfl⟩ := List.mem_map.mp hd
    exact sh_num (h q hq).1 (h q hq).2)
  refine this.mono ?_ (Nat.le_refl _)
  rw [List.length_map]
  have : s.length * 3851 ≤ m * 3851 := Nat.mul_le_mul_right _ hl
  omega
section
variable {P : Program} {w : World} {K : PySem.W.Frag} {mg : Str → Option Value} {base : Heap} {t1 t2 t3 : Tok} {f : Addr} {fd : FuncData} {ad : Ads}
/-! ### the law's comparing -/
def sp_law_like (K : PySem.W.Frag) : Sp := fun vs H Q _ => ∃ (v u : V) (d : PyData), vs = [v, u] ∧ Dp K H v d ∧ Dp K H u d ∧ Sh 1000000 60 d ∧ isDisplay d = true ∧ Q (.bl true) H
theorem ok__law_like (F : Fun K "_law_like" "_law_like" s__law_like f fd) (T : Txt K mg t1 t2 t3) : FnG P w K mg base CX0 1 f fd ["got", "due"] (sp_law_like K) := by
  refine fun_g F sc__law_like (fun vs H Q E h => ?_) (fun cdv A outer s H vs Q E hcdv hgd hr h => ?_)
  · obtain ⟨v, u, d, rfl, _⟩ := h
    rfl
  · obtain ⟨v, u, d, rfl, h1, h2, S, hD, k⟩ := h
    have hgd : (A.deeper (envOfC "_law_like" (defScope s__law_like) s.heap.objs.size f cdv)).guards = some [] := hgd
    refine ⟨_, (pss_one (ps_ret (pe_cmpR op_eq (pe_callB (cr_repr hgd (un64 hr)) (by rfl) T.f_repr (by decide +kernel) (pa_cons (pv 0) pa_nil)) (pe_callB (cr_repr hgd (un64 hr)) (by rfl) T.f_repr (by decide +kernel) (pa_cons (pv 1) pa_nil)) (nomark _)))), ?_⟩
    have hz : d.shown.length ≤ sizeLine := Nat.le_trans S.len (by rw [sizeLine_eq]; decide)
    refine ⟨_, rfl, v, d, rfl, h1, S.ok, S.nod, S.deep, hz, hD, _, rfl, u, d, rfl, h2, S.ok, S.nod, S.deep, hz, hD, ?_⟩
    refine ⟨rfl, ?_⟩
    rw [decide_eq_true rfl]
    exact k
/-! ### the state's beginning -/
def sp_law_begin (K : PySem.W.Frag) : Sp := fun vs H Q _ => ∃ (N : List Addr) (a : Addr) (ns : List Int), vs = [.ref a] ∧ Live N H ∧ SqL K H a (ns.map V.int) ∧ ns.length ≤ 63 ∧
  ∀ (pd pl : Addr) (H' : Hp), Same H H' → pd ∉ N → pl ∉ N → Live (pd :: pl :: N) H' → St K (pd :: pl :: N) H' pd pl 0 → Q (.ref pd) H'
theorem shaped_ints (ns : List Int) : SeqAt.shaped (.list (ns.map PyData.int)) = true := by
  have h1 : ∀ l : List Int, PyData.canLayAll0 (l.map PyData.int) = true := fun l => by
    induction l with
    | nil => rfl
    | cons a l ih => rw [List.map_cons]; simp only [PyData.canLayAll0, PyData.canLay0, Bool.true_and]; exact ih
  have h2 : ∀ l : List Int, PyData.depthAll (l.map PyData.int) = 0 := fun l => by
    induction l with
    | nil => rfl
    | cons a l ih => rw [List.map_cons]; simp only [PyData.depthAll, PyData.depth, ih]; rfl
  unfold SeqAt.shaped
  simp only [PyData.canLay0, PyData.depth, h1, h2]
  rfl
theorem eqv_nil {ns : List Int} : PyData.eqv (.list (ns.map PyData.int)) (.list []) = decide (ns = []) := by
  cases ns with
  | nil => rfl
  | cons a l => rfl
theorem ok__law_begin (F : Fun K "_law_begin" "_law_begin" s__law_begin f fd) (T : Txt K mg t1 t2 t3) : FnOk P w K mg base CX0 1 f fd ["script"] (sp_law_begin K) := by
  refine F.ok sc__law_begin (fun vs H Q E h => ?_) (fun cdv A outer s H vs Q E hr h => ?_)
  · obtain ⟨N, a, ns, rfl, _⟩ := h
    rfl
  · obtain ⟨N, a, ns, rfl, l, hS, hl, k⟩ := h
    refine ⟨_, (pss_cons (ps_set (i := 1) sc__law_begin.nd rfl (Or.inl rfl) (pe_ifExp (pt_cmpR (op_neD (un64 hr)) (pv 0) (pe_lst pa_nil) (nomark _)) (pe_callTy call_list_of (by rfl) T.f_list (by decide +kernel) (pa_cons (pv 0) pa_nil)) (pe_lst (pa_cons pe_int pa_nil))))
      (pss_one (ps_ret (pe_disp (pps_cons pe_str (pv 1) (pps_cons pe_str (pe_lc (own := [("cell", 2)]) (g := gName 2) rfl sc__law_begin.nd (pi_list (pv 1)) (blkOk_by (N := ["script", "cells_so", "cell"]) (sc := defScope s__law_begin) (by decide +kernel)) (fun _ _ _ _ _ => by exact (pg_name (i := 2) sc__law_begin.nd rfl (Or.inl rfl))) (fun _ _ _ _ _ => by exact pts_nil) (fun _ _ _ _ _ => by exact (pe_ifExp (pt_cmpR op_ge (pv 2) (pe_op op_pow pe_int pe_int) (nomark _)) (pv 2) pe_int))) (pps_cons pe_str pe_int pps_nil))) (by rfl) (by rfl) (fun z => by cases z) (by decide))))), ?_⟩
    refine ⟨_, rfl, (by show 0 ≤ sizeLine; exact Nat.zero_le _), fun p0 n0 => ⟨.list (ns.map PyData.int), .list [], ?_, ?_, shaped_ints ns, by decide, ?_⟩⟩
    · exact .lst (lst_same (same_new n0) hS) (DpAll.ints ns)
    · exact .lst (.inl (.inl upd_same)) .nil
    · rw [eqv_nil]
      have S0 := same_new (o := .lst []) n0
      refine ⟨_, rfl, ?_⟩
      by_cases e : ns = []
      case' pos =>
        rw [decide_eq_true e]
        refine iteF ⟨(by show 1 ≤ sizeLine; decide), fun pc nc => ?_⟩
        have hpc : (upd (upd H p0 (.lst [])) pc (.lst [V.int 0])) pc = some (.lst ([0].map V.int)) := upd_same
        have S1 := S0.trans (same_new (o := .lst [V.int 0]) nc)
        have h1 : 1 ≤ [(0 : Int)].length := by decide
        have h2 : [(0 : Int)].length ≤ 63 := by decide
        generalize (upd (upd H p0 (.lst [])) pc (.lst [V.int 0])) = H1 at hpc S1 ⊢
        generalize [(0 : Int)] = cells at hpc h1 h2
      case' neg =>
        rw [decide_eq_false e]
        refine iteT ⟨_, rfl, a, _, rfl, .inl (lst_same S0 hS), fun pc nc => ?_⟩
        have hpc : (upd (upd H p0 (.lst [])) pc (.lst (ns.map V.int))) pc = some (.lst (ns.map V.int)) := upd_same
        have S1 := S0.trans (same_new (o := .lst (ns.map V.int)) nc)
        have h1 : 1 ≤ ns.length := by
          cases ns with
          | nil => exact absurd rfl e
          | cons a l => simp
        have h2 := hl
        generalize (upd (upd H p0 (.lst [])) pc (.lst (ns.map V.int))) = H1 at hpc S1 ⊢
        generalize ns = cells at hpc h1 h2
      all_goals
        have npc : pc ∉ N := (l.same S0).new nc
        refine fun pd nd => ⟨_, rfl, _, rfl, _, rfl, ?_⟩
        have l1 := l.same S1
        have npd : pd ∉ N := l1.new nd
        have d1 : pd ≠ pc := Ne.symm (ne_of_none hpc nd)
        have hpc2 : (upd H1 pd (.dK [])) pc = some (.lst (cells.map V.int)) := by rw [upd_ne (Ne.symm d1)]; exact hpc
        refine ⟨⟨_, .inl (.inl hpc2)⟩, fun D nD => ?_⟩
        have d2 : D ≠ pd := Ne.symm (ne_of_none upd_same nD)
        have d3 : D ≠ pc := Ne.symm (ne_of_none hpc2 nD)
        have npl : D ∉ N := (l1.same (same_new nd)).new nD
        refine lc_list (K := K) (a := pc) (xs := cells.map V.int) (fun i H' => ∃ lefts : List Int, H' = upd (upd H1 pd (.dK [])) D (.lst (lefts.map V.int)) ∧ lefts.length = i)
          ⟨[], rfl, rfl⟩ ?_ ?_ ?_
        · rintro i H' _ ⟨lefts, rfl, _⟩
          exact .inl (.inl (by rw [upd_ne (Ne.symm d3)]; exact hpc2))
        · rintro i x H' hx ⟨lefts, rfl, hi⟩
          obtain ⟨c, hc, rfl⟩ := map_get hx
          have hi2 := (List.getElem?_eq_some_iff.mp hc).1
          refine ⟨rfl, ?_⟩
          have fin : ∀ y : Int, ∃ acc, (upd (upd H1 pd (.dK [])) D (.lst (lefts.map V.int))) D = some (.lst acc) ∧ acc.length < sizeLine ∧ ∃ lefts' : List Int, upd (upd (upd H1 pd (.dK [])) D (.lst (lefts.map V.int))) D (.lst (acc ++ [V.int y])) = upd (upd H1 pd (.dK [])) D (.lst (lefts'.map V.int)) ∧ lefts'.length = i + 1 := fun y =>
            ⟨_, upd_same, by rw [List.length_map, sizeLine_eq]; omega, lefts ++ [y], by rw [upd_upd, List.map_append]; rfl, by rw [List.length_append, hi]; rfl⟩
          dsimp only [tYes]
          rw [if_pos rfl]
          refine ⟨_, rfl, _, _, rfl, rfl, (by show CPow 10 18; exact ⟨by decide, by decide, by decide⟩), _, _, rfl, rfl, _, rfl, ?_⟩
          by_cases hc9 : (10 : Int) ^ (18 : Int).toNat ≤ c
          · rw [decide_eq_true hc9]
            exact iteT ⟨_, rfl, fin _⟩
          · rw [decide_eq_false hc9]
            exact iteF (fin 0)
        · rintro H' ⟨lefts, rfl, hi⟩
          rw [List.length_map] at hi
          refine ⟨by rw [upd_ne (Ne.symm d2)]; exact upd_same, [(.inr "cells", .ref pc), (.inr "lefts", .ref D), (.inr "at", .int 0)], rfl, (by show 3 ≤ 15; decide), ?_⟩
          have e1 : upd (upd (upd H1 pd (.dK [])) D (.lst (lefts.map V.int))) pd (.dK (mergeK [] [(.inr "cells", .ref pc), (.inr "lefts", .ref D), (.inr "at", .int 0)])) = upd (upd (upd H1 pd (.dK [])) D (.lst (lefts.map V.int))) pd (.dK (stK pc D 0)) := rfl
          rw [e1]
          have q1 : (upd (upd (upd H1 pd (.dK [])) D (.lst (lefts.map V.int))) pd (.dK (stK pc D 0))) pd = some (.dK (stK pc D 0)) := upd_same
          have q2 : (upd (upd (upd H1 pd (.dK [])) D (.lst (lefts.map V.int))) pd (.dK (stK pc D 0))) D = some (.lst (lefts.map V.int)) := by rw [upd_ne d2]; exact upd_same
          have q3 : (upd (upd (upd H1 pd (.dK [])) D (.lst (lefts.map V.int))) pd (.dK (stK pc D 0))) pc = some (.lst (cells.map V.int)) := by rw [upd_ne (Ne.symm d1), upd_ne (Ne.symm d3)]; exact hpc2
          have q4 : Same H1 (upd (upd (upd H1 pd (.dK [])) D (.lst (lefts.map V.int))) pd (.dK (stK pc D 0))) := fun b o e => by
            have x1 : b ≠ pd := ne_of_none e nd
            have x2 : b ≠ D := ne_of_none (by rw [upd_ne x1]; exact e) nD
            rw [upd_ne x1, upd_ne x2, upd_ne x1]
            exact e
          generalize upd (upd (upd H1 pd (.dK [])) D (.lst (lefts.map V.int))) pd (.dK (stK pc D 0)) = H9 at q1 q2 q3 q4 ⊢
          refine k pd D H9 (S1.trans q4) npd npl (fun b hb => ?_) ⟨List.mem_cons_self, List.mem_cons_of_mem _ List.mem_cons_self, pc, cells, lefts, 0, q1, q2, .inl (.inl (cut_at ?_ q3)), hi.symm, h1, by omega, Nat.le_refl _⟩
          · rcases List.mem_cons.mp hb with z | hb
            · rw [z, q1]; simp
            · rcases List.mem_cons.mp hb with z | hb
              · rw [z, q2]; simp
              · exact l1.same q4 b hb
          · intro hb
            rcases List.mem_cons.mp hb with z | hb
            · exact d1 z.symm
            · rcases List.mem_cons.mp hb with z | hb
              · exact d3 z.symm
              · exact npc hb
end
end My

set_option Elab.async false
set_option linter.all false
set_option maxRecDepth 100000
set_option maxHeartbeats 4000000
set_option exponentiation.threshold 20000
namespace My
open PySem PySem.Spec PyProof.Rows L2 LamX
/-! ### what the law tells of a refusal -/
structure Exq (K : PySem.W.Frag) (mg : Str → Option Value) (ad : Ads) : Prop where
  nn : PySem.W.exmOne K (.ref ad.n) (.ref ad.n) = some true
  sn : PySem.W.exmOne K (.ref ad.s) (.ref ad.n) = some false
  ss : PySem.W.exmOne K (.ref ad.s) (.ref ad.s) = some true
  rn : PySem.W.exmOne K (.ref ad.r) (.ref ad.n) = some false
  rs : PySem.W.exmOne K (.ref ad.r) (.ref ad.s) = some false
  rr : PySem.W.exmOne K (.ref ad.r) (.ref ad.r) = some true
  mp : ∃ c, mg "BadParameter" = some (.ref c) ∧ XfC K c ∧ PySem.W.findIn K (.ref c) "value" = some none
  mt : ∃ c, mg "TooGreat" = some (.ref c) ∧ XfC K c ∧ PySem.W.findIn K (.ref c) "most" = some none
  mo : ∃ c, mg "NoRow" = some (.ref c)
  me : ∃ c, mg "StepError" = some (.ref c)
def Er.tag : Er → Str
  | .num => "number" | .stp => "step" | .row => "row"
def refD : Out → PyData
  | .ok d => .tuple [.str "told", d]
  | .er e d => .tuple [.str e.tag, d]
def TTref (K : PySem.W.Frag) (ad : Ads) : (XK → Hp → VK → Prop) → Hp → VK → Prop := fun tl H Q => ∃ (N : List Addr) (o : Out), Live N H ∧
  (∀ (E : XK) (R : VK) (H1 : Hp), Same H H1 → ToldX K ad N H1 o R E → tl E H1 R) ∧ Told K N H (refD o) Q
theorem gives_refusal {X : Cx} {ad : Ads} (XS : Exs X.prog X.w X.K X.mg X.base ad) (XQ : Exq X.K X.mg ad) (g : Addr) (cdg : Value) (q : Str) :
    GivesS X ["tell", "e", "found", "answer"] "_law_refusal" (defScope s__law_refusal) g cdg (defBody s__law_refusal) "tell" q (TTref X.K ad) := by
  intro f c' s H Q tl act hco h
  obtain ⟨N, o, l, htl, k⟩ := h
  obtain ⟨cp, m1, x1, y1⟩ := XQ.mp
  obtain ⟨ct, m2, x2, y2⟩ := XQ.mt
  obtain ⟨co, m3⟩ := XQ.mo
  obtain ⟨ce, m4⟩ := XQ.me
  refine ⟨_, pss_cons (ps_asg (pe_tup (pa_cons pe_non (pa_cons pe_non pa_nil))) (pg_tup rfl (pgs_cons (pg_name (i := 2) sc__law_refusal.nd rfl (Or.inl rfl)) (pgs_cons (pg_name (i := 3) sc__law_refusal.nd rfl (Or.inl rfl)) pgs_nil))))
    (pss_cons (ps_try7 rfl rfl sc__law_refusal.nd L2.takes0 (fun W pn xe tk _ => pss_one (ps_set (i := 3) sc__law_refusal.nd rfl (Or.inl rfl) (act W pn xe _ _ tk)))
      (.cons (o := some 1) ⟨rfl, rfl, .inl XS.x_BadNumber.g⟩ ⟨rfl, rfl⟩ (fun a oe cls d pn hz hf => pss_one (ps_set (i := 2) sc__law_refusal.nd rfl (Or.inl rfl) (pe_tup (pa_cons pe_str (pa_cons (pe_xf XS.x_BadNumber.xf XS.x_BadNumber.no hz hf (pv 1)) pa_nil)))))
      (.cons (o := some 1) ⟨rfl, rfl, .inl XS.x_BadStep.g⟩ ⟨rfl, rfl⟩ (fun a oe cls d pn hz hf => pss_one (ps_set (i := 2) sc__law_refusal.nd rfl (Or.inl rfl) (pe_tup (pa_cons pe_str (pa_cons (pe_xf XS.x_BadStep.xf XS.x_BadStep.no hz hf (pv 1)) pa_nil)))))
      (.cons (o := some 1) ⟨rfl, rfl, .inl XS.x_BadRow.g⟩ ⟨rfl, rfl⟩ (fun a oe cls d pn hz hf => pss_one (ps_set (i := 2) sc__law_refusal.nd rfl (Or.inl rfl) (pe_tup (pa_cons pe_str (pa_cons (pe_xf XS.x_BadRow.xf XS.x_BadRow.no hz hf (pv 1)) pa_nil)))))
      (.cons (o := some 1) ⟨rfl, rfl, .inl m1⟩ ⟨rfl, rfl⟩ (fun a oe cls d pn hz hf => pss_one (ps_set (i := 2) sc__law_refusal.nd rfl (Or.inl rfl) (pe_tup (pa_cons pe_str (pa_cons (pe_xf x1 y1 hz hf (pv 1)) pa_nil)))))
      (.cons (o := some 1) ⟨rfl, rfl, .inl m2⟩ ⟨rfl, rfl⟩ (fun a oe cls d pn hz hf => pss_one (ps_set (i := 2) sc__law_refusal.nd rfl (Or.inl rfl) (pe_tup (pa_cons pe_str (pa_cons (pe_xf x2 y2 hz hf (pv 1)) pa_nil)))))
      (.cons (o := none) ⟨rfl, rfl, .inl m3⟩ trivial (fun a oe cls d pn hz hf => pss_one (ps_set (i := 2) sc__law_refusal.nd rfl (Or.inl rfl) (pe_tup (pa_cons pe_str pa_nil))))
      (.cons (o := none) ⟨rfl, rfl, .inl m4⟩ trivial (fun a oe cls d pn hz hf => pss_one (ps_set (i := 2) sc__law_refusal.nd rfl (Or.inl rfl) (pe_tup (pa_cons pe_str pa_nil))))
      .nil))))))))
    (pss_one (ps_ret (pe_ifExp (pt_cmpR op_isN (pv 2) pe_non (nomark _)) (pe_tup (pa_cons pe_str (pa_cons (pv 3) pa_nil))) (pv 2))))), ?_⟩
  refine ⟨(by show 2 ≤ sizeLine; decide), fun p0 n0 => ?_⟩
  have S0 := same_new (o := .tup [.non, .non]) n0
  refine ⟨p0, _, rfl, .inl (.inl upd_same), rfl, _, _, rfl, _, _, rfl, rfl, ?_⟩
  refine ⟨rfl, S0 _ _ hco, htl _ _ _ S0 ?_⟩
  have fin : ∀ (t : Str) (u : V) (H2 : Hp) (d : PyData), Same (upd H p0 (.tup [.non, .non])) H2 → Dp X.K (cut N H2) u d → Told X.K N H (.tuple [.str t, d]) Q → ∀ p2, H2 p2 = none → Q (.ref p2) (upd H2 p2 (.tup [.str t, u])) := by
    intro t u H2 d s2 hu k p2 n2
    exact told_tup k l (S0.trans s2) n2 (.cons (.str _) (.cons hu .nil))
  cases o with
  | ok d =>
    intro v H2 s2 hd
    refine ⟨_, rfl, rfl, _, rfl, ?_⟩
    exact iteT ⟨_, rfl, (by show 2 ≤ sizeLine; decide), fun p2 n2 => fin _ v H2 d s2 hd k p2 n2⟩
  | er e d =>
    intro p u H2 s2 hp np hu
    cases e with
    | num =>
      refine ⟨true, XQ.nn, fun _ a na => ?_, fun z => (by cases z)⟩
      refine ⟨_, rfl, rfl, rfl, p, _, u, rfl, hp, rfl, (by show 2 ≤ sizeLine; decide), fun p2 n2 => ?_⟩
      refine ⟨_, rfl, rfl, _, rfl, ?_⟩
      exact iteF ⟨_, rfl, fin _ u H2 d s2 hu k p2 n2⟩
    | stp =>
      refine ⟨false, XQ.sn, fun z => (by cases z), fun _ => ⟨true, XQ.ss, fun _ a na => ?_, fun z => (by cases z)⟩⟩
      refine ⟨_, rfl, rfl, rfl, p, _, u, rfl, hp, rfl, (by show 2 ≤ sizeLine; decide), fun p2 n2 => ?_⟩
      refine ⟨_, rfl, rfl, _, rfl, ?_⟩
      exact iteF ⟨_, rfl, fin _ u H2 d s2 hu k p2 n2⟩
    | row =>
      refine ⟨false, XQ.rn, fun z => (by cases z), fun _ => ⟨false, XQ.rs, fun z => (by cases z), fun _ => ⟨true, XQ.rr, fun _ a na => ?_, fun z => (by cases z)⟩⟩⟩
      refine ⟨_, rfl, rfl, rfl, p, _, u, rfl, hp, rfl, (by show 2 ≤ sizeLine; decide), fun p2 n2 => ?_⟩
      refine ⟨_, rfl, rfl, _, rfl, ?_⟩
      exact iteF ⟨_, rfl, fin _ u H2 d s2 hu k p2 n2⟩
end My

set_option Elab.async false
set_option linter.all false
set_option maxRecDepth 100000
set_option maxHeartbeats 4000000
set_option exponentiation.threshold 20000
namespace My
open PySem PySem.Spec PyProof.Rows L2
section
variable {P : Program} {w : World} {K : PySem.W.Frag} {mg : Str → Option Value} {base : Heap} {t1 t2 t3 : Tok} {f : Addr} {fd : FuncData} {ad : Ads}
/-! ### drawn numbers are numbers, drawn steps steps -/
theorem eqv_num (p q : Int × Int) : PyData.eqv (nD p) (nD q) = (p.1 == q.1 && p.2 == q.2) := by
  simp [nD, PyData.eqv, PyData.eqvAll]
theorem isNum_of {wd bl : Int} {q : Int × Int} (h : NumR wd bl q) (h1 : wd ≤ 10 ^ 60) (h2 : bl ≤ 10 ^ 60) : isNum (nD q) = true := by
  obtain ⟨⟨l1, l2⟩, a, b, c⟩ := h
  show okNum q.1 q.2 = true
  unfold okNum
  simp only [Bool.and_eq_true, decide_eq_true_eq]
  exact ⟨by omega, by omega, by omega, by omega, l2⟩
theorem last_map {s : List (Int × Int)} {q : Int × Int} (h : s.getLast? = some q) : (s.map nD).getLast?.getD .none = nD q := by
  rw [List.getLast?_map, h]; rfl
theorem some_last {s : List (Int × Int)} (h : 1 ≤ s.length) : ∃ q, s.getLast? = some q := by
  cases e : s.getLast? with
  | none =>
    rw [List.getLast?_eq_none_iff] at e
    rw [e] at h
    simp at h
  | some q => exact ⟨q, rfl⟩
theorem isStep_of {wd bl : Int} {n : Nat} {s : List (Int × Int)} (h : StepR wd bl n s) (h1 : wd ≤ 10 ^ 60) (h2 : bl ≤ 10 ^ 60) (h3 : 2 ≤ n) (h4 : n ≤ 65) : isStep (sD s) = true := by
  have el := h.len
  obtain ⟨q, hq⟩ := some_last (s := s) (by omega)
  unfold sD
  rw [isStep_tup, List.length_map, last_map hq]
  have e1 : (s.map nD).all isNum = true := by
    rw [List.all_map, List.all_eq_true]
    exact fun r hr => isNum_of (h.num r hr) h1 h2
  have e2 : PyData.eqv (nD q) (.tuple [.int 0, .int 1]) = false := by
    show PyData.eqv (nD q) (nD (0, 1)) = false
    rw [eqv_num]
    have := h.head q hq
    simp [this]
  rw [e1, e2]
  simp
  omega
theorem small_num {wd bl : Int} {n : Nat} {q : Int × Int} (h : NumR wd bl q) (h1 : wd.natAbs < 2 ^ n) (h2 : bl.natAbs < 2 ^ n) : Bd n q := by
  obtain ⟨⟨l1, l2⟩, a, b, c⟩ := h
  exact ⟨l1, by omega, by omega⟩
theorem plain_is {wd bl : Int} {n : Nat} {s : List (Int × Int)} (h : StepR wd bl n s) (h3 : 2 ≤ n) : ∃ q0 q1, s[0]? = some q0 ∧ s.getLast? = some q1 := by
  have el := h.len
  obtain ⟨q, hq⟩ := some_last (s := s) (by omega)
  exact ⟨_, q, List.getElem?_eq_getElem (by omega), hq⟩
theorem degOut_ok {s : List (Int × Int)} (h : isStep (sD s) = true) : degOut (sD s) = .ok (.int ((s.length : Int) - 1)) := by
  unfold degOut
  rw [needOut_ok h]
  show Out.ok (.int (((s.map nD).length : Int) - 1)) = _
  rw [List.length_map]
theorem headOut_ok {s : List (Int × Int)} {q : Int × Int} (h : isStep (sD s) = true) (hq : s.getLast? = some q) : headOut (sD s) = .ok (nD q) := by
  unfold headOut
  rw [needOut_ok h]
  show Out.ok ((s.map nD).getLast?.getD .none) = _
  rw [last_map hq]
theorem plainOut_ok {s : List (Int × Int)} {p q : Int × Int} (h : isStep (sD s) = true) (hp : s[0]? = some p) (hq : s.getLast? = some q) : plainOut (sD s) = .ok (.bool (PyData.eqv (nD p) (nD (0, 1)) && PyData.eqv (nD q) (nD (1, 1)))) := by
  unfold plainOut
  rw [needOut_ok h]
  show Out.ok (.bool (PyData.eqv ((s.map nD).head?.getD .none) _ && PyData.eqv ((s.map nD).getLast?.getD .none) _)) = _
  rw [last_map hq]
  cases s with
  | nil => cases hp
  | cons a l =>
    obtain rfl : a = p := by simpa using hp
    rfl
theorem atI_last' {xs : List V} {y : V} {n : Nat} (h : xs.length = n + 1) (hy : xs[n]? = some y) : atI xs (-1) = some y := by
  have hne : xs ≠ [] := by intro q; rw [q] at h; simp at h
  have e : xs.getLast hne = y := by
    rw [List.getLast_eq_getElem]
    obtain ⟨h4, h5⟩ := List.getElem?_eq_some_iff.mp hy
    rw [← h5]
    congr 1
    omega
  rw [← List.dropLast_concat_getLast hne, e]
  exact atI_last _ _
theorem valOf_bd {tb pb n : Nat} {s : List (Int × Int)} {x : Int × Int} (fit : Fit tb pb s) (hs : s ≠ []) (hx : Bd n x) : Bd (tb + (pb * s.length + 1) + (n + 1) * s.length + 1) (valOf s x) := by
  have tl : (tops s).length = s.length := by unfold tops; rw [List.length_map]
  have tne : tops s ≠ [] := by
    intro z
    rw [z] at tl
    exact hs (List.eq_nil_of_length_eq_zero tl.symm)
  have hT := tops_lt fit.top fit.bot
  have hhead : (tops s).getLast?.getD 0 ∈ tops s := by
    rw [List.getLast?_eq_some_getLast tne]
    exact List.getLast_mem tne
  have hb := horn_lt hx.top hx.bot (hT _ hhead) (tops s).dropLast.reverse (fun z hz => hT z ((List.dropLast_sublist _).subset (List.mem_reverse.mp hz)))
  have hl : (tops s).dropLast.reverse.length = s.length - 1 := by rw [List.length_reverse, List.length_dropLast, tl]
  rw [hl] at hb
  have e1 : (n + 1) * (s.length - 1) ≤ (n + 1) * s.length := Nat.mul_le_mul_left _ (by omega)
  have e2 : n * (s.length - 1) ≤ (n + 1) * s.length := Nat.le_trans (Nat.mul_le_mul_right _ (Nat.le_succ n)) e1
  have hlp := lcmL_pos s fit.pos
  have hll := lcmL_lt s fit.bot
  unfold valOf
  refine fr_bd (Int.mul_pos (by omega) (horn_pos hx.pos _)) (Nat.lt_of_lt_of_le hb.1 (Nat.pow_le_pow_right (by decide) (by omega))) ?_
  refine Nat.lt_of_lt_of_le (wide_lt (a := pb * s.length + 1) (by rw [Int.natAbs_natCast]; exact hll) hb.2) (Nat.pow_le_pow_right (by decide) (by omega))
theorem stepR_fit {wd bl : Int} {n k : Nat} {s : List (Int × Int)} (h : StepR wd bl n s) (h1 : wd.natAbs < 2 ^ k) (h2 : bl.natAbs < 2 ^ k) : Fit k k s :=
  ⟨fun q hq => (small_num (h.num q hq) h1 h2).pos, fun q hq => (small_num (h.num q hq) h1 h2).top, fun q hq => (small_num (h.num q hq) h1 h2).bot⟩
/-- n drawn things in a list -/
theorem draws_gen {N : List Addr} {H : Hp} {pd pl D : Addr} {m n q : Nat} {EE : PyData → Prop} {g : TG} {te : TE} {vs : List Nat} {σ : L2.St} {Qd : Hp → Prop} (l : Live N H) (S : St K N H pd pl m) (hD : H D = none) (hn : n ≤ 1000)
    (hte : ∀ i H1 Q1, i < n → Live (D :: N) H1 → St K (D :: N) H1 pd pl (m + q * i) → (∀ (v : V) (d : PyData) (H' : Hp), Chg pd pl H1 H' → St K (D :: N) H' pd pl (m + q * i + q) → Dp K (cut (D :: N) H') v d → EE d → Q1 v H') →
      g (.int (0 + (i : Int))) (wipe σ vs) H1 fun σ2 H2 => wipe σ2 vs = wipe σ vs ∧ te σ2 H2 Q1)
    (hd : ∀ (xs : List V) (qs : List PyData) (H' : Hp), (∀ b o, b ≠ pd → b ≠ pl → H b = some o → H' b = some o) → Live N H' → St K N H' pd pl (m + q * n) → H' D = some (.lst xs) → DpAll K (cut N H') xs qs → qs.length = n → (∀ d ∈ qs, EE d) → Qd H') :
    ∃ W : Nat → Nat → Hp → Prop, (∃ m, W 0 m (upd H D (.lst []))) ∧ ∀ i m H, W i m H →
      ((Itr 0 n).stop i H ∧ Qd H) ∨ ((Itr 0 n).go i H ∧ ∃ Nx : Hp → Prop, (∀ H', Nx H' → ∃ m', m' < m ∧ W (i + 1) m' H') ∧ ∀ x H', (Itr 0 n).yld i H x H' → g x (wipe σ vs) H' fun σ2 H2 => wipe σ2 vs = wipe σ vs ∧ tYes σ2 H2 fun b H3 =>
        if b = true then te σ2 H3 fun y H4 => ∃ acc, H4 D = some (.lst acc) ∧ acc.length < sizeLine ∧ Nx (upd H4 D (.lst (acc ++ [y]))) else Nx H3) := by
  have nd1 : D ≠ pd := by
    obtain ⟨pc, cells, lefts, n, e1, _⟩ := S.ex
    exact Ne.symm (ne_of_none e1 hD)
  have nd2 : D ≠ pl := by
    obtain ⟨pc, cells, lefts, n, e1, e2, _⟩ := S.ex
    exact Ne.symm (ne_of_none e2 hD)
  refine lc_range (lo := 0) (n := n) (fun i H1 => (∀ b o, b ≠ pd → b ≠ pl → H b = some o → H1 b = some o) ∧ Live (D :: N) H1 ∧ St K (D :: N) H1 pd pl (m + q * i) ∧ ∃ (xs : List V) (qs : List PyData), H1 D = some (.lst xs) ∧ DpAll K (cut (D :: N) H1) xs qs ∧ qs.length = i ∧ ∀ d ∈ qs, EE d)
    ⟨fun b o _ _ e => same_new hD b o e, l.push hD _, S.push hD _, [], [], upd_same, .nil, rfl, fun _ h => (by cases h)⟩ ?_ ?_
  · rintro i H1 hi ⟨c, l1, S1, xs, qs, e1, e2, e3, e4⟩
    have key := hte i H1 (fun y H4 => ∃ acc, H4 D = some (.lst acc) ∧ acc.length < sizeLine ∧
      ((∀ b o, b ≠ pd → b ≠ pl → H b = some o → (upd H4 D (.lst (acc ++ [y]))) b = some o) ∧ Live (D :: N) (upd H4 D (.lst (acc ++ [y]))) ∧ St K (D :: N) (upd H4 D (.lst (acc ++ [y]))) pd pl (m + q * (i + 1)) ∧ ∃ (xs : List V) (qs : List PyData), (upd H4 D (.lst (acc ++ [y]))) D = some (.lst xs) ∧ DpAll K (cut (D :: N) (upd H4 D (.lst (acc ++ [y])))) xs qs ∧ qs.length = i + 1 ∧ ∀ d ∈ qs, EE d)) hi l1 S1 (fun v d H' c2 S2 hv hq => by
        have el : xs.length = qs.length := e2.length
        refine ⟨xs, c2 D _ nd1 nd2 e1, small1000 (by omega), fun b o h1 h2 e => ?_, (S2.live c2 l1).setD _, (S2.setD nd1 nd2 _).more (by rw [Nat.mul_add, Nat.mul_one]; omega), xs ++ [v], qs ++ [d], upd_same, ?_, by rw [List.length_append, e3]; rfl, fun r hr => ?_⟩
        · rw [upd_ne (ne_of_none e hD)]
          exact c2 b o h1 h2 (c b o h1 h2 e)
        · rw [cut_upd List.mem_cons_self]
          exact DpAll.append (e2.ext (c2.cut S1.md S1.ml)) (.cons hv .nil)
        · rcases List.mem_append.mp hr with z | z
          · exact e4 r z
          · rw [List.mem_singleton.mp z]; exact hq)
    exact key
  · rintro H1 ⟨c, l1, S1, xs, qs, e1, e2, e3, e4⟩
    exact hd xs qs H1 c (fun a ha => l1 a (List.mem_cons_of_mem _ ha)) (S1.pop S.md S.ml) e1 (e2.ext (cut_sub D)) e3 e4
theorem row_ok {ds : List PyData} (h1 : 1 ≤ ds.length) (h8 : ds.length ≤ 8) (h : ∀ d ∈ ds, isStep d = true) : rowOut (.tuple ds) = .ok (.tuple ds) := by
  have e : ds.findIdx? (fun e => !isStep e) = none := by
    rw [List.findIdx?_eq_none_iff]
    intro d hd
    rw [h d hd]
    rfl
  show (if 1 ≤ ds.length ∧ ds.length ≤ 8 then (match ds.findIdx? fun e => !isStep e with | none => Out.ok (.tuple ds) | some i => .er .row (.tuple [.int (i : Nat)])) else .er .row (.tuple [])) = _
  rw [if_pos ⟨h1, h8⟩, e]
/-! ### _law_right -/
def sp_law_right (K : PySem.W.Frag) : Sp := fun vs H Q _ => ∃ (N : List Addr) (pd pl : Addr) (m : Nat), vs = [.ref pd] ∧ Live N H ∧ St K N H pd pl m ∧ m ≤ 500000 ∧
  ∀ (H' : Hp), Chg pd pl H H' → St K N H' pd pl (m + 200) → Q (.bl true) H'
theorem ok__law_right (F : Fun K "_law_right" "_law_right" s__law_right f fd) (T : Txt K mg t1 t2 t3) (C__law_draw : Ce P w K mg base CX0 2 "_law_draw" ["state", "limit"] (sp_law_draw K))
    (C__law_number : Ce P w K mg base CX0 3 "_law_number" ["state", "widest", "below"] (sp_law_number K)) (C__law_step : Ce P w K mg base CX0 4 "_law_step" ["state", "size", "widest", "below"] (sp_law_step K))
    (C__law_plain : Ce P w K mg base CX0 4 "_law_plain" ["state", "size", "widest", "below"] (sp_law_plain K)) (C__law_sum_of_powers : Ce P w K mg base CX0 4 "_law_sum_of_powers" ["told", "worth"] (sp_law_sum_of_powers K))
    (C_need_number : Ce P w K mg base (L2.CX P w) 4 "need_number" ["value"] (sp_need isNum .num ad K)) (C_need_step : Ce P w K mg base (L2.CX P w) 4 "need_step" ["value"] (sp_need isStep .stp ad K))
    (C_degree_of : Ce P w K mg base (L2.CX P w) 5 "degree_of" ["step"] (sp_out1 degOut ad K)) (C_head_of : Ce P w K mg base (L2.CX P w) 5 "head_of" ["step"] (sp_out1 headOut ad K))
    (C_is_plain : Ce P w K mg base (L2.CX P w) 5 "is_plain" ["step"] (sp_out1 plainOut ad K)) (C_value_at : Ce P w K mg base (L2.CX P w) 5 "value_at" ["step", "number"] (sp_value_at ad K))
    (C_need_row : Ce P w K mg base (L2.CX P w) 5 "need_row" ["value"] (sp_out1 rowOut ad K)) (C__law_like : CeG P w K mg base CX0 1 "_law_like" ["got", "due"] (sp_law_like K)) :
    FnG P w K mg base CX0 6 f fd ["state"] (sp_law_right K) := by
  refine fun_g F sc__law_right (fun vs H Q E h => ?_) (fun cdv A outer s H vs Q E hcdv hgd hr h => ?_)
  · obtain ⟨N, pd, pl, m, rfl, _⟩ := h
    rfl
  · obtain ⟨N, pd, pl, m, rfl, l, S, hm, k⟩ := h
    have hgd : (A.deeper (envOfC "_law_right" (defScope s__law_right) s.heap.objs.size f cdv)).guards = some [] := hgd
    refine ⟨_, (pss_cons (ps_set (i := 1) sc__law_right.nd rfl (Or.inl rfl) (pe_op op_add pe_int (pe_ce C__law_draw (hr.mono (by decide)) pass0 (pa_cons (pv 0) (pa_cons pe_int pa_nil)))))
      (pss_cons (ps_set (i := 2) sc__law_right.nd rfl (Or.inl rfl) (pe_ifExp (pt_cmpR op_gt (pe_ce C__law_draw (hr.mono (by decide)) pass0 (pa_cons (pv 0) (pa_cons pe_int pa_nil))) pe_int (nomark _)) (pe_ce C__law_step (hr.mono (by decide)) pass0 (pa_cons (pv 0) (pa_cons (pv 1) (pa_cons pe_int (pa_cons pe_int pa_nil))))) (pe_ce C__law_plain (hr.mono (by decide)) pass0 (pa_cons (pv 0) (pa_cons (pv 1) (pa_cons pe_int (pa_cons pe_int pa_nil)))))))
      (pss_cons (ps_set (i := 3) sc__law_right.nd rfl (Or.inl rfl) (pe_lst (pa_cons (pe_ce C_need_step (hr.mono (by decide)) passL (pa_cons (pv 2) pa_nil)) (pa_cons (pe_ce C_degree_of (hr.mono (by decide)) passL (pa_cons (pv 2) pa_nil)) (pa_cons (pe_ce C_head_of (hr.mono (by decide)) passL (pa_cons (pv 2) pa_nil)) (pa_cons (pe_ce C_is_plain (hr.mono (by decide)) passL (pa_cons (pv 2) pa_nil)) pa_nil))))))
      (pss_cons (ps_if (pt_not (pt_val (pe_ceG C__law_like (hr.mono (by decide)) hgd pass0 (pa_cons (pv 3) (pa_cons (pe_lst (pa_cons (pv 2) (pa_cons (pv 1) (pa_cons (pe_ix ix_tup (pv 2) (pe_un un_neg pe_int) (fun _ _ => rfl)) (pa_cons (pe_and (pe_cmpR (op_eqD (un64 hr)) (pe_ix ix_tup (pv 2) pe_int (fun _ _ => rfl)) (pe_tup (pa_cons pe_int (pa_cons pe_int pa_nil))) (nomark _)) (pe_one (pe_cmpR (op_eqD (un64 hr)) (pe_ix ix_tup (pv 2) (pe_un un_neg pe_int) (fun _ _ => rfl)) (pe_tup (pa_cons pe_int (pa_cons pe_int pa_nil))) (nomark _)))) pa_nil))))) pa_nil))))) (pss_one (ps_ret pe_bl)) pss_nil)
      (pss_cons (ps_for PassesOwn.never rfl (pi_tup (pe_tup (pa_cons pe_int (pa_cons (pe_op op_pow pe_int pe_int) pa_nil)))) (pg_name (i := 4) sc__law_right.nd rfl (Or.inl rfl))
      (pss_cons (ps_set (i := 6) sc__law_right.nd rfl (Or.inl rfl) (pe_ce C__law_number (hr.mono (by decide)) pass0 (pa_cons (pv 0) (pa_cons (pv 4) (pa_cons (pv 4) pa_nil)))))
      (pss_one (ps_if (pt_not (pt_val (pe_ceG C__law_like (hr.mono (by decide)) hgd pass0 (pa_cons (pe_lst (pa_cons (pe_ce C_need_number (hr.mono (by decide)) passL (pa_cons (pv 6) pa_nil)) (pa_cons (pe_ce C_value_at (hr.mono (by decide)) passL (pa_cons (pv 2) (pa_cons (pv 6) pa_nil))) pa_nil))) (pa_cons (pe_lst (pa_cons (pv 6) (pa_cons (pe_ce C__law_sum_of_powers (hr.mono (by decide)) pass0 (pa_cons (pv 2) (pa_cons (pv 6) pa_nil))) pa_nil))) pa_nil))))) (pss_one (ps_ret pe_bl)) pss_nil))))
      (pss_cons (ps_set (i := 5) sc__law_right.nd rfl (Or.inl rfl) (pe_callTy call_tuple_of (by rfl) T.f_tuple (by decide +kernel) (pa_cons (pe_lc (own := [("turn", 7)]) (g := gName 7) rfl sc__law_right.nd (pi_range1 rfl T.f_range (pa_cons (pe_op op_add pe_int (pe_ce C__law_draw (hr.mono (by decide)) pass0 (pa_cons (pv 0) (pa_cons pe_int pa_nil)))) pa_nil)) (blkOk_by (N := ["state", "size", "told", "got", "widest", "some", "worth", "turn"]) (sc := defScope s__law_right) (by decide +kernel)) (fun _ _ _ _ _ => by exact (pg_name (i := 7) sc__law_right.nd rfl (Or.inl rfl))) (fun _ _ _ _ _ => by exact pts_nil) (fun _ _ _ _ _ => by exact (pe_ce C__law_step (hr.mono (by decide)) pass0 (pa_cons (pv 0) (pa_cons (pe_op op_add pe_int (pe_ce C__law_draw (hr.mono (by decide)) pass0 (pa_cons (pv 0) (pa_cons pe_int pa_nil)))) (pa_cons pe_int (pa_cons pe_int pa_nil))))))) pa_nil)))
      (pss_one (ps_ret (pe_ceG C__law_like (hr.mono (by decide)) hgd pass0 (pa_cons (pe_ce C_need_row (hr.mono (by decide)) passL (pa_cons (pv 5) pa_nil)) (pa_cons (pv 5) pa_nil))))))))))), ?_⟩
    refine ⟨_, rfl, N, pd, pl, m, 6, rfl, l, S, by omega, by decide, by decide, fun n0 H1 n00 n01 c1 S1 => ?_⟩
    have l1 := S1.live c1 l
    refine ⟨_, _, rfl, rfl, ?_⟩
    obtain ⟨n, hn⟩ : ∃ n : Nat, 1 + n0 = (n : Int) := ⟨(1 + n0).toNat, by omega⟩
    change gName 1 (V.int (1 + n0)) _ _ _
    rw [hn]
    have hn1 : 1 ≤ n := by omega
    have hn6 : n ≤ 6 := by omega
    refine ⟨_, rfl, N, pd, pl, _, 3, rfl, l1, S1, by omega, by decide, by decide, fun r H2 r0 r1 c2 S2 => ⟨_, _, rfl, rfl, _, rfl, ?_⟩⟩
    have l2 := S2.live c2 l1
    by_cases hr0 : (0 : Int) < r
    case' pos =>
      rw [decide_eq_true hr0]
      refine iteT ⟨_, rfl, _, rfl, N, pd, pl, _, n, 9, 5, rfl, l2, S2, by omega, by omega, by decide, by decide, by decide, by decide, fun v st H3 c3 S3 hv hs => ?_⟩
    case' neg =>
      rw [decide_eq_false hr0]
      refine iteF ⟨_, rfl, _, rfl, N, pd, pl, _, n, 9, 5, rfl, l2, S2, by omega, hn1, by omega, by decide, by decide, by decide, by decide, fun v st H3 c3 S3 hv hs => ?_⟩
    all_goals
      have hst := isStep_of hs (by decide) (by decide) (by omega) (by omega)
      have l3 := S3.live c3 l2
      obtain ⟨q0, q1, hq0, hq1⟩ := plain_is hs (by omega)
      have hlen := hs.len
      obtain ⟨a, xs, rfl, hSv, hDv⟩ := hv.tupI
      have hxl : xs.length = n + 1 := by rw [hDv.length, List.length_map, hlen]
      obtain ⟨x0, hx0, dx0⟩ := hDv.get (i := 0) (d := nD q0) (by rw [List.getElem?_map, hq0]; rfl)
      have hqn : st[n]? = some q1 := by
        rw [← hq1, List.getLast?_eq_getElem?, hlen]
        rfl
      obtain ⟨y1, hy1, dy1⟩ := hDv.get (i := n) (d := nD q1) (by rw [List.getElem?_map, hqn]; rfl)
      have hat := atI_last' hxl hy1
      have w0 := isNum_of (hs.num q0 (mem_of_get hq0)) (by decide) (by decide)
      have w1 := isNum_of (hs.num q1 (mem_of_get hqn)) (by decide) (by decide)
      -- got
      refine ⟨_, rfl, N, _, _, rfl, l3, hv, ?_⟩
      rw [needOut_ok hst]
      intro v4 H4 s4 h4
      refine ⟨_, rfl, N, _, _, rfl, l3.same s4, hv.ext (Same.cut N s4), ?_⟩
      rw [degOut_ok hst]
      intro v5 H5 s5 h5
      have s35 := s4.trans s5
      refine ⟨_, rfl, N, _, _, rfl, l3.same s35, hv.ext (Same.cut N s35), ?_⟩
      rw [headOut_ok hst hq1]
      intro v6 H6 s6 h6
      have s36 := s35.trans s6
      refine ⟨_, rfl, N, _, _, rfl, l3.same s36, hv.ext (Same.cut N s36), ?_⟩
      rw [plainOut_ok hst hq0 hq1]
      intro v7 H7 s7 h7
      have s37 := s36.trans s7
      refine ⟨(by show 4 ≤ sizeLine; decide), fun p8 n8 => ?_⟩
      have s38 := s37.trans (same_new (o := .lst [v4, v5, v6, v7]) n8)
      have d8 : ∀ {b : Bool} {H9 : Hp}, (PyData.eqv (nD q0) (nD (0, 1)) && PyData.eqv (nD q1) (nD (1, 1))) = b → Same (upd H7 p8 (.lst [v4, v5, v6, v7])) H9 → Dp K H9 (.ref p8) (.list [sD st, .int ((st.length : Int) - 1), nD q1, .bool b]) := by
        intro b H9 e t
        rw [← e]
        refine .lst (.inl (.inl (t _ _ upd_same))) (.cons ?_ (.cons ?_ (.cons ?_ (.cons ?_ .nil))))
        · exact h4.un.ext ((((s5.trans s6).trans s7).trans (same_new n8)).trans t)
        · exact h5.un.ext (((s6.trans s7).trans (same_new n8)).trans t)
        · exact h6.un.ext ((s7.trans (same_new n8)).trans t)
        · exact h7.un.ext ((same_new n8).trans t)
      -- due
      refine ⟨_, rfl, _, rfl, _, rfl, _, rfl, _, rfl, a, xs, _, y1, rfl, rfl, seq_same s38 (seq_un hSv), hat, ?_⟩
      refine ⟨_, rfl, a, xs, 0, x0, rfl, rfl, seq_same s38 (seq_un hSv), atI_nat hx0, (by show 2 ≤ sizeLine; decide), fun p9 n9 => ?_⟩
      have s39 := s38.trans (same_new (o := .tup [.int 0, .int 1]) n9)
      refine ⟨nD q0, nD (0, 1), dx0.un.ext s39, .tup (.inl (.inl upd_same)) dp_two, shaped_of_num w0, shaped_num, _, rfl, ?_⟩
      cases e0 : PyData.eqv (nD q0) (nD (0, 1))
      case' true =>
        refine iteT ?_
        refine ⟨_, rfl, _, rfl, a, xs, _, y1, rfl, rfl, seq_same s39 (seq_un hSv), hat, (by show 2 ≤ sizeLine; decide), fun p10 n10 => ?_⟩
        have s310 := s39.trans (same_new (o := .tup [.int 1, .int 1]) n10)
        refine ⟨nD q1, nD (1, 1), dy1.un.ext s310, .tup (.inl (.inl upd_same)) dp_two, shaped_of_num w1, shaped_num, ?_⟩
        have t38 := (same_new (o := .tup [.int 0, .int 1]) n9).trans (same_new (o := .tup [.int 1, .int 1]) n10)
        have hbb : (PyData.eqv (nD q0) (nD (0, 1)) && PyData.eqv (nD q1) (nD (1, 1))) = PyData.eqv (nD q1) (nD (1, 1)) := by rw [e0]; rfl
        generalize upd (upd (upd H7 p8 (.lst [v4, v5, v6, v7])) p9 (.tup [.int 0, .int 1])) p10 (.tup [.int 1, .int 1]) = H9 at s310 t38 ⊢
        have s39 := s310
      case' false =>
        have t38 := same_new (o := .tup [.int 0, .int 1]) n9
        have hbb : (PyData.eqv (nD q0) (nD (0, 1)) && PyData.eqv (nD q1) (nD (1, 1))) = false := by rw [e0]; rfl
        generalize upd (upd H7 p8 (.lst [v4, v5, v6, v7])) p9 (.tup [.int 0, .int 1]) = H9 at s39 t38 ⊢
        refine iteF ?_
      all_goals
        refine ⟨(by show 4 ≤ sizeLine; decide), fun p11 n11 => ?_⟩
        have s311 : ∀ b : Bool, Same H3 (upd H9 p11 (.lst [.ref a, .int n, y1, .bl b])) := fun b => s39.trans (same_new n11)
        refine ⟨_, _, .list [sD st, .int ((st.length : Int) - 1), nD q1, .bool _], rfl, d8 hbb (t38.trans (same_new n11)), ?_, ?_, rfl, ?_⟩
        · rw [hlen]
          have en : ((n + 1 : Nat) : Int) - 1 = n := by omega
          rw [en]
          exact .lst (.inl (.inl upd_same)) (.cons (hv.un.ext (s311 _)) (.cons (.int _) (.cons (dy1.un.ext (s311 _)) (.cons (.bl _) .nil))))
        · refine (sh_lst (n := 60000) (k := 2) (fun d hd => ?_)).mono (by show 4 * (60000 + 2) + 3 ≤ 1000000; decide) (by decide)
          have hsm : ∀ q ∈ st, q.1.natAbs < 2 ^ 1920 ∧ q.2.natAbs < 2 ^ 1920 := fun q hq => by
            have b := (small_num (n := 4) (hs.num q hq) (by decide) (by decide)).mono (n := 1920) (by decide)
            exact ⟨b.top, b.bot⟩
          simp only [List.mem_cons, List.not_mem_nil, or_false] at hd
          rcases hd with z | z | z | z
          · rw [z]
            exact (sh_step (m := 7) hsm (by omega)).mono (by decide) (by decide)
          · rw [z]
            exact (sh_int (Nat.lt_of_le_of_lt (show ((st.length : Int) - 1).natAbs ≤ 6 by omega) (by decide))).mono (by decide) (by decide)
          · rw [z]
            exact (sh_num (hsm q1 (mem_of_get hqn)).1 (hsm q1 (mem_of_get hqn)).2).mono (by decide) (by decide)
          · rw [z]
            exact sh_bool.mono (by decide) (by decide)
        generalize eH12 : upd H9 p11 _ = H12
        have S12 : Same H3 H12 := eH12 ▸ s311 _
        clear eH12 s311
        refine ⟨_, rfl, iteF ?_⟩
        have c12 : Chg pd pl H H12 := ((c1.trans c2).trans c3).trans (Chg.of S12)
        have St12 := S3.same S12
        have l12 := l3.same S12
        have hv12 := hv.ext (Same.cut N S12)
        generalize H12 = H0 at c12 St12 l12 hv12 ⊢
        refine ⟨_, _, rfl, rfl, (by show CPow 10 60; exact ⟨by decide, by decide, by decide⟩), (by show 2 ≤ sizeLine; decide), fun pt nt => ?_⟩
        have npt : pt ∉ N := l12.new nt
        refine ⟨pt, rfl, ⟨_, .inl (.inl upd_same)⟩, for_tup (K := K) (a := pt) (xs := [V.int 6, V.int (10 ^ 60)])
          (fun i σ H' => (∃ o4 o6, σ = [some (.ref pd), some (.int n), some (.ref a), some (.ref p8), o4, none, o6, none]) ∧ Chg pd pl H H' ∧ St K N H' pd pl (m + 1 + 1 + 2 * n + 3 + 2 * i) ∧ Live N H' ∧ Dp K (cut N H') (.ref a) (sD st) ∧ H' pt = some (.tup [V.int 6, V.int (10 ^ 60)]))
          ⟨⟨_, _, rfl⟩, c12.trans (Chg.of (same_new nt)), (St12.same (same_new nt)).more (by omega), l12.same (same_new nt), hv12.ext (Same.cut N (same_new nt)), upd_same⟩ (fun i σ H' _ h => .inl (.inl h.2.2.2.2.2)) ?_ ?_⟩
        · rintro i x σ H5 hx ⟨⟨o4, o6, rfl⟩, c5, S5, l5, hv5, ht5⟩
          obtain ⟨wd, rfl, w0, wG⟩ : ∃ wd : Int, x = V.int wd ∧ 0 < wd ∧ wd ≤ 10 ^ 60 := by
            match i, hx with
            | 0, hx => exact ⟨6, by simpa using hx.symm, by decide, by decide⟩
            | 1, hx => exact ⟨10 ^ 60, by simpa using hx.symm, by decide, by decide⟩
            | i + 2, hx => simp at hx
          have hi : i < 2 := (List.getElem?_eq_some_iff.mp hx).1
          have wB : wd.natAbs < 2 ^ 200 := small_great (by omega) wG
          have wB3 : wd.natAbs < 2 ^ 300 := Nat.lt_of_lt_of_le wB (Nat.pow_le_pow_right (by decide) (by decide))
          refine ⟨_, rfl, _, rfl, _, rfl, N, pd, pl, _, wd, wd, rfl, l5, S5, by omega, by omega, w0, wB3, wB3, fun u q H6 c6 S6 hu hq => ?_⟩
          have l6 := S6.live c6 l5
          have hv6 := hv5.ext (c6.cut S5.md S5.ml)
          have hqn := isNum_of hq wG wG
          have bq := small_num hq wB wB
          have fit := stepR_fit (k := 4) hs (by decide) (by decide)
          have stne : st ≠ [] := by intro z; rw [z] at hlen; simp at hlen
          have bv := (valOf_bd fit stne bq).mono (n := 1900) (by
            have y1 : 201 * st.length ≤ 201 * 7 := Nat.mul_le_mul_left _ (by omega)
            have y2 : 4 * st.length ≤ 4 * 7 := Nat.mul_le_mul_left _ (by omega)
            omega)
          have ev := value_is (x := q) (fun r hr => fit.pos r hr) stne bq.pos
          have bq' := bq.mono (n := 1920) (by decide)
          have bv' := bv.mono (n := 1920) (by decide)
          refine ⟨_, rfl, N, u, nD q, rfl, l6, hu, ?_⟩
          rw [needOut_ok hqn]
          intro u7 H7 s7 h7
          refine ⟨_, rfl, _, rfl, N, _, u, sD st, nD q, rfl, l6.same s7, hv6.ext (Same.cut N s7), hu.ext (Same.cut N s7), fun z => (by rw [hst] at z; cases z), fun _ z => (by rw [hqn] at z; cases z), fun _ _ => ⟨st, q, rfl, rfl, by omega, ?_⟩⟩
          intro u8 H8 s8 h8
          have t8 := s7.trans s8
          refine ⟨(by show 2 ≤ sizeLine; decide), fun p9 n9 => ?_⟩
          have t9 := t8.trans (same_new (o := .lst [u7, u8]) n9)
          refine ⟨_, rfl, _, rfl, _, rfl, N, _, u, st, q, 4, 200, rfl, l6.same t9, hv6.ext (Same.cut N t9), hu.ext (Same.cut N t9), fun r hr => ⟨fit.pos r hr, fit.top r hr, fit.bot r hr⟩, bq, Nat.le_trans (fb_le (j := 8) (by omega)) (by decide), ?_, ?_⟩
          · have y1 : 200 * st.length ≤ 200 * 7 := Nat.mul_le_mul_left _ (by omega)
            omega
          intro u10 H10 s10 h10
          rw [← ev] at h10
          have t10 := t9.trans s10
          refine ⟨(by show 2 ≤ sizeLine; decide), fun p11 n11 => ?_⟩
          have t11 := t10.trans (same_new (o := .lst [u, u10]) n11)
          refine ⟨_, _, .list [nD q, nD (valOf st q)], rfl, ?_, ?_, ?_, rfl, ?_⟩
          · refine .lst (.inl (.inl (same_new n11 _ _ (s10 _ _ upd_same)))) (.cons ?_ (.cons ?_ .nil))
            · exact h7.un.ext (s8.trans ((same_new n9).trans (s10.trans (same_new n11))))
            · exact h8.un.ext ((same_new n9).trans (s10.trans (same_new n11)))
          · exact .lst (.inl (.inl upd_same)) (.cons (hu.un.ext t11) (.cons (h10.un.ext (same_new n11)) .nil))
          · refine (sh_lst (n := 3849) (k := 1) (fun d hd => ?_)).mono (by show 2 * (3849 + 2) + 3 ≤ 1000000; decide) (by decide)
            simp only [List.mem_cons, List.not_mem_nil, or_false] at hd
            rcases hd with z | z
            · rw [z]
              exact sh_num bq'.top bq'.bot
            · rw [z]
              exact sh_num bv'.top bv'.bot
          refine ⟨_, rfl, iteF ?_⟩
          exact ⟨⟨_, _, rfl⟩, (c5.trans c6).trans (Chg.of t11), (S6.same t11).more (by omega), l6.same t11, hv6.ext (Same.cut N t11), t11 _ _ (c6 _ _ (fun z => npt (z ▸ S5.md)) (fun z => npt (z ▸ S5.ml)) ht5)⟩
        · rintro σ H5 ⟨⟨o4, o6, rfl⟩, c5, S5, l5, hv5, _⟩
          refine ⟨_, rfl, N, pd, pl, _, 8, rfl, l5, S5, (by simp only [List.length_cons, List.length_nil]; omega), by decide, by decide, fun r6 H6 r60 r61 c6 S6 => ?_⟩
          have l6 := S6.live c6 l5
          obtain ⟨kk, hkk⟩ : ∃ kk : Nat, 1 + r6 = (kk : Int) := ⟨(1 + r6).toNat, by omega⟩
          refine ⟨_, _, rfl, rfl, kk, (by show [V.int (1 + r6)] = _; rw [hkk]), by omega, by omega, fun D hD => ?_⟩
          rw [Int.toNat_natCast]
          refine draws_gen (q := 10) (EE := fun d => ∃ st2, d = sD st2 ∧ ∃ j, 1 ≤ j ∧ j ≤ 3 ∧ StepR 5 3 (j + 1) st2) l6 S6 hD (by omega) (fun i H1 Q1 hi l7 S7 q1 => ?_) (fun xs2 ds H7 c7 l7 S7 e1 e2 e3 e4 => ?_)
          · refine ⟨rfl, _, rfl, _, rfl, D :: N, pd, pl, _, 3, rfl, l7, S7, (by simp only [List.length_cons, List.length_nil]; omega), by decide, by decide, fun r8 H8 r80 r81 c8 S8 => ⟨_, _, rfl, rfl, ?_⟩⟩
            obtain ⟨j, hj⟩ : ∃ j : Nat, 1 + r8 = (j : Int) := ⟨(1 + r8).toNat, by omega⟩
            refine ⟨D :: N, pd, pl, _, j, 5, 3, (by show [V.ref pd, V.int (1 + r8), V.int 5, V.int 3] = _; rw [hj]), S8.live c8 l7, S8, (by simp only [List.length_cons, List.length_nil]; omega), by omega, by decide, by decide, by decide, by decide, fun v9 st9 H9 c9 S9 hv9 hs9 => ?_⟩
            exact q1 v9 _ H9 (c8.trans c9) (S9.more (by omega)) hv9 ⟨st9, rfl, j, by omega, by omega, hs9⟩
          · have c7 : Chg pd pl H6 H7 := c7
            have hsd : ∀ d ∈ ds, isStep d = true := fun d hd => by
              obtain ⟨st2, rfl, j, j1, j3, h2⟩ := e4 d hd
              exact isStep_of h2 (by decide) (by decide) (by omega) (by omega)
            refine ⟨D, xs2, rfl, .inl ⟨.inl (.inl e1), fun p12 n12 => ?_⟩⟩
            have t12 := same_new (o := .tup xs2) n12
            have np12 : p12 ∉ N := l7.new n12
            have hd12 : Dp K (cut N (upd H7 p12 (.tup xs2))) (.ref p12) (.tuple ds) := .tup (.inl (.inl (cut_at np12 upd_same))) (e2.ext (Same.cut N t12))
            refine ⟨_, rfl, N, _, _, rfl, l7.same t12, hd12, ?_⟩
            rw [row_ok (by omega) (by omega) hsd]
            intro v13 H13 s13 h13
            refine ⟨_, rfl, _, _, .tuple ds, rfl, h13.un, hd12.un.ext s13, ?_, rfl, ?_⟩
            · refine (sh_tup (n := 20000) (k := 2) (fun d hd => ?_)).mono ?_ (by decide)
              · obtain ⟨st2, rfl, j, j1, j3, h2⟩ := e4 d hd
                have f2 := stepR_fit (k := 4) h2 (by decide) (by decide)
                have hle := h2.len
                exact (sh_step (m := 4) (fun q hq => ⟨Nat.lt_of_lt_of_le (f2.top q hq) (Nat.pow_le_pow_right (by decide) (by decide)), Nat.lt_of_lt_of_le (f2.bot q hq) (Nat.pow_le_pow_right (by decide) (by decide))⟩) (by omega)).mono (by decide) (by decide)
              · have : ds.length * (20000 + 2) ≤ 8 * (20000 + 2) := Nat.mul_le_mul_right _ (by omega)
                omega
            · have S13 := S7.same (t12.trans s13)
              exact k _ (((c5.trans c6).trans c7).trans (Chg.of (t12.trans s13))) (S13.more (by simp only [List.length_cons, List.length_nil]; omega))
end
end My

set_option Elab.async false
set_option linter.all false
set_option maxRecDepth 100000
set_option maxHeartbeats 4000000
namespace My
open PySem PySem.Spec PyProof.Rows L2
/-! ### what the errors' own __init__ keep -/
def sp_init2 (K : PySem.W.Frag) (f1 f2 : Str) : Sp := fun vs H Q _ => ∃ (a C : Addr) (v u : V), vs = [.ref a, v, u] ∧ OexC K C ∧ PySem.W.findIn K (.ref C) f1 = some none ∧ PySem.W.findIn K (.ref C) f2 = some none ∧ H a = some (exo a C none) ∧
  ∀ dx, H dx = none → dx ≠ a → Q .non (upd (upd H dx (exd dx [(f2, u), (f1, v)])) a (exo a C (some dx)))
section
variable {P : Program} {w : World} {K : PySem.W.Frag} {mg : Str → Option Value} {base : Heap} {f : Addr} {fd : FuncData}

theorem ok_BadNumber_init (F : Fun K "__init__" "BadNumber.__init__" s_BadNumber_init f fd) : FnOk P w K mg base CX0 1 f fd ["self", "value"] (sp_init K "value") := by
  refine F.ok sc_BadNumber_init (fun vs H Q E h => ?_) (fun cdv A outer s H vs Q E hr h => ?_)
  · obtain ⟨a, C, v, rfl, _⟩ := h
    rfl
  · obtain ⟨a, C, v, rfl, oc, no, ha, k⟩ := h
    refine ⟨_, pss_one (ps_ost (pv 0) (pv 1)), ?_⟩
    refine ⟨_, rfl, _, rfl, a, C, rfl, oc, no, .inl ⟨ha, fun dx h1 h2 => k dx h1 h2⟩⟩

theorem ok_BadStep_init (F : Fun K "__init__" "BadStep.__init__" s_BadStep_init f fd) : FnOk P w K mg base CX0 1 f fd ["self", "value"] (sp_init K "value") := by
  refine F.ok sc_BadStep_init (fun vs H Q E h => ?_) (fun cdv A outer s H vs Q E hr h => ?_)
  · obtain ⟨a, C, v, rfl, _⟩ := h
    rfl
  · obtain ⟨a, C, v, rfl, oc, no, ha, k⟩ := h
    refine ⟨_, pss_one (ps_ost (pv 0) (pv 1)), ?_⟩
    refine ⟨_, rfl, _, rfl, a, C, rfl, oc, no, .inl ⟨ha, fun dx h1 h2 => k dx h1 h2⟩⟩

theorem ok_BadRow_init (F : Fun K "__init__" "BadRow.__init__" s_BadRow_init f fd) : FnOk P w K mg base CX0 1 f fd ["self", "place"] (sp_init K "place") := by
  refine F.ok sc_BadRow_init (fun vs H Q E h => ?_) (fun cdv A outer s H vs Q E hr h => ?_)
  · obtain ⟨a, C, v, rfl, _⟩ := h
    rfl
  · obtain ⟨a, C, v, rfl, oc, no, ha, k⟩ := h
    refine ⟨_, pss_one (ps_ost (pv 0) (pv 1)), ?_⟩
    refine ⟨_, rfl, _, rfl, a, C, rfl, oc, no, .inl ⟨ha, fun dx h1 h2 => k dx h1 h2⟩⟩

theorem ok_BadParameter_init (F : Fun K "__init__" "BadParameter.__init__" s_BadParameter_init f fd) : FnOk P w K mg base CX0 1 f fd ["self", "value"] (sp_init K "value") := by
  refine F.ok sc_BadParameter_init (fun vs H Q E h => ?_) (fun cdv A outer s H vs Q E hr h => ?_)
  · obtain ⟨a, C, v, rfl, _⟩ := h
    rfl
  · obtain ⟨a, C, v, rfl, oc, no, ha, k⟩ := h
    refine ⟨_, pss_one (ps_ost (pv 0) (pv 1)), ?_⟩
    refine ⟨_, rfl, _, rfl, a, C, rfl, oc, no, .inl ⟨ha, fun dx h1 h2 => k dx h1 h2⟩⟩

theorem ok_BadIndex_init (F : Fun K "__init__" "BadIndex.__init__" s_BadIndex_init f fd) : FnOk P w K mg base CX0 1 f fd ["self", "value"] (sp_init K "value") := by
  refine F.ok sc_BadIndex_init (fun vs H Q E h => ?_) (fun cdv A outer s H vs Q E hr h => ?_)
  · obtain ⟨a, C, v, rfl, _⟩ := h
    rfl
  · obtain ⟨a, C, v, rfl, oc, no, ha, k⟩ := h
    refine ⟨_, pss_one (ps_ost (pv 0) (pv 1)), ?_⟩
    refine ⟨_, rfl, _, rfl, a, C, rfl, oc, no, .inl ⟨ha, fun dx h1 h2 => k dx h1 h2⟩⟩

theorem ok_BadDeed_init (F : Fun K "__init__" "BadDeed.__init__" s_BadDeed_init f fd) : FnOk P w K mg base CX0 1 f fd ["self", "place"] (sp_init K "place") := by
  refine F.ok sc_BadDeed_init (fun vs H Q E h => ?_) (fun cdv A outer s H vs Q E hr h => ?_)
  · obtain ⟨a, C, v, rfl, _⟩ := h
    rfl
  · obtain ⟨a, C, v, rfl, oc, no, ha, k⟩ := h
    refine ⟨_, pss_one (ps_ost (pv 0) (pv 1)), ?_⟩
    refine ⟨_, rfl, _, rfl, a, C, rfl, oc, no, .inl ⟨ha, fun dx h1 h2 => k dx h1 h2⟩⟩

theorem ok_Unlike_init (F : Fun K "__init__" "Unlike.__init__" s_Unlike_init f fd) : FnOk P w K mg base CX0 1 f fd ["self", "value"] (sp_init K "value") := by
  refine F.ok sc_Unlike_init (fun vs H Q E h => ?_) (fun cdv A outer s H vs Q E hr h => ?_)
  · obtain ⟨a, C, v, rfl, _⟩ := h
    rfl
  · obtain ⟨a, C, v, rfl, oc, no, ha, k⟩ := h
    refine ⟨_, pss_one (ps_ost (pv 0) (pv 1)), ?_⟩
    refine ⟨_, rfl, _, rfl, a, C, rfl, oc, no, .inl ⟨ha, fun dx h1 h2 => k dx h1 h2⟩⟩

theorem ok_TooGreat_init (F : Fun K "__init__" "TooGreat.__init__" s_TooGreat_init f fd) : FnOk P w K mg base CX0 1 f fd ["self", "most"] (sp_init K "most") := by
  refine F.ok sc_TooGreat_init (fun vs H Q E h => ?_) (fun cdv A outer s H vs Q E hr h => ?_)
  · obtain ⟨a, C, v, rfl, _⟩ := h
    rfl
  · obtain ⟨a, C, v, rfl, oc, no, ha, k⟩ := h
    refine ⟨_, pss_one (ps_ost (pv 0) (pv 1)), ?_⟩
    refine ⟨_, rfl, _, rfl, a, C, rfl, oc, no, .inl ⟨ha, fun dx h1 h2 => k dx h1 h2⟩⟩

theorem ok_BadText_init (F : Fun K "__init__" "BadText.__init__" s_BadText_init f fd) : FnOk P w K mg base CX0 1 f fd ["self", "line", "word"] (sp_init2 K "line" "word") := by
  refine F.ok sc_BadText_init (fun vs H Q E h => ?_) (fun cdv A outer s H vs Q E hr h => ?_)
  · obtain ⟨a, C, v, u, rfl, _⟩ := h
    rfl
  · obtain ⟨a, C, v, u, rfl, oc, n1, n2, ha, k⟩ := h
    refine ⟨_, pss_cons (ps_ost (pv 0) (pv 1)) (pss_one (ps_ost (pv 0) (pv 2))), ?_⟩
    refine ⟨_, rfl, _, rfl, a, C, rfl, oc, n1, .inl ⟨ha, fun dx h1 h2 => ?_⟩⟩
    refine ⟨_, rfl, _, rfl, a, C, rfl, oc, n2, .inr ⟨dx, _, upd_same, by rw [upd_ne h2]; exact upd_same, by show 1 ≤ 900; decide, ?_⟩⟩
    have e : upd (upd (upd H dx (exd dx [("line", v)])) a (exo a C (some dx))) dx (exd dx [("word", u), ("line", v)]) = upd (upd H dx (exd dx [("word", u), ("line", v)])) a (exo a C (some dx)) := by
      funext b
      by_cases z : b = dx
      · rw [z, upd_same, upd_ne h2, upd_same]
      · rw [upd_ne z]
        by_cases y : b = a
        · rw [y, upd_same, upd_same]
        · rw [upd_ne y, upd_ne y, upd_ne z, upd_ne z]
    show Q .non (upd (upd (upd H dx (exd dx [("line", v)])) a (exo a C (some dx))) dx (exd dx [("word", u), ("line", v)]))
    rw [e]
    exact k dx h1 h2
end
end My

namespace My
open PySem PySem.Spec PyProof.Rows L2
/-- the classes, as the law lists them -/
def errs : List Str := ["BadNumber", "BadStep", "BadRow", "BadParameter", "BadIndex", "BadText", "BadDeed", "NoRow", "Unlike", "TooGreat", "NothingBack"]
/-- an own class without own __init__ -/
structure En (K : PySem.W.Frag) (mg : Str → Option Value) (x : Str) (C : Addr) : Prop where
  q : PySem.W.excIn K C [.type "ValueError", .type "Exception", .type "BaseException", .type "object"] "ValueError.__new__" = true
  g : mg x = some (.ref C)
  k : PySem.W.keepIn K (.ref C) = true
/-- the errors as values, their classes -/
structure Evs (P : Program) (w : World) (K : PySem.W.Frag) (mg : Str → Option Value) (base : Heap) (av : Str → Addr) : Prop where
  v_BadNumber : Ev P w K mg base "BadNumber" ["value"] (av "BadNumber") (sp_init K "value")
  x_BadNumber : XfC K (av "BadNumber") ∧ PySem.W.findIn K (.ref (av "BadNumber")) "value" = some none
  v_BadStep : Ev P w K mg base "BadStep" ["value"] (av "BadStep") (sp_init K "value")
  x_BadStep : XfC K (av "BadStep") ∧ PySem.W.findIn K (.ref (av "BadStep")) "value" = some none
  v_BadRow : Ev P w K mg base "BadRow" ["place"] (av "BadRow") (sp_init K "place")
  x_BadRow : XfC K (av "BadRow") ∧ PySem.W.findIn K (.ref (av "BadRow")) "place" = some none
  v_BadParameter : Ev P w K mg base "BadParameter" ["value"] (av "BadParameter") (sp_init K "value")
  x_BadParameter : XfC K (av "BadParameter") ∧ PySem.W.findIn K (.ref (av "BadParameter")) "value" = some none
  v_BadIndex : Ev P w K mg base "BadIndex" ["value"] (av "BadIndex") (sp_init K "value")
  x_BadIndex : XfC K (av "BadIndex") ∧ PySem.W.findIn K (.ref (av "BadIndex")) "value" = some none
  v_BadDeed : Ev P w K mg base "BadDeed" ["place"] (av "BadDeed") (sp_init K "place")
  x_BadDeed : XfC K (av "BadDeed") ∧ PySem.W.findIn K (.ref (av "BadDeed")) "place" = some none
  v_Unlike : Ev P w K mg base "Unlike" ["value"] (av "Unlike") (sp_init K "value")
  x_Unlike : XfC K (av "Unlike") ∧ PySem.W.findIn K (.ref (av "Unlike")) "value" = some none
  v_TooGreat : Ev P w K mg base "TooGreat" ["most"] (av "TooGreat") (sp_init K "most")
  x_TooGreat : XfC K (av "TooGreat") ∧ PySem.W.findIn K (.ref (av "TooGreat")) "most" = some none
  v_BadText : Ev P w K mg base "BadText" ["line", "word"] (av "BadText") (sp_init2 K "line" "word")
  x_BadText : XfC K (av "BadText") ∧ PySem.W.findIn K (.ref (av "BadText")) "line" = some none ∧ PySem.W.findIn K (.ref (av "BadText")) "word" = some none
  n_NoRow : En K mg "NoRow" (av "NoRow")
  n_NothingBack : En K mg "NothingBack" (av "NothingBack")
  g_StepError : mg "StepError" = some (.ref (av "StepError"))
  ec : ∀ x ∈ errs, ExcC K (av x)
  kit : ∀ (i j : Nat) (x y : Str), errs[i]? = some x → errs[j]? = some y → PySem.W.kitOne K (.ref (av x)) (.ref (av y)) = some (decide (i = j))
  kitS : ∀ x ∈ errs, PySem.W.kitOne K (.ref (av x)) (.ref (av "StepError")) = some true ∧ PySem.W.kitOne K (.ref (av x)) (.type "ValueError") = some true
end My
set_option Elab.async false
set_option linter.all false
set_option maxRecDepth 100000
set_option maxHeartbeats 4000000
set_option exponentiation.threshold 20000


namespace My
open PySem PySem.Spec PyProof.Rows L2
/-! ### the values that the law refuses -/
def oddDs : List PyData := [.none, .int 1, .tuple [.int 1], nD (2, 4), nD (1, 0), nD (1, -1), nD (0, 2), .tuple [.bool true, .int 1], .list [.int 1, .int 2], nD (10 ^ 60 + 1, 1), .tuple [.int 1, .int 2, .int 3]]
def okSh (n k : Nat) (d : PyData) : Bool := d.showable && (!d.hasDict && (decide (d.depth ≤ k) && decide (d.shown.length ≤ n)))
theorem sh_of {n k : Nat} {d : PyData} (h : okSh n k d = true) : Sh n k d := by
  unfold okSh at h
  simp only [Bool.and_eq_true, decide_eq_true_eq, Bool.not_eq_true'] at h
  exact ⟨h.1, h.2.1, h.2.2.1, h.2.2.2⟩
structure OddD (d : PyData) : Prop where
  num : isNum d = false
  sh : Sh 20000 3 d
theorem odd_of {d : PyData} (h : d ∈ oddDs) : OddD d := by
  have e : oddDs.all (fun d => !isNum d && okSh 20000 3 d) = true := by decide +kernel
  have := List.all_eq_true.mp e d h
  simp only [Bool.and_eq_true, Bool.not_eq_true'] at this
  exact ⟨this.1, sh_of this.2⟩
def lotDs (o : PyData) (g0 g1 g2 : Int × Int) : List PyData := [.none, .tuple [], .tuple [nD (1, 1)], .tuple [nD g0, o], .tuple [nD g0, nD g1, nD g2, nD (0, 1)], .list [nD g0, nD g1, nD g2], powD 65, .tuple [nD g0, nD g1, nD g2, o, nD (1, 1)], .int 5]
theorem notStep {ds : List PyData} {o : PyData} (h : isNum o = false) (hm : o ∈ ds) : isStep (.tuple ds) = false := by
  have e : ds.all isNum = false := by
    rw [List.all_eq_false]
    exact ⟨o, hm, by rw [h]; decide⟩
  rw [isStep_tup, e]
  simp
theorem gs_sh {wd bl : Int} {n : Nat} {s : List (Int × Int)} (h : StepR wd bl n s) (h1 : wd.natAbs < 2 ^ 4) (h2 : bl.natAbs < 2 ^ 4) {q : Int × Int} (hq : q ∈ s) : Sh 3849 1 (nD q) := by
  have b := (small_num (n := 4) (h.num q hq) h1 h2).mono (n := 1920) (by decide)
  exact sh_num b.top b.bot
theorem bad_of {o d : PyData} {g0 g1 g2 : Int × Int} (ho : OddD o) (hs : StepR 4 3 3 [g0, g1, g2]) (h : d ∈ lotDs o g0 g1 g2) : isStep d = false ∧ Sh 300000 5 d := by
  have s0 := (gs_sh hs (by decide) (by decide) (q := g0) (by simp)).mono (m := 20000) (l := 3) (by decide) (by decide)
  have s1 := (gs_sh hs (by decide) (by decide) (q := g1) (by simp)).mono (m := 20000) (l := 3) (by decide) (by decide)
  have s2 := (gs_sh hs (by decide) (by decide) (q := g2) (by simp)).mono (m := 20000) (l := 3) (by decide) (by decide)
  have u1 : Sh 20000 3 (nD (1, 1)) := sh_of (by decide +kernel)
  have u0 : Sh 20000 3 (nD (0, 1)) := sh_of (by decide +kernel)
  unfold lotDs at h
  simp only [List.mem_cons, List.not_mem_nil, or_false] at h
  rcases h with z | z | z | z | z | z | z | z | z
  · rw [z]; exact ⟨rfl, sh_of (by decide +kernel)⟩
  · rw [z]; exact ⟨rfl, sh_of (by decide +kernel)⟩
  · rw [z]; exact ⟨by decide +kernel, sh_of (by decide +kernel)⟩
  · rw [z]
    refine ⟨notStep ho.num (by simp), (sh_tup (n := 20000) (k := 3) (fun x hx => ?_)).mono (by show 2 * 20002 + 3 ≤ 300000; decide) (by decide)⟩
    simp only [List.mem_cons, List.not_mem_nil, or_false] at hx
    rcases hx with y | y
    · rw [y]; exact s0
    · rw [y]; exact ho.sh
  · rw [z]
    refine ⟨?_, (sh_tup (n := 20000) (k := 3) (fun x hx => ?_)).mono (by show 4 * 20002 + 3 ≤ 300000; decide) (by decide)⟩
    · rw [isStep_tup]
      have : PyData.eqv (([nD g0, nD g1, nD g2, nD (0, 1)] : List PyData).getLast?.getD .none) (.tuple [.int 0, .int 1]) = true := by
        show PyData.eqv (nD (0, 1)) (nD (0, 1)) = true
        rw [eqv_num]
        rfl
      rw [this]
      simp
    · simp only [List.mem_cons, List.not_mem_nil, or_false] at hx
      rcases hx with y | y | y | y <;> rw [y] <;> assumption
  · rw [z]
    refine ⟨rfl, (sh_lst (n := 20000) (k := 3) (fun x hx => ?_)).mono (by show 3 * 20002 + 3 ≤ 300000; decide) (by decide)⟩
    simp only [List.mem_cons, List.not_mem_nil, or_false] at hx
    rcases hx with y | y | y <;> rw [y] <;> assumption
  · rw [z]
    refine ⟨by decide +kernel, (sh_tup (n := 3849) (k := 1) (ds := List.replicate 65 (nD (0, 1)) ++ [nD (1, 1)]) (fun x hx => ?_)).mono (by show 66 * 3851 + 3 ≤ 300000; decide) (by decide)⟩
    rcases List.mem_append.mp hx with y | y
    · rw [List.eq_of_mem_replicate y]
      exact sh_num (by decide) (by decide)
    · rw [List.mem_singleton.mp y]
      exact sh_num (by decide) (by decide)
  · rw [z]
    refine ⟨notStep ho.num (by simp), (sh_tup (n := 20000) (k := 3) (fun x hx => ?_)).mono (by show 5 * 20002 + 3 ≤ 300000; decide) (by decide)⟩
    simp only [List.mem_cons, List.not_mem_nil, or_false] at hx
    rcases hx with y | y | y | y | y
    · rw [y]; exact s0
    · rw [y]; exact s1
    · rw [y]; exact s2
    · rw [y]; exact ho.sh
    · rw [y]; exact u1
  · rw [z]; exact ⟨rfl, sh_of (by decide +kernel)⟩
/-- rows with one bad step -/
theorem row_bad {g b : PyData} (hg : isStep g = true) (hb : isStep b = false) {i j : Nat} (h : i + 1 + j ≤ 8) : rowOut (.tuple (List.replicate i g ++ [b] ++ List.replicate j g)) = .er .row (.tuple [.int (i : Nat)]) := by
  have e : (List.replicate i g ++ [b] ++ List.replicate j g).findIdx? (fun e => !isStep e) = some i := by
    clear h
    induction i with
    | zero => simp [List.findIdx?_cons, hb]
    | succ i ih =>
      rw [List.replicate_succ, List.cons_append, List.cons_append, List.findIdx?_cons, hg]
      simp only [Bool.not_true, Bool.false_eq_true, if_false]
      rw [ih]
      rfl
  have hl : (List.replicate i g ++ [b] ++ List.replicate j g).length = i + 1 + j := by simp; omega
  show (if 1 ≤ (List.replicate i g ++ [b] ++ List.replicate j g).length ∧ (List.replicate i g ++ [b] ++ List.replicate j g).length ≤ 8 then (match (List.replicate i g ++ [b] ++ List.replicate j g).findIdx? fun e => !isStep e with | none => Out.ok (.tuple (List.replicate i g ++ [b] ++ List.replicate j g)) | some i => .er .row (.tuple [.int (i : Nat)])) else .er .row (.tuple [])) = _
  rw [if_pos (by omega), e]
def noneDs (g0 g1 g2 : Int × Int) : List PyData := [.none, .tuple [], .list [sD [g0, g1, g2]], .tuple (List.replicate 9 (sD [g0, g1, g2])), sD [g0, g1, g2], .int 7]
theorem none_of {d : PyData} {g0 g1 g2 : Int × Int} (h : d ∈ noneDs g0 g1 g2) : SeqAt.shaped d = true ∧ rowOut d = .er .row (if PyData.eqv d (sD [g0, g1, g2]) = true then .tuple [.int 0] else .tuple []) := by
  unfold noneDs at h
  simp only [List.mem_cons, List.not_mem_nil, or_false] at h
  rcases h with z | z | z | z | z | z
  · rw [z]; exact ⟨rfl, rfl⟩
  · rw [z]; exact ⟨rfl, rfl⟩
  · rw [z]; exact ⟨rfl, rfl⟩
  · rw [z]; exact ⟨rfl, rfl⟩
  · rw [z]
    have e : PyData.eqv (sD [g0, g1, g2]) (sD [g0, g1, g2]) = true := by simp [sD, nD, PyData.eqv, PyData.eqvAll]
    refine ⟨rfl, ?_⟩
    rw [e]
    rfl
  · rw [z]; exact ⟨rfl, rfl⟩
end My

set_option Elab.async false
set_option linter.all false
set_option maxRecDepth 100000
set_option maxHeartbeats 4000000
set_option exponentiation.threshold 20000
namespace My
open PySem PySem.Spec PyProof.Rows L2
section
variable {P : Program} {w : World} {K : PySem.W.Frag} {mg : Str → Option Value} {base : Heap} {t1 t2 t3 : Tok} {f : Addr} {fd : FuncData} {ad : Ads} {av : Str → Addr}
/-! ### what is laid anew -/
theorem new_tup {N : List Addr} {H : Hp} {q : Addr} {xs : List V} {ds : List PyData} (l : Live N H) (n : H q = none) (d : DpAll K (cut N H) xs ds) : Dp K (cut N (upd H q (.tup xs))) (.ref q) (.tuple ds) :=
  .tup (.inl (.inl (cut_at (l.new n) upd_same))) (d.ext (Same.cut N (same_new n)))
theorem new_lst {N : List Addr} {H : Hp} {q : Addr} {xs : List V} {ds : List PyData} (l : Live N H) (n : H q = none) (d : DpAll K (cut N H) xs ds) : Dp K (cut N (upd H q (.lst xs))) (.ref q) (.list ds) :=
  .lst (.inl (.inl (cut_at (l.new n) upd_same))) (d.ext (Same.cut N (same_new n)))
theorem new_num {N : List Addr} {H : Hp} {q : Addr} {a b : Int} (l : Live N H) (n : H q = none) : Dp K (cut N (upd H q (.tup [.int a, .int b]))) (.ref q) (nD (a, b)) := new_tup l n dp_two
/-- a display of data from the heap h on -/
theorem dp_ex {N : List Addr} {H H' : Hp} {v : V} {d : PyData} (h : Dp K (cut N H) v d) (s : Same H H') : Dp K (cut N H') v d := h.ext (Same.cut N s)
/-! ### calls by names -/
def sp_true (K : PySem.W.Frag) : Sp := fun vs H Q _ => vs = [] ∧ ∃ N : List Addr, Live N H ∧ ∀ H', Same H H' → Q (.bl true) H'
theorem ok__law_named (F : Fun K "_law_named" "_law_named" s__law_named f fd) (T : Txt K mg t1 t2 t3)
    (K_need_number : CeK P w K mg base (L2.CX P w) 4 "need_number" ["value"] (sp_need isNum .num ad K)) (K_need_step : CeK P w K mg base (L2.CX P w) 4 "need_step" ["value"] (sp_need isStep .stp ad K))
    (K_need_row : CeK P w K mg base (L2.CX P w) 5 "need_row" ["value"] (sp_out1 rowOut ad K)) (K_degree_of : CeK P w K mg base (L2.CX P w) 5 "degree_of" ["step"] (sp_out1 degOut ad K))
    (K_head_of : CeK P w K mg base (L2.CX P w) 5 "head_of" ["step"] (sp_out1 headOut ad K)) (K_is_plain : CeK P w K mg base (L2.CX P w) 5 "is_plain" ["step"] (sp_out1 plainOut ad K))
    (K_value_at : CeK P w K mg base (L2.CX P w) 5 "value_at" ["step", "number"] (sp_value_at ad K)) (C__law_like : CeG P w K mg base CX0 1 "_law_like" ["got", "due"] (sp_law_like K)) :
    FnG P w K mg base CX0 6 f fd [] (sp_true K) := by
  refine fun_g F sc__law_named (fun vs H Q E h => ?_) (fun cdv A outer s H vs Q E hcdv hgd hr h => ?_)
  · obtain ⟨rfl, _⟩ := h
    rfl
  · obtain ⟨rfl, N, l, k⟩ := h
    have hgd : (A.deeper (envOfC "_law_named" (defScope s__law_named) s.heap.objs.size f cdv)).guards = some [] := hgd
    refine ⟨_, (pss_cons (ps_set (i := 0) sc__law_named.nd rfl (Or.inl rfl) (pe_tup (pa_cons (pe_tup (pa_cons pe_int (pa_cons pe_int pa_nil))) (pa_cons (pe_tup (pa_cons pe_int (pa_cons pe_int pa_nil))) (pa_cons (pe_tup (pa_cons pe_int (pa_cons pe_int pa_nil))) pa_nil)))))
      (pss_cons (ps_set (i := 1) sc__law_named.nd rfl (Or.inl rfl) (pe_lst (pa_cons (pe_ceK K_need_number (hr.mono (by decide)) passL (pk_cons (pe_tup (pa_cons pe_int (pa_cons pe_int pa_nil))) pk_nil)) (pa_cons (pe_ceK K_need_step (hr.mono (by decide)) passL (pk_cons (pv 0) pk_nil)) (pa_cons (pe_ceK K_need_row (hr.mono (by decide)) passL (pk_cons (pe_tup (pa_cons (pv 0) (pa_cons (pv 0) pa_nil))) pk_nil)) (pa_cons (pe_ceK K_degree_of (hr.mono (by decide)) passL (pk_cons (pv 0) pk_nil)) pa_nil))))))
      (pss_cons (ps_set (i := 1) sc__law_named.nd rfl (Or.inl rfl) (pe_op op_cat (pv 1) (pe_lst (pa_cons (pe_ceK K_head_of (hr.mono (by decide)) passL (pk_cons (pv 0) pk_nil)) (pa_cons (pe_ceK K_is_plain (hr.mono (by decide)) passL (pk_cons (pv 0) pk_nil)) (pa_cons (pe_ceK K_value_at (hr.mono (by decide)) passL (pk_cons (pv 0) (pk_cons (pe_tup (pa_cons (pe_un un_neg pe_int) (pa_cons pe_int pa_nil))) pk_nil))) pa_nil))))))
      (pss_one (ps_ret (pe_ceG C__law_like (hr.mono (by decide)) hgd pass0 (pa_cons (pv 1) (pa_cons (pe_lst (pa_cons (pe_tup (pa_cons pe_int (pa_cons pe_int pa_nil))) (pa_cons (pv 0) (pa_cons (pe_tup (pa_cons (pv 0) (pa_cons (pv 0) pa_nil))) (pa_cons pe_int (pa_cons (pe_tup (pa_cons pe_int (pa_cons pe_int pa_nil))) (pa_cons pe_bl (pa_cons (pe_tup (pa_cons pe_int (pa_cons pe_int pa_nil))) pa_nil)))))))) pa_nil)))))))), ?_⟩
    refine ⟨(by show 2 ≤ sizeLine; decide), fun p1 n1 => ⟨(by show 2 ≤ sizeLine; decide), fun p2 n2 => ⟨(by show 2 ≤ sizeLine; decide), fun p3 n3 => ⟨(by show 3 ≤ sizeLine; decide), fun p4 n4 => ?_⟩⟩⟩⟩
    have e1 := same_new (o := .tup [.int 1, .int 2]) n1
    have e2 := same_new (o := .tup [.int 0, .int 1]) n2
    have e3 := same_new (o := .tup [.int 3, .int 1]) n3
    have e4 := same_new (o := .tup [.ref p1, .ref p2, .ref p3]) n4
    have l1 := l.same e1
    have l2 := l1.same e2
    have l3 := l2.same e3
    have d4 := new_tup (K := K) (ds := [nD (1, 2), nD (0, 1), nD (3, 1)]) l3 n4 (.cons (dp_ex (new_num l n1) (e2.trans e3)) (.cons (dp_ex (new_num l1 n2) e3) (.cons (new_num l2 n3) .nil)))
    have s4 := ((e1.trans e2).trans e3).trans e4
    have l4 := l.same s4
    have hst : isStep (sD [(1, 2), (0, 1), (3, 1)]) = true := by decide +kernel
    have d4 : Dp K (cut N _) (.ref p4) (sD [(1, 2), (0, 1), (3, 1)]) := d4
    generalize upd (upd (upd (upd H p1 (.tup [.int 1, .int 2])) p2 (.tup [.int 0, .int 1])) p3 (.tup [.int 3, .int 1])) p4 (.tup [.ref p1, .ref p2, .ref p3]) = H4 at d4 s4 l4 ⊢
    -- need_number
    refine ⟨(by show 2 ≤ sizeLine; decide), fun p5 n5 => ⟨N, _, nD (1, 2), rfl, l4.same (same_new n5), new_num l4 n5, ?_⟩⟩
    rw [needOut_ok (by decide +kernel)]
    intro v6 H6 s6 h6
    have t6 := (same_new n5).trans s6
    refine ⟨_, rfl, N, _, _, rfl, l4.same t6, dp_ex d4 t6, ?_⟩
    rw [needOut_ok hst]
    intro v7 H7 s7 h7
    have t7 := t6.trans s7
    refine ⟨_, rfl, _, rfl, (by show 2 ≤ sizeLine; decide), fun p8 n8 => ?_⟩
    have d8 := new_tup (K := K) (ds := [sD [(1, 2), (0, 1), (3, 1)], sD [(1, 2), (0, 1), (3, 1)]]) (l4.same t7) n8 (.cons (dp_ex d4 t7) (.cons (dp_ex d4 t7) .nil))
    have t8 := t7.trans (same_new (o := .tup [.ref p4, .ref p4]) n8)
    refine ⟨N, _, _, rfl, l4.same t8, d8, ?_⟩
    rw [row_ok (by decide) (by decide) (by decide +kernel)]
    intro v9 H9 s9 h9
    have t9 := t8.trans s9
    refine ⟨_, rfl, N, _, _, rfl, l4.same t9, dp_ex d4 t9, ?_⟩
    rw [degOut_ok hst]
    intro v10 H10 s10 h10
    have t10 := t9.trans s10
    refine ⟨(by show 4 ≤ sizeLine; decide), fun p11 n11 => ?_⟩
    have a1 : DpAll K (cut N H10) [v6, v7, v9, v10] [nD (1, 2), sD [(1, 2), (0, 1), (3, 1)], .tuple [sD [(1, 2), (0, 1), (3, 1)], sD [(1, 2), (0, 1), (3, 1)]], .int 2] :=
      .cons (dp_ex h6 (s7.trans ((same_new n8).trans (s9.trans s10)))) (.cons (dp_ex h7 ((same_new n8).trans (s9.trans s10))) (.cons (dp_ex h9 s10) (.cons h10 .nil)))
    have t11 := t10.trans (same_new (o := .lst [v6, v7, v9, v10]) n11)
    have a1 := a1.ext (Same.cut N (same_new (o := .lst [v6, v7, v9, v10]) n11))
    have g11 : (upd H10 p11 (.lst [v6, v7, v9, v10])) p11 = some (.lst [v6, v7, v9, v10]) := upd_same
    generalize (upd H10 p11 (.lst [v6, v7, v9, v10])) = H11 at t11 a1 g11 ⊢
    -- the rest
    refine ⟨_, rfl, _, rfl, N, _, _, rfl, l4.same t11, dp_ex d4 t11, ?_⟩
    rw [headOut_ok (q := (3, 1)) hst rfl]
    intro v12 H12 s12 h12
    have t12 := t11.trans s12
    refine ⟨_, rfl, N, _, _, rfl, l4.same t12, dp_ex d4 t12, ?_⟩
    rw [plainOut_ok (p := (1, 2)) (q := (3, 1)) hst rfl rfl]
    intro v13 H13 s13 h13
    have t13 := t12.trans s13
    refine ⟨_, rfl, _, rfl, (by show 2 ≤ sizeLine; decide), fun p14 n14 => ?_⟩
    have t14 := t13.trans (same_new (o := .tup [.int (-1), .int 3]) n14)
    have hx : isNum (nD (-1, 3)) = true := by decide +kernel
    refine ⟨N, _, _, sD [(1, 2), (0, 1), (3, 1)], nD (-1, 3), rfl, l4.same t14, dp_ex d4 t14, new_num (l4.same t13) n14, fun z => (by rw [hst] at z; cases z), fun _ z => (by rw [hx] at z; cases z), fun _ _ => ⟨_, (-1, 3), rfl, rfl, by decide, ?_⟩⟩
    rw [show valOf [(1, 2), (0, 1), (3, 1)] (-1, 3) = (5, 6) by decide +kernel]
    intro v15 H15 s15 h15
    have t15 := t14.trans s15
    refine ⟨(by show 3 ≤ sizeLine; decide), fun p16 n16 => ?_⟩
    have u15 := s12.trans (s13.trans ((same_new n14).trans s15))
    refine ⟨p11, p16, _, [v12, v13, v15], rfl, rfl, same_new n16 _ _ (u15 _ _ g11), upd_same, (by show 4 + 3 ≤ sizeLine; decide), fun p17 n17 => ?_⟩
    have x17 := (same_new (o := .lst [v12, v13, v15]) n16).trans (same_new (o := .lst ([v6, v7, v9, v10] ++ [v12, v13, v15])) n17)
    have hb : (PyData.eqv (nD (1, 2)) (nD (0, 1)) && PyData.eqv (nD (3, 1)) (nD (1, 1))) = false := by decide +kernel
    rw [hb] at h13
    have d17 := new_lst (K := K) ((l4.same t15).same (same_new n16)) n17 (DpAll.append (a1.ext (Same.cut N (u15.trans (same_new n16)))) (.cons (dp_ex h12 (s13.trans ((same_new n14).trans (s15.trans (same_new n16))))) (.cons (dp_ex h13 ((same_new n14).trans (s15.trans (same_new n16)))) (.cons (dp_ex h15 (same_new n16)) .nil))))
    have t17 := t15.trans x17
    have l17 := l4.same t17
    have S17 := s4.trans t17
    generalize upd (upd H15 p16 (.lst [v12, v13, v15])) p17 (.lst ([v6, v7, v9, v10] ++ [v12, v13, v15])) = H17 at d17 t17 l17 S17 ⊢
    -- what is due
    refine ⟨_, rfl, (by show 2 ≤ sizeLine; decide), fun p18 n18 => ?_⟩
    have y18 := same_new (o := .tup [.int 1, .int 2]) n18
    refine ⟨_, rfl, _, rfl, _, rfl, (by show 2 ≤ sizeLine; decide), fun p19 n19 => ⟨(by show 2 ≤ sizeLine; decide), fun p20 n20 => ⟨(by show 2 ≤ sizeLine; decide), fun p21 n21 => ⟨(by show 7 ≤ sizeLine; decide), fun p22 n22 => ?_⟩⟩⟩⟩
    have l18 := l17.same y18
    have d4' := dp_ex d4 t17
    have y19 := same_new (o := .tup [.ref p4, .ref p4]) n19
    have y20 := same_new (o := .tup [.int 3, .int 1]) n20
    have y21 := same_new (o := .tup [.int 5, .int 6]) n21
    have l19 := l18.same y19
    have l20 := l19.same y20
    have l21 := l20.same y21
    have d22 := new_lst (K := K) l21 n22 (.cons (dp_ex (new_num l17 n18) (y19.trans (y20.trans y21))) (.cons (dp_ex d4' (y18.trans (y19.trans (y20.trans y21)))) (.cons (dp_ex (new_tup l18 n19 (.cons (dp_ex d4' y18) (.cons (dp_ex d4' y18) .nil))) (y20.trans y21)) (.cons (.int 2)
      (.cons (dp_ex (new_num l19 n20) y21) (.cons (.bl false) (.cons (new_num l20 n21) .nil)))))))
    have y22 := y18.trans (y19.trans (y20.trans y21))
    refine ⟨_, _, _, rfl, d17.un.ext (y22.trans (same_new n22)), d22.un, ⟨by decide +kernel, by decide +kernel, by decide +kernel, by decide +kernel⟩, rfl, ?_⟩
    exact k _ (S17.trans (y22.trans (same_new n22)))
theorem ok__law_borders (F : Fun K "_law_borders" "_law_borders" s__law_borders f fd) (T : Txt K mg t1 t2 t3) (EV : Evs P w K mg base av)
    (C_need_number : Ce P w K mg base (L2.CX P w) 4 "need_number" ["value"] (sp_need isNum .num ad K)) (C_need_step : Ce P w K mg base (L2.CX P w) 4 "need_step" ["value"] (sp_need isStep .stp ad K))
    (C_value_at : Ce P w K mg base (L2.CX P w) 5 "value_at" ["step", "number"] (sp_value_at ad K)) (C__law_power : Ce P w K mg base CX0 1 "_law_power" ["size"] (sp_law_power K))
    (C__law_like : CeG P w K mg base CX0 1 "_law_like" ["got", "due"] (sp_law_like K)) :
    FnG P w K mg base CX0 6 f fd [] (sp_true K) := by
  refine fun_g F sc__law_borders (fun vs H Q E h => ?_) (fun cdv A outer s H vs Q E hcdv hgd hr h => ?_)
  · obtain ⟨rfl, _⟩ := h
    rfl
  · obtain ⟨rfl, N, l, k⟩ := h
    have hgd : (A.deeper (envOfC "_law_borders" (defScope s__law_borders) s.heap.objs.size f cdv)).guards = some [] := hgd
    refine ⟨_, (pss_cons (ps_set (i := 0) sc__law_borders.nd rfl (Or.inl rfl) (pe_op op_pow pe_int pe_int))
      (pss_cons (ps_set (i := 1) sc__law_borders.nd rfl (Or.inl rfl) (pe_lst (pa_cons (pe_ce C_need_number (hr.mono (by decide)) passL (pa_cons (pe_tup (pa_cons (pv 0) (pa_cons (pe_op op_sub (pv 0) pe_int) pa_nil))) pa_nil)) (pa_cons (pe_ce C_need_number (hr.mono (by decide)) passL (pa_cons (pe_tup (pa_cons (pe_un un_neg (pv 0)) (pa_cons pe_int pa_nil))) pa_nil)) (pa_cons (pe_callB call_len_seq (by rfl) T.f_len (by decide +kernel) (pa_cons (pe_ce C_need_step (hr.mono (by decide)) passL (pa_cons (pe_ce C__law_power (hr.mono (by decide)) pass0 (pa_cons pe_int pa_nil)) pa_nil)) pa_nil)) pa_nil)))))
      (pss_cons (ps_expr (pe_bm PySem.F.plainAttrs_list PySem.F.slot_list_append PySem.F.type_list_append mt_append (pv 1) (pa_cons (pe_ce C_value_at (hr.mono (by decide)) passL (pa_cons (pe_tup (pa_cons (pe_tup (pa_cons (pv 0) (pa_cons pe_int pa_nil))) (pa_cons (pe_tup (pa_cons (pe_un un_neg (pv 0)) (pa_cons pe_int pa_nil))) pa_nil))) (pa_cons (pe_tup (pa_cons (pv 0) (pa_cons pe_int pa_nil))) pa_nil))) pa_nil)))
      (pss_cons (ps_expr (pe_bm PySem.F.plainAttrs_list PySem.F.slot_list_append PySem.F.type_list_append mt_append (pv 1) (pa_cons (pe_and (pe_callB call_isV (by rfl) T.f_isinstance (by decide +kernel) (pa_cons (pe_ev1 EV.v_BadStep (hr.mono (by decide)) (pa_cons pe_int pa_nil)) (pa_cons (pe_bltn (v := .ty "ValueError") rfl T.f_ValueError (by decide +kernel) rfl) pa_nil))) (pe_one (pe_callB call_isV (by rfl) T.f_isinstance (by decide +kernel) (pa_cons (pe_ev1 EV.v_BadStep (hr.mono (by decide)) (pa_cons pe_int pa_nil)) (pa_cons (pe_glob (v := .ref (av "StepError")) rfl EV.g_StepError rfl) pa_nil))))) pa_nil)))
      (pss_one (ps_ret (pe_ceG C__law_like (hr.mono (by decide)) hgd pass0 (pa_cons (pv 1) (pa_cons (pe_lst (pa_cons (pe_tup (pa_cons (pv 0) (pa_cons (pe_op op_sub (pv 0) pe_int) pa_nil))) (pa_cons (pe_tup (pa_cons (pe_un un_neg (pv 0)) (pa_cons pe_int pa_nil))) (pa_cons pe_int (pa_cons (pe_tup (pa_cons (pe_op op_sub (pv 0) (pe_op op_mulW (pv 0) (pv 0))) (pa_cons pe_int pa_nil))) (pa_cons pe_bl pa_nil)))))) pa_nil))))))))), ?_⟩
    refine ⟨_, _, rfl, rfl, (by show CPow 10 60; exact ⟨by decide, by decide, by decide⟩), ?_⟩
    change gName 0 (V.int (10 ^ 60)) _ _ _
    generalize hG : (10 : Int) ^ 60 = G
    have i1 : isNum (nD (G, G - 1)) = true := by rw [← hG]; decide +kernel
    have i2 : isNum (nD (-G, 1)) = true := by rw [← hG]; decide +kernel
    have i3 : isNum (nD (G, 1)) = true := by rw [← hG]; decide +kernel
    have i4 : isStep (sD [(G, 1), (-G, 1)]) = true := by rw [← hG]; decide +kernel
    have i5 : valOf [(G, 1), (-G, 1)] (G, 1) = (G - G * G, 1) := by rw [← hG]; decide +kernel
    have i6 : isStep (powD 64) = true := by decide +kernel
    refine ⟨_, rfl, _, rfl, _, _, rfl, rfl, (by show 2 ≤ sizeLine; decide), fun p1 n1 => ⟨N, _, nD (G, G - 1), rfl, l.same (same_new n1), new_num l n1, ?_⟩⟩
    rw [needOut_ok i1]
    intro v2 H2 s2 h2
    have t2 := (same_new n1).trans s2
    have l2 := l.same t2
    refine ⟨_, rfl, _, rfl, (by show 2 ≤ sizeLine; decide), fun p3 n3 => ⟨N, _, nD (-G, 1), rfl, l2.same (same_new n3), new_num l2 n3, ?_⟩⟩
    rw [needOut_ok i2]
    intro v4 H4 s4 h4
    have t4 := (same_new n3).trans s4
    have l4 := l2.same t4
    refine ⟨N, 64, rfl, l4, by decide, by decide, fun v5 H5 s5 h5 => ?_⟩
    have l5 := l4.same s5
    refine ⟨N, _, _, rfl, l5, h5, ?_⟩
    rw [needOut_ok i6]
    intro v6 H6 s6 h6
    obtain ⟨a6, xs6, rfl, hS6, hD6⟩ := h6.tupI
    have hl6 : xs6.length = 65 := by rw [hD6.length]; rfl
    refine ⟨a6, xs6, rfl, .inr (seq_un hS6), ?_⟩
    rw [hl6]
    refine ⟨(by show 3 ≤ sizeLine; decide), fun p7 n7 => ?_⟩
    have l6 := l5.same s6
    have a1 : DpAll K (cut N H6) [v2, v4, .int 65] [nD (G, G - 1), nD (-G, 1), .int 65] := .cons (dp_ex h2 (t4.trans (s5.trans s6))) (.cons (dp_ex h4 (s5.trans s6)) (.cons (.int 65) .nil))
    have l7 := l6.push n7 (.lst [v2, v4, V.int 65])
    have a2 := a1.ext (cut_add n7 (.lst [v2, v4, V.int 65]))
    have S6 := t2.trans (t4.trans (s5.trans s6))
    have S7 := S6.trans (same_new (o := .lst [v2, v4, V.int 65]) n7)
    have nH7 : H p7 = none := by
      cases e : H p7 with
      | none => rfl
      | some o => rw [S6 _ _ e] at n7; cases n7
    have g7 : (upd H6 p7 (.lst [v2, v4, V.int 65])) p7 = some (.lst [v2, v4, V.int 65]) := upd_same
    change gName 1 (.ref p7) _ (upd H6 p7 (.lst [v2, v4, V.int 65])) _
    generalize upd H6 p7 (.lst [v2, v4, V.int 65]) = H7 at l7 a2 S7 g7 ⊢
    -- told.append(value_at(..))
    refine ⟨_, rfl, .inl ⟨rfl, _, .inl (.inl g7)⟩, _, rfl, (by show 2 ≤ sizeLine; decide), fun p8 n8 => ⟨_, rfl, _, rfl, (by show 2 ≤ sizeLine; decide), fun p9 n9 => ⟨(by show 2 ≤ sizeLine; decide), fun p10 n10 => ⟨_, rfl, (by show 2 ≤ sizeLine; decide), fun p11 n11 => ?_⟩⟩⟩⟩
    have y8 := same_new (o := .tup [.int G, .int 1]) n8
    have y9 := same_new (o := .tup [.int (-G), .int 1]) n9
    have y10 := same_new (o := .tup [.ref p8, .ref p9]) n10
    have y11 := same_new (o := .tup [.int G, .int 1]) n11
    have l8 := l7.same y8
    have l9 := l8.same y9
    have l10 := l9.same y10
    have d10 := new_tup (K := K) (ds := [nD (G, 1), nD (-G, 1)]) l9 n10 (.cons (dp_ex (new_num l7 n8) y9) (.cons (new_num l8 n9) .nil))
    refine ⟨p7 :: N, _, _, sD [(G, 1), (-G, 1)], nD (G, 1), rfl, l10.same y11, dp_ex d10 y11, new_num l10 n11, fun z => (by rw [i4] at z; cases z), fun _ z => (by rw [i3] at z; cases z), fun _ _ => ⟨_, (G, 1), rfl, rfl, (by show 2 ≤ 15; decide), ?_⟩⟩
    rw [i5]
    intro v12 H12 s12 h12
    have y12 := y8.trans (y9.trans (y10.trans (y11.trans s12)))
    refine ⟨p7, _, _, rfl, rfl, y12 _ _ g7, (by show 3 < sizeLine; decide), ?_⟩
    have l12 := (l7.same y12).setD (D := p7) (.lst ([v2, v4, V.int 65] ++ [v12]))
    have a3 := DpAll.append (a2.ext (Same.cut _ y12)) (.cons h12 .nil)
    rw [← cut_upd (p := p7) (o := .lst ([v2, v4, V.int 65] ++ [v12])) List.mem_cons_self] at a3
    have S12 : Same H (upd H12 p7 (.lst ([v2, v4, V.int 65] ++ [v12]))) := fun b o e => by
      rw [upd_ne (ne_of_none e nH7)]
      exact y12 _ _ (S7 _ _ e)
    have g12 : (upd H12 p7 (.lst ([v2, v4, V.int 65] ++ [v12]))) p7 = some (.lst ([v2, v4, V.int 65] ++ [v12])) := upd_same
    generalize upd H12 p7 (.lst ([v2, v4, V.int 65] ++ [v12])) = H13 at l12 a3 S12 g12 ⊢
    -- the errors' classes
    have mk : ∀ (H0 : Hp) (e dx : Addr), H0 e = none → (upd H0 e (exo e (av "BadStep") none)) dx = none → dx ≠ e → Same H0 (upd (upd (upd H0 e (exo e (av "BadStep") none)) dx (exd dx [("value", V.int 0)])) e (exo e (av "BadStep") (some dx))) ∧
        ∃ dx' fs, (upd (upd (upd H0 e (exo e (av "BadStep") none)) dx (exd dx [("value", V.int 0)])) e (exo e (av "BadStep") (some dx))) e = some (exo e (av "BadStep") (some dx')) ∧ (upd (upd (upd H0 e (exo e (av "BadStep") none)) dx (exd dx [("value", V.int 0)])) e (exo e (av "BadStep") (some dx))) dx' = some (exd dx' fs) := by
      intro H0 e dx h1 h2 h3
      refine ⟨fun b o eb => ?_, dx, _, upd_same, by rw [upd_ne h3, upd_same]⟩
      have x1 : b ≠ e := ne_of_none eb h1
      have x2 : b ≠ dx := ne_of_none (by rw [upd_ne x1]; exact eb) h2
      rw [upd_ne x1, upd_ne x2, upd_ne x1]
      exact eb
    have mBS : Str.ofString "BadStep" ∈ errs := by decide
    refine ⟨_, rfl, .inl ⟨rfl, _, .inl (.inl g12)⟩, (by show 1 ≤ 1000; decide), fun e1 f1 => ⟨e1, _, _, rfl, EV.v_BadStep.oc, EV.x_BadStep.2, upd_same, fun d1 f2 f3 => ⟨rfl, ?_⟩⟩⟩
    obtain ⟨m1, m2⟩ := mk _ e1 d1 f1 f2 f3
    refine ⟨e1, av "BadStep", _, _, true, rfl, fun u r => r, (EV.kitS _ mBS).2, EV.ec _ mBS, .inl m2, ?_⟩
    refine ⟨true, rfl, ?_⟩
    rw [if_pos rfl]
    have z13 := m1
    refine ⟨(by show 1 ≤ 1000; decide), fun e2 f4 => ⟨e2, _, _, rfl, EV.v_BadStep.oc, EV.x_BadStep.2, upd_same, fun d2 f5 f6 => ⟨rfl, ?_⟩⟩⟩
    obtain ⟨m3, m4⟩ := mk _ e2 d2 f4 f5 f6
    refine ⟨e2, av "BadStep", _, _, true, rfl, fun u r => r, (EV.kitS _ mBS).1, EV.ec _ mBS, .inl m4, ?_⟩
    have z14 := m1.trans m3
    refine ⟨p7, _, _, rfl, rfl, z14 _ _ g12, (by show 4 < sizeLine; decide), ?_⟩
    have l14 := (l12.same z14).setD (D := p7) (.lst ([v2, v4, V.int 65] ++ [v12] ++ [V.bl true]))
    have a4 := DpAll.append (a3.ext (Same.cut _ z14)) (.cons (.bl true) .nil)
    generalize hHH : upd (upd (upd (upd (upd (upd H13 e1 (exo e1 (av "BadStep") none)) d1 (exd d1 [("value", V.int 0)])) e1 (exo e1 (av "BadStep") (some d1))) e2 (exo e2 (av "BadStep") none)) d2 (exd d2 [("value", V.int 0)])) e2 (exo e2 (av "BadStep") (some d2)) = H14 at z14 l14 a4 ⊢
    rw [← cut_upd (p := p7) (o := .lst ([v2, v4, V.int 65] ++ [v12] ++ [V.bl true])) List.mem_cons_self] at a4
    have S14 : Same H (upd H14 p7 (.lst ([v2, v4, V.int 65] ++ [v12] ++ [V.bl true]))) := fun b o e => by
      rw [upd_ne (ne_of_none e nH7)]
      exact z14 _ _ (S12 _ _ e)
    have g14 : (upd H14 p7 (.lst ([v2, v4, V.int 65] ++ [v12] ++ [V.bl true]))) p7 = some (.lst ([v2, v4, V.int 65] ++ [v12] ++ [V.bl true])) := upd_same
    generalize upd H14 p7 (.lst ([v2, v4, V.int 65] ++ [v12] ++ [V.bl true])) = H15 at l14 a4 S14 g14 ⊢
    -- what is due
    refine ⟨_, rfl, _, rfl, _, rfl, _, _, rfl, rfl, (by show 2 ≤ sizeLine; decide), fun q1 k1 => ⟨_, rfl, _, rfl, (by show 2 ≤ sizeLine; decide), fun q2 k2 => ⟨_, rfl, _, rfl, _, rfl, ?_⟩⟩⟩
    have bG : G.natAbs < 2 ^ 200 := by rw [← hG]; decide
    refine ⟨_, _, rfl, rfl, W2 bG bG (by decide), _, _, rfl, rfl, (by show 2 ≤ sizeLine; decide), fun q3 k3 => ⟨(by show 5 ≤ sizeLine; decide), fun q4 k4 => ?_⟩⟩
    have w1 := same_new (o := .tup [.int G, .int (G - 1)]) k1
    have w2 := same_new (o := .tup [.int (-G), .int 1]) k2
    have w3 := same_new (o := .tup [.int (G - G * G), .int 1]) k3
    have l16 := l14.same w1
    have l17 := l16.same w2
    have l18 := l17.same w3
    have dd := new_lst (K := K) l18 k4 (.cons (dp_ex (new_num l14 k1) (w2.trans w3)) (.cons (dp_ex (new_num l16 k2) w3) (.cons (.int 65) (.cons (new_num l17 k3) (.cons (.bl true) .nil)))))
    have w4 := w1.trans (w2.trans w3)
    refine ⟨_, _, .list [nD (G, G - 1), nD (-G, 1), .int 65, nD (G - G * G, 1), .bool true], rfl, ?_, dd.un, ?_, rfl, k _ (S14.trans (w4.trans (same_new k4)))⟩
    · exact .lst (.inl (.inl ((w4.trans (same_new k4)) _ _ g14))) (a4.un.ext (w4.trans (same_new k4)))
    · subst hG
      exact ⟨by decide +kernel, by decide +kernel, by decide +kernel, by decide +kernel⟩
end
end My

set_option Elab.async false
set_option linter.all false
set_option maxRecDepth 100000
set_option maxHeartbeats 4000000
set_option exponentiation.threshold 20000
namespace My
open PySem PySem.Spec PyProof.Rows L2
section
variable {P : Program} {w : World} {K : PySem.W.Frag} {mg : Str → Option Value} {base : Heap} {t1 t2 t3 : Tok} {f : Addr} {fd : FuncData} {ad : Ads} {av : Str → Addr}
theorem mkE {H0 : Hp} {e dx C : Addr} {fs : List (Str × V)} (h1 : H0 e = none) (h2 : (upd H0 e (exo e C none)) dx = none) (h3 : dx ≠ e) : Same H0 (upd (upd (upd H0 e (exo e C none)) dx (exd dx fs)) e (exo e C (some dx))) ∧
    (upd (upd (upd H0 e (exo e C none)) dx (exd dx fs)) e (exo e C (some dx))) e = some (exo e C (some dx)) ∧ (upd (upd (upd H0 e (exo e C none)) dx (exd dx fs)) e (exo e C (some dx))) dx = some (exd dx fs) := by
  refine ⟨fun b o eb => ?_, upd_same, by rw [upd_ne h3, upd_same]⟩
  have x1 : b ≠ e := ne_of_none eb h1
  have x2 : b ≠ dx := ne_of_none (by rw [upd_ne x1]; exact eb) h2
  rw [upd_ne x1, upd_ne x2, upd_ne x1]
  exact eb
theorem dp_bools {H : Hp} {f : Nat → Bool} : ∀ l : List Nat, DpAll K H (l.map fun j => V.bl (f j)) (l.map fun j => PyData.bool (f j))
  | [] => .nil
  | j :: l => .cons (.bl _) (dp_bools l)
theorem for_enumL {K : PySem.W.Frag} {a : Addr} {xs : List V} {g : TG} {tb : TS} {D : Ends} {σ : L2.St} {H : Hp} (Pv : Nat → L2.St → Hp → Prop) (h0 : Pv 0 σ H) (hl : ∀ i σ H, Pv i σ H → SqL K H a xs)
    (hs : ∀ i x σ H, xs[i]? = some x → Pv i σ H → ∀ T, H T = none → g (.ref T) σ (upd H T (.tup [.int (i : Nat), x])) fun σ2 H2 => tb { D with nx := Pv (i + 1), ct := Pv (i + 1), bk := D.nx } σ2 H2) (hd : ∀ σ H, Pv xs.length σ H → D.nx σ H) :
    ∃ W : Nat → Nat → L2.St → Hp → Prop, (∃ m, W 0 m σ H) ∧ ∀ i m σ H, W i m σ H →
      ((Ite K a).stop i H ∧ D.nx σ H) ∨ ((Ite K a).go i H ∧ ∃ N : L2.St → Hp → Prop, (∀ σ' H', N σ' H' → ∃ m', m' < m ∧ W (i + 1) m' σ' H') ∧
        ∀ x H', (Ite K a).yld i H x H' → g x σ H' fun σ2 H2 => tb { D with nx := N, ct := N, bk := D.nx } σ2 H2) := by
  refine ⟨fun i m σ H => m = xs.length - i ∧ i ≤ xs.length ∧ Pv i σ H, ⟨xs.length, by simp, Nat.zero_le _, h0⟩, ?_⟩
  rintro i m σ H ⟨rfl, hi, p⟩
  have q := hl i σ H p
  by_cases hlt : i < xs.length
  · have hx : xs[i]? = some (xs[i]) := List.getElem?_eq_getElem _
    refine .inr ⟨⟨xs, _, q, hx⟩, Pv (i + 1), fun σ' H' p' => ⟨xs.length - (i + 1), by omega, rfl, hlt, p'⟩, fun v H' y => ?_⟩
    obtain ⟨T, x, rfl, nT, rfl, y⟩ := y
    exact hs i x σ H (y xs q) p T nT
  · have e : i = xs.length := by omega
    subst e
    exact .inl ⟨⟨xs, q, Nat.le_refl _⟩, hd σ H p⟩
theorem ok__law_errors (F : Fun K "_law_errors" "_law_errors" s__law_errors f fd) (T : Txt K mg t1 t2 t3) (EV : Evs P w K mg base av) (C__law_like : CeG P w K mg base CX0 1 "_law_like" ["got", "due"] (sp_law_like K)) :
    FnG P w K mg base CX0 6 f fd [] (sp_true K) := by
  refine fun_g F sc__law_errors (fun vs H Q E h => ?_) (fun cdv A outer s H vs Q E hcdv hgd hr h => ?_)
  · obtain ⟨rfl, _⟩ := h
    rfl
  · obtain ⟨rfl, N, l, k⟩ := h
    have hgd : (A.deeper (envOfC "_law_errors" (defScope s__law_errors) s.heap.objs.size f cdv)).guards = some [] := hgd
    refine ⟨_, (pss_cons (ps_set (i := 0) sc__law_errors.nd rfl (Or.inl rfl) (pe_lst (pa_cons (pe_evK EV.v_BadNumber (hr.mono (by decide)) (pk_cons (pe_lst (pa_cons pe_int pa_nil)) pk_nil)) (pa_cons (pe_evK EV.v_BadStep (hr.mono (by decide)) (pk_cons pe_int pk_nil)) (pa_cons (pe_evK EV.v_BadRow (hr.mono (by decide)) (pk_cons pe_int pk_nil)) (pa_cons (pe_evK EV.v_BadParameter (hr.mono (by decide)) (pk_cons pe_int pk_nil)) (pa_cons (pe_evK EV.v_BadIndex (hr.mono (by decide)) (pk_cons pe_int pk_nil)) pa_nil)))))))
      (pss_cons (ps_set (i := 0) sc__law_errors.nd rfl (Or.inl rfl) (pe_op op_cat (pv 0) (pe_lst (pa_cons (pe_evK EV.v_BadText (hr.mono (by decide)) (pk_cons pe_int (pk_cons pe_int pk_nil))) (pa_cons (pe_evK EV.v_BadDeed (hr.mono (by decide)) (pk_cons pe_int pk_nil)) (pa_cons (pe_exc0 PySem.F.excBase_ValueError EV.n_NoRow.q EV.n_NoRow.g EV.n_NoRow.k) (pa_cons (pe_evK EV.v_Unlike (hr.mono (by decide)) (pk_cons pe_int pk_nil)) (pa_cons (pe_evK EV.v_TooGreat (hr.mono (by decide)) (pk_cons pe_int pk_nil)) (pa_cons (pe_exc0 PySem.F.excBase_ValueError EV.n_NothingBack.q EV.n_NothingBack.g EV.n_NothingBack.k) pa_nil)))))))))
      (pss_cons (ps_set (i := 1) sc__law_errors.nd rfl (Or.inl rfl) (pe_lst (pa_cons (pe_atV (pe_ix ix_list (pv 0) pe_int (fun _ _ => rfl))) (pa_cons (pe_atV (pe_ix ix_list (pv 0) pe_int (fun _ _ => rfl))) (pa_cons (pe_atV (pe_ix ix_list (pv 0) pe_int (fun _ _ => rfl))) (pa_cons (pe_atV (pe_ix ix_list (pv 0) pe_int (fun _ _ => rfl))) (pa_cons (pe_atV (pe_ix ix_list (pv 0) pe_int (fun _ _ => rfl))) (pa_cons (pe_atV (pe_ix ix_list (pv 0) pe_int (fun _ _ => rfl))) (pa_cons (pe_atV (pe_ix ix_list (pv 0) pe_int (fun _ _ => rfl))) pa_nil)))))))))
      (pss_cons (ps_set (i := 1) sc__law_errors.nd rfl (Or.inl rfl) (pe_op op_cat (pv 1) (pe_lst (pa_cons (pe_atV (pe_ix ix_list (pv 0) pe_int (fun _ _ => rfl))) (pa_cons (pe_atV (pe_ix ix_list (pv 0) pe_int (fun _ _ => rfl))) (pa_cons (pe_atV (pe_ix ix_list (pv 0) pe_int (fun _ _ => rfl))) pa_nil))))))
      (pss_cons (ps_if (pt_not (pt_val (pe_ceG C__law_like (hr.mono (by decide)) hgd pass0 (pa_cons (pv 1) (pa_cons (pe_lst (pa_cons (pe_lst (pa_cons pe_int pa_nil)) (pa_cons pe_int (pa_cons pe_int (pa_cons pe_int (pa_cons pe_int (pa_cons pe_int (pa_cons pe_int (pa_cons pe_int (pa_cons pe_int (pa_cons pe_int pa_nil))))))))))) pa_nil))))) (pss_one (ps_ret pe_bl)) pss_nil)
      (pss_cons (ps_for PassesOwn.never rfl (pi_enum (by rfl) T.f_enumerate (pa_cons (pv 0) pa_nil)) (pg_tup rfl (pgs_cons (pg_name (i := 2) sc__law_errors.nd rfl (Or.inr rfl)) (pgs_cons (pg_name (i := 3) sc__law_errors.nd rfl (Or.inl rfl)) pgs_nil)))
      (pss_cons (ps_if (PW.pt (pw_or (pt_not (pt_val (pe_callB call_isV (by rfl) T.f_isinstance (by decide +kernel) (pa_cons (pv 3) (pa_cons (pe_glob (v := .ref (av "StepError")) rfl EV.g_StepError rfl) pa_nil))))) (pw_or1 (pt_not (pt_val (pe_callB call_isV (by rfl) T.f_isinstance (by decide +kernel) (pa_cons (pv 3) (pa_cons (pe_bltn (v := .ty "ValueError") rfl T.f_ValueError (by decide +kernel) rfl) pa_nil)))))))) (pss_one (ps_ret pe_bl)) pss_nil)
      (pss_cons (ps_set (i := 4) sc__law_errors.nd rfl (Or.inl rfl) (pe_lst (pa_cons (pe_callB call_isV (by rfl) T.f_isinstance (by decide +kernel) (pa_cons (pv 3) (pa_cons (pe_glob (v := .ref (av "BadNumber")) rfl EV.v_BadNumber.g rfl) pa_nil))) (pa_cons (pe_callB call_isV (by rfl) T.f_isinstance (by decide +kernel) (pa_cons (pv 3) (pa_cons (pe_glob (v := .ref (av "BadStep")) rfl EV.v_BadStep.g rfl) pa_nil))) (pa_cons (pe_callB call_isV (by rfl) T.f_isinstance (by decide +kernel) (pa_cons (pv 3) (pa_cons (pe_glob (v := .ref (av "BadRow")) rfl EV.v_BadRow.g rfl) pa_nil))) pa_nil)))))
      (pss_cons (ps_set (i := 4) sc__law_errors.nd rfl (Or.inl rfl) (pe_op op_cat (pv 4) (pe_lst (pa_cons (pe_callB call_isV (by rfl) T.f_isinstance (by decide +kernel) (pa_cons (pv 3) (pa_cons (pe_glob (v := .ref (av "BadParameter")) rfl EV.v_BadParameter.g rfl) pa_nil))) (pa_cons (pe_callB call_isV (by rfl) T.f_isinstance (by decide +kernel) (pa_cons (pv 3) (pa_cons (pe_glob (v := .ref (av "BadIndex")) rfl EV.v_BadIndex.g rfl) pa_nil))) (pa_cons (pe_callB call_isV (by rfl) T.f_isinstance (by decide +kernel) (pa_cons (pv 3) (pa_cons (pe_glob (v := .ref (av "BadText")) rfl EV.v_BadText.g rfl) pa_nil))) pa_nil))))))
      (pss_cons (ps_set (i := 4) sc__law_errors.nd rfl (Or.inl rfl) (pe_op op_cat (pv 4) (pe_lst (pa_cons (pe_callB call_isV (by rfl) T.f_isinstance (by decide +kernel) (pa_cons (pv 3) (pa_cons (pe_glob (v := .ref (av "BadDeed")) rfl EV.v_BadDeed.g rfl) pa_nil))) (pa_cons (pe_callB call_isV (by rfl) T.f_isinstance (by decide +kernel) (pa_cons (pv 3) (pa_cons (pe_glob (v := .ref (av "NoRow")) rfl EV.n_NoRow.g rfl) pa_nil))) (pa_cons (pe_callB call_isV (by rfl) T.f_isinstance (by decide +kernel) (pa_cons (pv 3) (pa_cons (pe_glob (v := .ref (av "Unlike")) rfl EV.v_Unlike.g rfl) pa_nil))) pa_nil))))))
      (pss_cons (ps_set (i := 4) sc__law_errors.nd rfl (Or.inl rfl) (pe_op op_cat (pv 4) (pe_lst (pa_cons (pe_callB call_isV (by rfl) T.f_isinstance (by decide +kernel) (pa_cons (pv 3) (pa_cons (pe_glob (v := .ref (av "TooGreat")) rfl EV.v_TooGreat.g rfl) pa_nil))) (pa_cons (pe_callB call_isV (by rfl) T.f_isinstance (by decide +kernel) (pa_cons (pv 3) (pa_cons (pe_glob (v := .ref (av "NothingBack")) rfl EV.n_NothingBack.g rfl) pa_nil))) pa_nil)))))
      (pss_one (ps_if (pt_not (pt_val (pe_ceG C__law_like (hr.mono (by decide)) hgd pass0 (pa_cons (pv 4) (pa_cons (pe_lc (own := [("k", 5)]) (g := gName 5) rfl sc__law_errors.nd (pi_range1 rfl T.f_range (pa_cons pe_int pa_nil)) (blkOk_by (N := ["some", "got", "at", "item", "told", "k"]) (sc := defScope s__law_errors) (by decide +kernel)) (fun _ _ _ _ _ => by exact (pg_name (i := 5) sc__law_errors.nd rfl (Or.inl rfl))) (fun _ _ _ _ _ => by exact pts_nil) (fun _ _ _ _ _ => by exact (pe_cmpR op_eq (pv 5) (pv 2) (nomark _)))) pa_nil))))) (pss_one (ps_ret pe_bl)) pss_nil))))))))
      (pss_one (ps_ret pe_bl)))))))), ?_⟩
    refine ⟨(by show 1 ≤ sizeLine; decide), fun p0 n0 => ?_⟩
    have z0 := same_new (o := .lst [V.int 1]) n0
    have c0 : (upd H p0 (.lst [V.int 1])) p0 = some (.lst [V.int 1]) := upd_same
    generalize upd H p0 (.lst [V.int 1]) = I0 at z0 c0 ⊢
    refine ⟨(by show 1 ≤ 1000; decide), fun e0 f0 => ⟨e0, _, _, rfl, EV.v_BadNumber.oc, EV.x_BadNumber.2, upd_same, fun d0 g0 h0 => ⟨rfl, ?_⟩⟩⟩
    obtain ⟨m0, a0, b0⟩ := mkE (C := av "BadNumber") (fs := [("value", V.ref p0)]) f0 g0 h0
    generalize upd (upd (upd I0 e0 (exo e0 (av "BadNumber") none)) d0 (exd d0 [("value", V.ref p0)])) e0 (exo e0 (av "BadNumber") (some d0)) = J0 at m0 a0 b0 ⊢
    refine ⟨(by show 1 ≤ 1000; decide), fun e1 f1 => ⟨e1, _, _, rfl, EV.v_BadStep.oc, EV.x_BadStep.2, upd_same, fun d1 g1 h1 => ⟨rfl, ?_⟩⟩⟩
    obtain ⟨m1, a1, b1⟩ := mkE (C := av "BadStep") (fs := [("value", V.int 2)]) f1 g1 h1
    generalize upd (upd (upd J0 e1 (exo e1 (av "BadStep") none)) d1 (exd d1 [("value", V.int 2)])) e1 (exo e1 (av "BadStep") (some d1)) = J1 at m1 a1 b1 ⊢
    refine ⟨(by show 1 ≤ 1000; decide), fun e2 f2 => ⟨e2, _, _, rfl, EV.v_BadRow.oc, EV.x_BadRow.2, upd_same, fun d2 g2 h2 => ⟨rfl, ?_⟩⟩⟩
    obtain ⟨m2, a2, b2⟩ := mkE (C := av "BadRow") (fs := [("place", V.int 3)]) f2 g2 h2
    generalize upd (upd (upd J1 e2 (exo e2 (av "BadRow") none)) d2 (exd d2 [("place", V.int 3)])) e2 (exo e2 (av "BadRow") (some d2)) = J2 at m2 a2 b2 ⊢
    refine ⟨(by show 1 ≤ 1000; decide), fun e3 f3 => ⟨e3, _, _, rfl, EV.v_BadParameter.oc, EV.x_BadParameter.2, upd_same, fun d3 g3 h3 => ⟨rfl, ?_⟩⟩⟩
    obtain ⟨m3, a3, b3⟩ := mkE (C := av "BadParameter") (fs := [("value", V.int 4)]) f3 g3 h3
    generalize upd (upd (upd J2 e3 (exo e3 (av "BadParameter") none)) d3 (exd d3 [("value", V.int 4)])) e3 (exo e3 (av "BadParameter") (some d3)) = J3 at m3 a3 b3 ⊢
    refine ⟨(by show 1 ≤ 1000; decide), fun e4 f4 => ⟨e4, _, _, rfl, EV.v_BadIndex.oc, EV.x_BadIndex.2, upd_same, fun d4 g4 h4 => ⟨rfl, ?_⟩⟩⟩
    obtain ⟨m4, a4, b4⟩ := mkE (C := av "BadIndex") (fs := [("value", V.int 5)]) f4 g4 h4
    generalize upd (upd (upd J3 e4 (exo e4 (av "BadIndex") none)) d4 (exd d4 [("value", V.int 5)])) e4 (exo e4 (av "BadIndex") (some d4)) = J4 at m4 a4 b4 ⊢
    refine ⟨(by show 5 ≤ sizeLine; decide), fun p1 n1 => ?_⟩
    have z1 := same_new (o := .lst [V.ref e0, V.ref e1, V.ref e2, V.ref e3, V.ref e4]) n1
    have c1 : (upd J4 p1 (.lst [V.ref e0, V.ref e1, V.ref e2, V.ref e3, V.ref e4])) p1 = some (.lst [V.ref e0, V.ref e1, V.ref e2, V.ref e3, V.ref e4]) := upd_same
    change gName 0 (V.ref p1) _ (upd J4 p1 (.lst [V.ref e0, V.ref e1, V.ref e2, V.ref e3, V.ref e4])) _
    generalize upd J4 p1 (.lst [V.ref e0, V.ref e1, V.ref e2, V.ref e3, V.ref e4]) = I1 at z1 c1 ⊢
    refine ⟨_, rfl, ?_⟩
    refine ⟨(by show 2 ≤ 1000; decide), fun e5 f5 => ⟨e5, _, _, _, rfl, EV.v_BadText.oc, EV.x_BadText.2.1, EV.x_BadText.2.2, upd_same, fun d5 g5 h5 => ⟨rfl, ?_⟩⟩⟩
    obtain ⟨m5, a5, b5⟩ := mkE (C := av "BadText") (fs := [("word", V.int 7), ("line", V.int 6)]) f5 g5 h5
    generalize upd (upd (upd I1 e5 (exo e5 (av "BadText") none)) d5 (exd d5 [("word", V.int 7), ("line", V.int 6)])) e5 (exo e5 (av "BadText") (some d5)) = J5 at m5 a5 b5 ⊢
    refine ⟨(by show 1 ≤ 1000; decide), fun e6 f6 => ⟨e6, _, _, rfl, EV.v_BadDeed.oc, EV.x_BadDeed.2, upd_same, fun d6 g6 h6 => ⟨rfl, ?_⟩⟩⟩
    obtain ⟨m6, a6, b6⟩ := mkE (C := av "BadDeed") (fs := [("place", V.int 8)]) f6 g6 h6
    generalize upd (upd (upd J5 e6 (exo e6 (av "BadDeed") none)) d6 (exd d6 [("place", V.int 8)])) e6 (exo e6 (av "BadDeed") (some d6)) = J6 at m6 a6 b6 ⊢
    refine fun e7 f7 => ?_
    have m7 := same_new (o := ExO (.ref (av "NoRow")) e7) f7
    have a7 : (upd J6 e7 (ExO (.ref (av "NoRow")) e7)) e7 = some (ExO (.ref (av "NoRow")) e7) := upd_same
    generalize upd J6 e7 (ExO (.ref (av "NoRow")) e7) = J7 at m7 a7 ⊢
    refine ⟨(by show 1 ≤ 1000; decide), fun e8 f8 => ⟨e8, _, _, rfl, EV.v_Unlike.oc, EV.x_Unlike.2, upd_same, fun d8 g8 h8 => ⟨rfl, ?_⟩⟩⟩
    obtain ⟨m8, a8, b8⟩ := mkE (C := av "Unlike") (fs := [("value", V.int 9)]) f8 g8 h8
    generalize upd (upd (upd J7 e8 (exo e8 (av "Unlike") none)) d8 (exd d8 [("value", V.int 9)])) e8 (exo e8 (av "Unlike") (some d8)) = J8 at m8 a8 b8 ⊢
    refine ⟨(by show 1 ≤ 1000; decide), fun e9 f9 => ⟨e9, _, _, rfl, EV.v_TooGreat.oc, EV.x_TooGreat.2, upd_same, fun d9 g9 h9 => ⟨rfl, ?_⟩⟩⟩
    obtain ⟨m9, a9, b9⟩ := mkE (C := av "TooGreat") (fs := [("most", V.int 10)]) f9 g9 h9
    generalize upd (upd (upd J8 e9 (exo e9 (av "TooGreat") none)) d9 (exd d9 [("most", V.int 10)])) e9 (exo e9 (av "TooGreat") (some d9)) = J9 at m9 a9 b9 ⊢
    refine fun e10 f10 => ?_
    have m10 := same_new (o := ExO (.ref (av "NothingBack")) e10) f10
    have a10 : (upd J9 e10 (ExO (.ref (av "NothingBack")) e10)) e10 = some (ExO (.ref (av "NothingBack")) e10) := upd_same
    generalize upd J9 e10 (ExO (.ref (av "NothingBack")) e10) = J10 at m10 a10 ⊢
    refine ⟨(by show 6 ≤ sizeLine; decide), fun p2 n2 => ?_⟩
    have z2 := same_new (o := .lst [V.ref e5, V.ref e6, V.ref e7, V.ref e8, V.ref e9, V.ref e10]) n2
    have u5 := m5.trans (m6.trans (m7.trans (m8.trans (m9.trans (m10.trans z2)))))
    refine ⟨p1, p2, _, [V.ref e5, V.ref e6, V.ref e7, V.ref e8, V.ref e9, V.ref e10], rfl, rfl, u5 _ _ c1, upd_same, (by show 5 + 6 ≤ sizeLine; decide), fun p3 n3 => ?_⟩
    have z3 := same_new (o := .lst [V.ref e0, V.ref e1, V.ref e2, V.ref e3, V.ref e4, V.ref e5, V.ref e6, V.ref e7, V.ref e8, V.ref e9, V.ref e10]) n3
    have c3 : (upd (upd J10 p2 (.lst [V.ref e5, V.ref e6, V.ref e7, V.ref e8, V.ref e9, V.ref e10])) p3 (.lst [V.ref e0, V.ref e1, V.ref e2, V.ref e3, V.ref e4, V.ref e5, V.ref e6, V.ref e7, V.ref e8, V.ref e9, V.ref e10])) p3 = some (.lst [V.ref e0, V.ref e1, V.ref e2, V.ref e3, V.ref e4, V.ref e5, V.ref e6, V.ref e7, V.ref e8, V.ref e9, V.ref e10]) := upd_same
    change gName 0 (V.ref p3) _ (upd (upd J10 p2 (.lst [V.ref e5, V.ref e6, V.ref e7, V.ref e8, V.ref e9, V.ref e10])) p3 (.lst [V.ref e0, V.ref e1, V.ref e2, V.ref e3, V.ref e4, V.ref e5, V.ref e6, V.ref e7, V.ref e8, V.ref e9, V.ref e10])) _
    have w10 := z2.trans z3
    generalize upd (upd J10 p2 (.lst [V.ref e5, V.ref e6, V.ref e7, V.ref e8, V.ref e9, V.ref e10])) p3 (.lst [V.ref e0, V.ref e1, V.ref e2, V.ref e3, V.ref e4, V.ref e5, V.ref e6, V.ref e7, V.ref e8, V.ref e9, V.ref e10]) = I3 at w10 c3 ⊢
    have w9 := m10.trans w10
    have w8 := m9.trans w9
    have w7 := m8.trans w8
    have w6 := m7.trans w7
    have w5 := m6.trans w6
    have w4 := z1.trans (m5.trans w5)
    have w3 := m4.trans w4
    have w2 := m3.trans w3
    have w1 := m2.trans w2
    have w0 := m1.trans w1
    have wI := m0.trans w0
    have S3 := z0.trans wI
    have a0 := w0 _ _ a0
    have b0 := w0 _ _ b0
    have a1 := w1 _ _ a1
    have b1 := w1 _ _ b1
    have a2 := w2 _ _ a2
    have b2 := w2 _ _ b2
    have a3 := w3 _ _ a3
    have b3 := w3 _ _ b3
    have a4 := w4 _ _ a4
    have b4 := w4 _ _ b4
    have a5 := w5 _ _ a5
    have b5 := w5 _ _ b5
    have a6 := w6 _ _ a6
    have b6 := w6 _ _ b6
    have a7 := w7 _ _ a7
    have a8 := w8 _ _ a8
    have b8 := w8 _ _ b8
    have a9 := w9 _ _ a9
    have b9 := w9 _ _ b9
    have a10 := w10 _ _ a10
    have c0 := wI _ _ c0
    have hs3 : SqL K I3 p3 [V.ref e0, V.ref e1, V.ref e2, V.ref e3, V.ref e4, V.ref e5, V.ref e6, V.ref e7, V.ref e8, V.ref e9, V.ref e10] := .inl (.inl c3)
    clear z0 z1 z2 z3 m0 m1 m2 m3 m4 m5 m6 m7 m8 m9 m10 w0 w1 w2 w3 w4 w5 w6 w7 w8 w9 w10 u5 wI c1
    refine ⟨_, rfl, p3, _, 0, _, rfl, rfl, hs3, atI_nat (j := 0) rfl, e0, _, d0, _, _, rfl, EV.x_BadNumber.1, EV.x_BadNumber.2, a0, b0, rfl, ?_⟩
    refine ⟨_, rfl, p3, _, 1, _, rfl, rfl, hs3, atI_nat (j := 1) rfl, e1, _, d1, _, _, rfl, EV.x_BadStep.1, EV.x_BadStep.2, a1, b1, rfl, ?_⟩
    refine ⟨_, rfl, p3, _, 2, _, rfl, rfl, hs3, atI_nat (j := 2) rfl, e2, _, d2, _, _, rfl, EV.x_BadRow.1, EV.x_BadRow.2, a2, b2, rfl, ?_⟩
    refine ⟨_, rfl, p3, _, 3, _, rfl, rfl, hs3, atI_nat (j := 3) rfl, e3, _, d3, _, _, rfl, EV.x_BadParameter.1, EV.x_BadParameter.2, a3, b3, rfl, ?_⟩
    refine ⟨_, rfl, p3, _, 4, _, rfl, rfl, hs3, atI_nat (j := 4) rfl, e4, _, d4, _, _, rfl, EV.x_BadIndex.1, EV.x_BadIndex.2, a4, b4, rfl, ?_⟩
    refine ⟨_, rfl, p3, _, 5, _, rfl, rfl, hs3, atI_nat (j := 5) rfl, e5, _, d5, _, _, rfl, EV.x_BadText.1, EV.x_BadText.2.1, a5, b5, rfl, ?_⟩
    refine ⟨_, rfl, p3, _, 5, _, rfl, rfl, hs3, atI_nat (j := 5) rfl, e5, _, d5, _, _, rfl, EV.x_BadText.1, EV.x_BadText.2.2, a5, b5, rfl, ?_⟩
    refine ⟨(by show 7 ≤ sizeLine; decide), fun p4 n4 => ?_⟩
    have z4 := same_new (o := .lst [V.ref p0, V.int 2, V.int 3, V.int 4, V.int 5, V.int 6, V.int 7]) n4
    have c4 : (upd I3 p4 (.lst [V.ref p0, V.int 2, V.int 3, V.int 4, V.int 5, V.int 6, V.int 7])) p4 = some (.lst [V.ref p0, V.int 2, V.int 3, V.int 4, V.int 5, V.int 6, V.int 7]) := upd_same
    change gName 1 (V.ref p4) _ (upd I3 p4 (.lst [V.ref p0, V.int 2, V.int 3, V.int 4, V.int 5, V.int 6, V.int 7])) _
    generalize upd I3 p4 (.lst [V.ref p0, V.int 2, V.int 3, V.int 4, V.int 5, V.int 6, V.int 7]) = I4 at z4 c4 ⊢
    have a0 := z4 _ _ a0
    have b0 := z4 _ _ b0
    have a1 := z4 _ _ a1
    have b1 := z4 _ _ b1
    have a2 := z4 _ _ a2
    have b2 := z4 _ _ b2
    have a3 := z4 _ _ a3
    have b3 := z4 _ _ b3
    have a4 := z4 _ _ a4
    have b4 := z4 _ _ b4
    have a5 := z4 _ _ a5
    have b5 := z4 _ _ b5
    have a6 := z4 _ _ a6
    have b6 := z4 _ _ b6
    have a7 := z4 _ _ a7
    have a8 := z4 _ _ a8
    have b8 := z4 _ _ b8
    have a9 := z4 _ _ a9
    have b9 := z4 _ _ b9
    have a10 := z4 _ _ a10
    have c0 := z4 _ _ c0
    have hs4 := lst_same z4 hs3
    have S4 := S3.trans z4
    refine ⟨_, rfl, ?_⟩
    refine ⟨_, rfl, p3, _, 6, _, rfl, rfl, hs4, atI_nat (j := 6) rfl, e6, _, d6, _, _, rfl, EV.x_BadDeed.1, EV.x_BadDeed.2, a6, b6, rfl, ?_⟩
    refine ⟨_, rfl, p3, _, 8, _, rfl, rfl, hs4, atI_nat (j := 8) rfl, e8, _, d8, _, _, rfl, EV.x_Unlike.1, EV.x_Unlike.2, a8, b8, rfl, ?_⟩
    refine ⟨_, rfl, p3, _, 9, _, rfl, rfl, hs4, atI_nat (j := 9) rfl, e9, _, d9, _, _, rfl, EV.x_TooGreat.1, EV.x_TooGreat.2, a9, b9, rfl, ?_⟩
    refine ⟨(by show 3 ≤ sizeLine; decide), fun p5 n5 => ?_⟩
    refine ⟨p4, p5, _, [V.int 8, V.int 9, V.int 10], rfl, rfl, (same_new n5) _ _ c4, upd_same, (by show 7 + 3 ≤ sizeLine; decide), fun p6 n6 => ?_⟩
    have z6 := (same_new (o := .lst [V.int 8, V.int 9, V.int 10]) n5).trans (same_new (o := .lst [V.ref p0, V.int 2, V.int 3, V.int 4, V.int 5, V.int 6, V.int 7, V.int 8, V.int 9, V.int 10]) n6)
    have c6 : (upd (upd I4 p5 (.lst [V.int 8, V.int 9, V.int 10])) p6 (.lst [V.ref p0, V.int 2, V.int 3, V.int 4, V.int 5, V.int 6, V.int 7, V.int 8, V.int 9, V.int 10])) p6 = some (.lst [V.ref p0, V.int 2, V.int 3, V.int 4, V.int 5, V.int 6, V.int 7, V.int 8, V.int 9, V.int 10]) := upd_same
    change gName 1 (V.ref p6) _ (upd (upd I4 p5 (.lst [V.int 8, V.int 9, V.int 10])) p6 (.lst [V.ref p0, V.int 2, V.int 3, V.int 4, V.int 5, V.int 6, V.int 7, V.int 8, V.int 9, V.int 10])) _
    generalize upd (upd I4 p5 (.lst [V.int 8, V.int 9, V.int 10])) p6 (.lst [V.ref p0, V.int 2, V.int 3, V.int 4, V.int 5, V.int 6, V.int 7, V.int 8, V.int 9, V.int 10]) = I6 at z6 c6 ⊢
    refine ⟨_, rfl, (by show 1 ≤ sizeLine; decide), fun p7 n7 => ⟨(by show 10 ≤ sizeLine; decide), fun p8 n8 => ?_⟩⟩
    have y7 := same_new (o := .lst [V.int 1]) n7
    have z8 := z6.trans (y7.trans (same_new (o := .lst (V.ref p7 :: [V.int 2, V.int 3, V.int 4, V.int 5, V.int 6, V.int 7, V.int 8, V.int 9, V.int 10])) n8))
    refine ⟨_, _, .list (.list [.int 1] :: ([2, 3, 4, 5, 6, 7, 8, 9, 10] : List Int).map PyData.int), rfl, ?_, ?_, ⟨by decide +kernel, by decide +kernel, by decide +kernel, by decide +kernel⟩, rfl, ?_⟩
    · refine .lst (.inl (.inl ((y7.trans (same_new n8)) _ _ c6))) (.cons (.lst (.inl (.inl (z8 _ _ c0))) (DpAll.ints [1])) (DpAll.ints [2, 3, 4, 5, 6, 7, 8, 9, 10]))
    · exact .lst (.inl (.inl upd_same)) (.cons (.lst (.inl (.inl (same_new n8 _ _ upd_same))) (DpAll.ints [1])) (DpAll.ints [2, 3, 4, 5, 6, 7, 8, 9, 10]))
    refine ⟨_, rfl, iteF ?_⟩
    have S8 := S4.trans z8
    have l8 := l.same S8
    have hs8 := lst_same z8 hs4
    generalize hI8 : upd (upd I6 p7 _) p8 _ = I8 at z8 S8 l8 hs8 ⊢
    have a0 := z8 _ _ a0
    have b0 := z8 _ _ b0
    have a1 := z8 _ _ a1
    have b1 := z8 _ _ b1
    have a2 := z8 _ _ a2
    have b2 := z8 _ _ b2
    have a3 := z8 _ _ a3
    have b3 := z8 _ _ b3
    have a4 := z8 _ _ a4
    have b4 := z8 _ _ b4
    have a5 := z8 _ _ a5
    have b5 := z8 _ _ b5
    have a6 := z8 _ _ a6
    have b6 := z8 _ _ b6
    have a7 := z8 _ _ a7
    have a8 := z8 _ _ a8
    have b8 := z8 _ _ b8
    have a9 := z8 _ _ a9
    have b9 := z8 _ _ b9
    have a10 := z8 _ _ a10
    have hE : ∀ (i : Nat) (y : V), [V.ref e0, V.ref e1, V.ref e2, V.ref e3, V.ref e4, V.ref e5, V.ref e6, V.ref e7, V.ref e8, V.ref e9, V.ref e10][i]? = some y → ∃ (x : Str) (e : Addr), errs[i]? = some x ∧ y = V.ref e ∧ ((∃ dx fs, I8 e = some (exo e (av x) (some dx)) ∧ I8 dx = some (exd dx fs)) ∨ I8 e = some (ExO (.ref (av x)) e)) := by
      intro i y hy
      match i, hy with
      | 0, hy => exact ⟨"BadNumber", e0, rfl, (Option.some.inj hy).symm, .inl ⟨_, _, a0, b0⟩⟩
      | 1, hy => exact ⟨"BadStep", e1, rfl, (Option.some.inj hy).symm, .inl ⟨_, _, a1, b1⟩⟩
      | 2, hy => exact ⟨"BadRow", e2, rfl, (Option.some.inj hy).symm, .inl ⟨_, _, a2, b2⟩⟩
      | 3, hy => exact ⟨"BadParameter", e3, rfl, (Option.some.inj hy).symm, .inl ⟨_, _, a3, b3⟩⟩
      | 4, hy => exact ⟨"BadIndex", e4, rfl, (Option.some.inj hy).symm, .inl ⟨_, _, a4, b4⟩⟩
      | 5, hy => exact ⟨"BadText", e5, rfl, (Option.some.inj hy).symm, .inl ⟨_, _, a5, b5⟩⟩
      | 6, hy => exact ⟨"BadDeed", e6, rfl, (Option.some.inj hy).symm, .inl ⟨_, _, a6, b6⟩⟩
      | 7, hy => exact ⟨"NoRow", e7, rfl, (Option.some.inj hy).symm, .inr a7⟩
      | 8, hy => exact ⟨"Unlike", e8, rfl, (Option.some.inj hy).symm, .inl ⟨_, _, a8, b8⟩⟩
      | 9, hy => exact ⟨"TooGreat", e9, rfl, (Option.some.inj hy).symm, .inl ⟨_, _, a9, b9⟩⟩
      | 10, hy => exact ⟨"NothingBack", e10, rfl, (Option.some.inj hy).symm, .inr a10⟩
      | i + 11, hy => simp at hy
    clear a0 a1 a2 a3 a4 a5 a6 a7 a8 a9 a10 b0 b1 b2 b3 b4 b5 b6 b8 b9
    refine ⟨_, rfl, p3, _, rfl, hs8, for_enumL (K := K) (a := p3) (xs := [V.ref e0, V.ref e1, V.ref e2, V.ref e3, V.ref e4, V.ref e5, V.ref e6, V.ref e7, V.ref e8, V.ref e9, V.ref e10]) (fun i σ H9 => Same I8 H9 ∧ ∃ o1 o2 o3 o4, σ = [some (.ref p3), o1, o2, o3, o4, none])
      ⟨Same.refl _, _, _, _, _, rfl⟩ (fun i σ H9 h => lst_same h.1 hs8) ?_ ?_⟩
    · rintro i y σ H9 hy ⟨S9, o1, o2, o3, o4, rfl⟩ p9 n9
      obtain ⟨x, e, hx, rfl, hV⟩ := hE i y hy
      have hxm : x ∈ errs := mem_of_get hx
      have y9 := same_new (o := .tup [.int (i : Nat), .ref e]) n9
      have q9 : (upd H9 p9 (.tup [.int (i : Nat), .ref e])) p9 = some (.tup [.int (i : Nat), .ref e]) := upd_same
      have S10 := S9.trans y9
      refine ⟨p9, _, rfl, .inl (.inl q9), rfl, _, _, rfl, _, _, rfl, rfl, ?_⟩
      generalize upd H9 p9 (.tup [.int (i : Nat), .ref e]) = H10 at S10 ⊢
      have hv : ∀ {H'}, Same H10 H' → ((∃ dx fs, H' e = some (exo e (av x) (some dx)) ∧ H' dx = some (exd dx fs)) ∨ H' e = some (ExO (.ref (av x)) e)) := fun {H'} s => by
        rcases hV with ⟨dx, fs, v1, v2⟩ | v1
        · exact .inl ⟨dx, fs, s _ _ (S10 _ _ v1), s _ _ (S10 _ _ v2)⟩
        · exact .inr (s _ _ (S10 _ _ v1))
      refine ⟨_, rfl, e, av x, _, _, true, rfl, fun u r => r, (EV.kitS _ hxm).1, EV.ec _ hxm, hv (Same.refl _), _, rfl, ?_⟩
      refine iteF ?_
      refine ⟨_, rfl, e, av x, _, _, true, rfl, fun u r => r, (EV.kitS _ hxm).2, EV.ec _ hxm, hv (Same.refl _), _, rfl, ?_⟩
      refine iteF ?_
      refine ⟨_, rfl, e, av x, _, _, decide (i = 0), rfl, fun u r => r, EV.kit i 0 _ _ hx rfl, EV.ec _ hxm, hv (Same.refl _), ?_⟩
      refine ⟨_, rfl, e, av x, _, _, decide (i = 1), rfl, fun u r => r, EV.kit i 1 _ _ hx rfl, EV.ec _ hxm, hv (Same.refl _), ?_⟩
      refine ⟨_, rfl, e, av x, _, _, decide (i = 2), rfl, fun u r => r, EV.kit i 2 _ _ hx rfl, EV.ec _ hxm, hv (Same.refl _), ?_⟩
      refine ⟨(by show 3 ≤ sizeLine; decide), fun r0 rn0 => ?_⟩
      have x0 := same_new (o := .lst [V.bl (decide (i = 0)), V.bl (decide (i = 1)), V.bl (decide (i = 2))]) rn0
      have k0 : (upd H10 r0 (.lst [V.bl (decide (i = 0)), V.bl (decide (i = 1)), V.bl (decide (i = 2))])) r0 = some (.lst [V.bl (decide (i = 0)), V.bl (decide (i = 1)), V.bl (decide (i = 2))]) := upd_same
      change gName 4 (V.ref r0) _ (upd H10 r0 (.lst [V.bl (decide (i = 0)), V.bl (decide (i = 1)), V.bl (decide (i = 2))])) _
      generalize upd H10 r0 (.lst [V.bl (decide (i = 0)), V.bl (decide (i = 1)), V.bl (decide (i = 2))]) = G0 at x0 k0 ⊢
      refine ⟨_, rfl, ?_⟩
      refine ⟨_, rfl, e, av x, _, _, decide (i = 3), rfl, fun u r => r, EV.kit i 3 _ _ hx rfl, EV.ec _ hxm, hv (x0), ?_⟩
      refine ⟨_, rfl, e, av x, _, _, decide (i = 4), rfl, fun u r => r, EV.kit i 4 _ _ hx rfl, EV.ec _ hxm, hv (x0), ?_⟩
      refine ⟨_, rfl, e, av x, _, _, decide (i = 5), rfl, fun u r => r, EV.kit i 5 _ _ hx rfl, EV.ec _ hxm, hv (x0), ?_⟩
      refine ⟨(by show 3 ≤ sizeLine; decide), fun ra1 rna1 => ?_⟩
      refine ⟨r0, ra1, _, [V.bl (decide (i = 3)), V.bl (decide (i = 4)), V.bl (decide (i = 5))], rfl, rfl, same_new rna1 _ _ k0, upd_same, (by show 3 + 3 ≤ sizeLine; decide), fun r1 rn1 => ?_⟩
      have x1 := x0.trans ((same_new (o := .lst [V.bl (decide (i = 3)), V.bl (decide (i = 4)), V.bl (decide (i = 5))]) rna1).trans (same_new (o := .lst [V.bl (decide (i = 0)), V.bl (decide (i = 1)), V.bl (decide (i = 2)), V.bl (decide (i = 3)), V.bl (decide (i = 4)), V.bl (decide (i = 5))]) rn1))
      have k1 : (upd (upd G0 ra1 (.lst [V.bl (decide (i = 3)), V.bl (decide (i = 4)), V.bl (decide (i = 5))])) r1 (.lst [V.bl (decide (i = 0)), V.bl (decide (i = 1)), V.bl (decide (i = 2)), V.bl (decide (i = 3)), V.bl (decide (i = 4)), V.bl (decide (i = 5))])) r1 = some (.lst [V.bl (decide (i = 0)), V.bl (decide (i = 1)), V.bl (decide (i = 2)), V.bl (decide (i = 3)), V.bl (decide (i = 4)), V.bl (decide (i = 5))]) := upd_same
      change gName 4 (V.ref r1) _ (upd (upd G0 ra1 (.lst [V.bl (decide (i = 3)), V.bl (decide (i = 4)), V.bl (decide (i = 5))])) r1 (.lst [V.bl (decide (i = 0)), V.bl (decide (i = 1)), V.bl (decide (i = 2)), V.bl (decide (i = 3)), V.bl (decide (i = 4)), V.bl (decide (i = 5))])) _
      generalize upd (upd G0 ra1 (.lst [V.bl (decide (i = 3)), V.bl (decide (i = 4)), V.bl (decide (i = 5))])) r1 (.lst [V.bl (decide (i = 0)), V.bl (decide (i = 1)), V.bl (decide (i = 2)), V.bl (decide (i = 3)), V.bl (decide (i = 4)), V.bl (decide (i = 5))]) = G1 at x1 k1 ⊢
      refine ⟨_, rfl, ?_⟩
      refine ⟨_, rfl, e, av x, _, _, decide (i = 6), rfl, fun u r => r, EV.kit i 6 _ _ hx rfl, EV.ec _ hxm, hv (x1), ?_⟩
      refine ⟨_, rfl, e, av x, _, _, decide (i = 7), rfl, fun u r => r, EV.kit i 7 _ _ hx rfl, EV.ec _ hxm, hv (x1), ?_⟩
      refine ⟨_, rfl, e, av x, _, _, decide (i = 8), rfl, fun u r => r, EV.kit i 8 _ _ hx rfl, EV.ec _ hxm, hv (x1), ?_⟩
      refine ⟨(by show 3 ≤ sizeLine; decide), fun ra2 rna2 => ?_⟩
      refine ⟨r1, ra2, _, [V.bl (decide (i = 6)), V.bl (decide (i = 7)), V.bl (decide (i = 8))], rfl, rfl, same_new rna2 _ _ k1, upd_same, (by show 6 + 3 ≤ sizeLine; decide), fun r2 rn2 => ?_⟩
      have x2 := x1.trans ((same_new (o := .lst [V.bl (decide (i = 6)), V.bl (decide (i = 7)), V.bl (decide (i = 8))]) rna2).trans (same_new (o := .lst [V.bl (decide (i = 0)), V.bl (decide (i = 1)), V.bl (decide (i = 2)), V.bl (decide (i = 3)), V.bl (decide (i = 4)), V.bl (decide (i = 5)), V.bl (decide (i = 6)), V.bl (decide (i = 7)), V.bl (decide (i = 8))]) rn2))
      have k2 : (upd (upd G1 ra2 (.lst [V.bl (decide (i = 6)), V.bl (decide (i = 7)), V.bl (decide (i = 8))])) r2 (.lst [V.bl (decide (i = 0)), V.bl (decide (i = 1)), V.bl (decide (i = 2)), V.bl (decide (i = 3)), V.bl (decide (i = 4)), V.bl (decide (i = 5)), V.bl (decide (i = 6)), V.bl (decide (i = 7)), V.bl (decide (i = 8))])) r2 = some (.lst [V.bl (decide (i = 0)), V.bl (decide (i = 1)), V.bl (decide (i = 2)), V.bl (decide (i = 3)), V.bl (decide (i = 4)), V.bl (decide (i = 5)), V.bl (decide (i = 6)), V.bl (decide (i = 7)), V.bl (decide (i = 8))]) := upd_same
      change gName 4 (V.ref r2) _ (upd (upd G1 ra2 (.lst [V.bl (decide (i = 6)), V.bl (decide (i = 7)), V.bl (decide (i = 8))])) r2 (.lst [V.bl (decide (i = 0)), V.bl (decide (i = 1)), V.bl (decide (i = 2)), V.bl (decide (i = 3)), V.bl (decide (i = 4)), V.bl (decide (i = 5)), V.bl (decide (i = 6)), V.bl (decide (i = 7)), V.bl (decide (i = 8))])) _
      generalize upd (upd G1 ra2 (.lst [V.bl (decide (i = 6)), V.bl (decide (i = 7)), V.bl (decide (i = 8))])) r2 (.lst [V.bl (decide (i = 0)), V.bl (decide (i = 1)), V.bl (decide (i = 2)), V.bl (decide (i = 3)), V.bl (decide (i = 4)), V.bl (decide (i = 5)), V.bl (decide (i = 6)), V.bl (decide (i = 7)), V.bl (decide (i = 8))]) = G2 at x2 k2 ⊢
      refine ⟨_, rfl, ?_⟩
      refine ⟨_, rfl, e, av x, _, _, decide (i = 9), rfl, fun u r => r, EV.kit i 9 _ _ hx rfl, EV.ec _ hxm, hv (x2), ?_⟩
      refine ⟨_, rfl, e, av x, _, _, decide (i = 10), rfl, fun u r => r, EV.kit i 10 _ _ hx rfl, EV.ec _ hxm, hv (x2), ?_⟩
      refine ⟨(by show 2 ≤ sizeLine; decide), fun ra3 rna3 => ?_⟩
      refine ⟨r2, ra3, _, [V.bl (decide (i = 9)), V.bl (decide (i = 10))], rfl, rfl, same_new rna3 _ _ k2, upd_same, (by show 9 + 2 ≤ sizeLine; decide), fun r3 rn3 => ?_⟩
      have x3 := x2.trans ((same_new (o := .lst [V.bl (decide (i = 9)), V.bl (decide (i = 10))]) rna3).trans (same_new (o := .lst [V.bl (decide (i = 0)), V.bl (decide (i = 1)), V.bl (decide (i = 2)), V.bl (decide (i = 3)), V.bl (decide (i = 4)), V.bl (decide (i = 5)), V.bl (decide (i = 6)), V.bl (decide (i = 7)), V.bl (decide (i = 8)), V.bl (decide (i = 9)), V.bl (decide (i = 10))]) rn3))
      have k3 : (upd (upd G2 ra3 (.lst [V.bl (decide (i = 9)), V.bl (decide (i = 10))])) r3 (.lst [V.bl (decide (i = 0)), V.bl (decide (i = 1)), V.bl (decide (i = 2)), V.bl (decide (i = 3)), V.bl (decide (i = 4)), V.bl (decide (i = 5)), V.bl (decide (i = 6)), V.bl (decide (i = 7)), V.bl (decide (i = 8)), V.bl (decide (i = 9)), V.bl (decide (i = 10))])) r3 = some (.lst [V.bl (decide (i = 0)), V.bl (decide (i = 1)), V.bl (decide (i = 2)), V.bl (decide (i = 3)), V.bl (decide (i = 4)), V.bl (decide (i = 5)), V.bl (decide (i = 6)), V.bl (decide (i = 7)), V.bl (decide (i = 8)), V.bl (decide (i = 9)), V.bl (decide (i = 10))]) := upd_same
      change gName 4 (V.ref r3) _ (upd (upd G2 ra3 (.lst [V.bl (decide (i = 9)), V.bl (decide (i = 10))])) r3 (.lst [V.bl (decide (i = 0)), V.bl (decide (i = 1)), V.bl (decide (i = 2)), V.bl (decide (i = 3)), V.bl (decide (i = 4)), V.bl (decide (i = 5)), V.bl (decide (i = 6)), V.bl (decide (i = 7)), V.bl (decide (i = 8)), V.bl (decide (i = 9)), V.bl (decide (i = 10))])) _
      generalize upd (upd G2 ra3 (.lst [V.bl (decide (i = 9)), V.bl (decide (i = 10))])) r3 (.lst [V.bl (decide (i = 0)), V.bl (decide (i = 1)), V.bl (decide (i = 2)), V.bl (decide (i = 3)), V.bl (decide (i = 4)), V.bl (decide (i = 5)), V.bl (decide (i = 6)), V.bl (decide (i = 7)), V.bl (decide (i = 8)), V.bl (decide (i = 9)), V.bl (decide (i = 10))]) = G3 at x3 k3 ⊢
      refine ⟨_, rfl, 11, rfl, by decide, by decide, fun D hD => ?_⟩
      refine lc_range (lo := 0) (n := 11) (fun j H' => H' = upd G3 D (.lst ((List.range j).map fun j => V.bl (decide (i = j))))) rfl ?_ ?_
      · rintro j H' hj rfl
        refine ⟨rfl, ?_⟩
        dsimp only [tYes]
        rw [if_pos rfl]
        refine ⟨_, rfl, _, rfl, rfl, _, upd_same, small1000 (by rw [List.length_map, List.length_range]; omega), ?_⟩
        have e1 : decide (V.int (0 + (j : Int)) = V.int (i : Int)) = decide (i = j) := by
          rw [decide_eq_decide]
          constructor
          · intro z
            injection z with z
            omega
          · intro z
            rw [z, Int.zero_add]
        rw [upd_upd, e1, List.range_succ, List.map_append]
        rfl
      · rintro H' rfl
        have x5 := same_new (o := .lst ((List.range 11).map fun j => V.bl (decide (i = j)))) hD
        have S11 : Same I8 _ := S10.trans (x3.trans x5)
        refine ⟨_, _, .list ((List.range 11).map fun j => .bool (decide (i = j))), rfl, .lst (.inl (.inl (x5 _ _ k3))) (dp_bools (f := fun j => decide (i = j)) (List.range 11)), .lst (.inl (.inl upd_same)) (dp_bools (List.range 11)), ?_, rfl, ?_⟩
        · refine (sh_lst (n := 1921) (k := 0) (fun d hd => ?_)).mono (by rw [List.length_map, List.length_range]; decide) (by decide)
          obtain ⟨j, _, rfl⟩ := List.mem_map.mp hd
          exact sh_bool
        · exact ⟨_, rfl, iteF ⟨S11, _, _, _, _, rfl⟩⟩
    · rintro σ H9 ⟨S9, o1, o2, o3, o4, rfl⟩
      exact k _ (S8.trans S9)
end
end My

set_option Elab.async false
set_option linter.all false
set_option maxRecDepth 100000
set_option maxHeartbeats 8000000
set_option exponentiation.threshold 20000
namespace My
open PySem PySem.Spec PyProof.Rows L2 LamX
/-! ### calls within a lambda -/
section
variable {X : Cx}
theorem passLam {A : Around} {outer : List Env} {s : Shared} {H : Hp} {E : XK} {scope : Scope} {f c' : Addr} : Passes (L2.CX X.prog X.w) (lamCx X A outer s H E scope f c') E :=
  passes_call (takes_of rfl rfl rfl rfl) (fun _ _ _ _ h => h)
theorem passLam2 {A : Around} {outer : List Env} {s : Shared} {H : Hp} {E : XK} {scope : Scope} {f c' : Addr} : Passes (L2.CX (lamCx X A outer s H E scope f c').prog (lamCx X A outer s H E scope f c').w) (lamCx X A outer s H E scope f c') E := @passLam X A outer s H E scope f c'
def Heldx (P : Program) (w : World) (K : PySem.W.Frag) (mg : Str → Option Value) (base : Heap) (k : Nat) (f : Addr) (sp : Sp) : Prop :=
  ∃ (fd : FuncData) (ps : List Str) (j : Nat), FnOk P w K mg base (L2.CX P w) j f fd ps sp ∧ j ≤ k ∧ PySem.W.keepIn K (.ref f) = true ∧ Binds K fd ps []
def tCallS (i : Nat) (S : Addr → Sp → Prop) (E : XK) (t : TA) : TE := fun σ H Q => ∃ (f : Addr) (sp : Sp), σ[i]? = some (some (.ref f)) ∧ S f sp ∧ t σ H fun vs H1 => sp vs H1 Q E
theorem pe_callS {S : Addr → Sp → Prop} {k i : Nat} {E : XK} {x : Str} {p pos : Pos} {e : Expr} {es : List Expr} {t : TA} (B : ∀ f sp, S f sp → Heldx X.prog X.w X.K X.mg X.base k f sp) (hr : Room k X.A) (hN : X.N[i]? = some x) (hv : Vis X.env.scope x) (hx : Passes (L2.CX X.prog X.w) X E) (ha : PA X (e :: es) t)
    (hdb : (x == ("__debug__" : Str)) = false := by decide) (hcd : (x == ("__classdict__" : Str)) = false := by decide)
    (he : starEach (e :: es) X.env = (false, eval e X.env) :: starEach es X.env := by rfl) (hpl : (backTo pos (starEach es X.env)).any (·.1) = false := by rfl) : PE X (.Call (.Name x p) (e :: es) [] pos) (tCallS i S E t) := by
  refine ⟨fun pins s σ H Q I h => ?_⟩
  obtain ⟨f, sp, hs, hS, ht⟩ := h
  obtain ⟨fd, ps, j, F, hj, hk, hb⟩ := B f sp hS
  refine (pe_callL (i := i) (f := f) (sp := sp) (dvs := []) (E := E) F (hr.mono hj) hN hv hk hb .nil hx ha hdb hcd he hpl).run pins s σ H Q I ⟨hs, ?_⟩
  have e0 : (fun (vs : List V) (H1 : Hp) => sp (vs ++ []) H1 Q E) = fun vs H1 => sp vs H1 Q E := by
    funext vs H1
    rw [List.append_nil]
  show t σ H (fun vs H1 => sp (vs ++ []) H1 Q E)
  rw [e0]
  exact ht
end
/-! ### data, all but the tables kept -/
theorem ExtN.of_cut {N : List Addr} {H H' : Hp} (e : ExtN H H') : ExtN (cut N H) (cut N H') := fun a o h n => by
  by_cases z : a ∈ N
  · rw [cut_in z] at h; cases h
  · rw [cut_out z] at h ⊢
    exact e a o h n
theorem lst_extN {K : PySem.W.Frag} {H H' : Hp} {a : Addr} {xs : List V} (e : ExtN H H') (h : SqL K H a xs) : SqL K H' a xs := by
  rcases h with (h | ⟨o, h⟩) | h
  · exact .inl (.inl (e _ _ h (fun ps z => by cases z)))
  · exact .inl (.inr ⟨o, e _ _ h (fun ps z => by cases z)⟩)
  · exact .inr h
theorem tup_extN {K : PySem.W.Frag} {H H' : Hp} {a : Addr} {xs : List V} (e : ExtN H H') (h : SqT K H a xs) : SqT K H' a xs := by
  rcases h with (h | ⟨o, h⟩) | h
  · exact .inl (.inl (e _ _ h (fun ps z => by cases z)))
  · exact .inl (.inr ⟨o, e _ _ h (fun ps z => by cases z)⟩)
  · exact .inr h
mutual
theorem dp_extN {K : PySem.W.Frag} {H H' : Hp} (e : ExtN H H') : ∀ (d : PyData) (v : V), Dp K H v d → Dp K H' v d
  | .none, _, h => by cases h; exact .non
  | .bool b, _, h => by cases h; exact .bl b
  | .int b, _, h => by cases h; exact .int b
  | .str b, _, h => by cases h; exact .str b
  | .list ds, _, h => by
    obtain ⟨a, xs, rfl, h1, h2⟩ := Dp.lstI h
    exact .lst (lst_extN e h1) (dpAll_extN e ds _ h2)
  | .tuple ds, _, h => by
    obtain ⟨a, xs, rfl, h1, h2⟩ := Dp.tupI h
    exact .tup (tup_extN e h1) (dpAll_extN e ds _ h2)
  | .dict _, _, h => by cases h
theorem dpAll_extN {K : PySem.W.Frag} {H H' : Hp} (e : ExtN H H') : ∀ (ds : List PyData) (vs : List V), DpAll K H vs ds → DpAll K H' vs ds
  | [], _, h => by cases h; exact .nil
  | d :: ds, _, h => by
    cases h with
    | cons a b => exact .cons (dp_extN e d _ a) (dpAll_extN e ds _ b)
end
/-- a lambda's parameters: none -/
abbrev noArgs : Arguments := { posonlyargs := [], args := [], vararg := none, kwonlyargs := [], kw_defaults := [], kwarg := none, defaults := [] }
def T0 (PP : Addr) : List (Addr × Str) := [(PP, (Str.ofString "_law_refused" ++ Str.ofString ".<locals>.") ++ Str.ofString "<lambda>")]
/-- the state and the table of code -/
structure Wd (K : PySem.W.Frag) (pd pl PP : Addr) (H : Hp) (m : Nat) : Prop where
  st : St K [pd, pl, PP] H pd pl m
  tb : Tabs (T0 PP) H
theorem Wd.live {K : PySem.W.Frag} {pd pl PP : Addr} {H : Hp} {m : Nat} (W : Wd K pd pl PP H m) : Live [pd, pl, PP] H := fun a ha => by
  obtain ⟨pc, cells, lefts, n, e1, e2, _⟩ := W.st.ex
  obtain ⟨ps, e3, _⟩ := W.tb _ List.mem_cons_self
  simp only [List.mem_cons, List.not_mem_nil, or_false] at ha
  rcases ha with z | z | z
  · rw [z, e1]; simp
  · rw [z, e2]; simp
  · rw [z]
    have e3 : H PP = some (.tbl ps) := e3
    rw [e3]; simp
theorem Wd.extN {K : PySem.W.Frag} {pd pl PP : Addr} {H H' : Hp} {m : Nat} (W : Wd K pd pl PP H m) (e : ExtN H H') (t : Tabs (T0 PP) H') : Wd K pd pl PP H' m := by
  obtain ⟨pc, cells, lefts, n, e1, e2, e3, e4⟩ := W.st.ex
  exact ⟨⟨W.st.md, W.st.ml, pc, cells, lefts, n, e _ _ e1 (fun ps z => by cases z), e _ _ e2 (fun ps z => by cases z), lst_extN (ExtN.of_cut e) e3, e4⟩, t⟩
theorem Wd.same {K : PySem.W.Frag} {pd pl PP : Addr} {H H' : Hp} {m : Nat} (W : Wd K pd pl PP H m) (s : Same H H') : Wd K pd pl PP H' m := ⟨W.st.same s, W.tb.ext s⟩
theorem Wd.chg {K : PySem.W.Frag} {pd pl PP : Addr} {H H' : Hp} {m m' : Nat} (W : Wd K pd pl PP H m) (c : Chg pd pl H H') (S : St K [pd, pl, PP] H' pd pl m') : Wd K pd pl PP H' m' := by
  obtain ⟨pc, cells, lefts, n, e1, e2, _⟩ := W.st.ex
  refine ⟨S, fun p hp => ?_⟩
  obtain ⟨ps, h1, h2, h3⟩ := W.tb p hp
  refine ⟨ps, c _ _ (ne_of h1 e1 (by intro z; cases z)) (ne_of h1 e2 (by intro z; cases z)) h1, h2, fun pos cv hc => ?_⟩
  obtain ⟨a, rfl, ha⟩ := h3 pos cv hc
  exact ⟨a, rfl, c _ _ (ne_of ha e1 (by intro z; cases z)) (ne_of ha e2 (by intro z; cases z)) ha⟩
theorem Wd.more {K : PySem.W.Frag} {pd pl PP : Addr} {H : Hp} {m m' : Nat} (W : Wd K pd pl PP H m) (h : m ≤ m') : Wd K pd pl PP H m' := ⟨W.st.more h, W.tb⟩
section
variable {P : Program} {w : World} {K : PySem.W.Frag} {mg : Str → Option Value} {base : Heap} {t1 t2 t3 : Tok} {f : Addr} {fd : FuncData} {ad : Ads} {gr c PP : Addr} {fdr : FuncData}
theorem degOut_er {d : PyData} (h : isStep d = false) : degOut d = .er .stp d := by unfold degOut; rw [needOut_er h]
theorem headOut_er {d : PyData} (h : isStep d = false) : headOut d = .er .stp d := by unfold headOut; rw [needOut_er h]
theorem plainOut_er {d : PyData} (h : isStep d = false) : plainOut d = .er .stp d := by unfold plainOut; rw [needOut_er h]
theorem repA_any {N : List Addr} {H : Hp} {s1 : Addr} {x : V} {k : Int} {Q : VK} (l : Live N H) (hS : SqT K (cut N H) s1 [x]) (h0 : 0 ≤ k) (h1 : k ≤ 1000)
    (q : ∀ (p : Addr) (H' : Hp), Same H H' → SqT K (cut N H') p (List.replicate k.toNat x) → Q (.ref p) H') : rRepA K (.ref s1) (.int k) H Q := by
  refine ⟨s1, k, [x], rfl, rfl, seq_un hS, by simp, h0, h1, by show 1 ≤ 1000; decide, fun e => ?_, fun e p np => ?_⟩
  · refine q s1 H (Same.refl H) ?_
    rw [e]
    exact hS
  · refine q p _ (same_new np) (.inl (.inl (cut_at (l.new np) ?_)))
    rw [upd_same, flat_one]
theorem catA_any {N : List Addr} {H : Hp} {a b : Addr} {xs ys : List V} {Q : VK} (l : Live N H) (ha : SqT K (cut N H) a xs) (hb : SqT K (cut N H) b ys) (hz : xs.length + ys.length ≤ 1000)
    (q : ∀ (p : Addr) (H' : Hp), Same H H' → SqT K (cut N H') p (xs ++ ys) → Q (.ref p) H') : rCatA K (.ref a) (.ref b) H Q := by
  refine ⟨a, b, xs, ys, rfl, rfl, seq_un ha, seq_un hb, by rw [sizeLine_eq]; omega, fun e => ?_, fun _ e => ?_, fun _ _ p np => ?_⟩
  · refine q b H (Same.refl H) ?_
    rw [e, List.nil_append]
    exact hb
  · refine q a H (Same.refl H) ?_
    rw [e, List.append_nil]
    exact ha
  · exact q p _ (same_new np) (.inl (.inl (cut_at (l.new np) upd_same)))
theorem dp_mem {H : Hp} : ∀ {xs : List V} {ds : List PyData} {v : V}, DpAll K H xs ds → v ∈ xs → ∃ d, d ∈ ds ∧ Dp K H v d
  | _, [], v, h, hv => by cases h; cases hv
  | _, d :: ds, v, h, hv => by
    cases h with
    | cons a b =>
      rcases List.mem_cons.mp hv with z | z
      · exact ⟨d, List.mem_cons_self, by rw [z]; exact a⟩
      · obtain ⟨e, h1, h2⟩ := dp_mem b z
        exact ⟨e, List.mem_cons_of_mem _ h1, h2⟩
theorem sh_tag (e : Er) : Sh 1921 0 (.str e.tag) := by cases e <;> exact sh_of (by decide +kernel)
theorem sh_ref {e : Er} {d : PyData} {n k : Nat} (h : Sh n k d) (hn : 1921 ≤ n) : Sh (2 * (n + 2) + 3) (k + 1) (refD (.er e d)) := by
  refine sh_tup (n := n) (k := k) (ds := [.str e.tag, d]) (fun x hx => ?_)
  simp only [List.mem_cons, List.not_mem_nil, or_false] at hx
  rcases hx with z | z
  · rw [z]; exact (sh_tag e).mono hn (Nat.zero_le _)
  · rw [z]; exact h
def sp_law_refused (K : PySem.W.Frag) (PP : Addr) : Sp := fun vs H Q _ => ∃ (pd pl : Addr) (m : Nat), vs = [.ref pd] ∧ Wd K pd pl PP H m ∧ m ≤ 500000 ∧ ∀ H', Wd K pd pl PP H' (m + 200) → Q (.bl true) H'
theorem ok__law_refused (F : Fun K "_law_refused" "_law_refused" s__law_refused f fd) (T : Txt K mg t1 t2 t3) (XS : Exs P w K mg base ad) (XQ : Exq K mg ad)
    (RF : Fun K "_law_refusal" "_law_refusal" s__law_refusal gr fdr) (mR : mg "_law_refusal" = some (.ref gr)) (bR : Binds K fdr ["tell"] []) (TB : TabB base mg c PP) (hc : fd.code = .ref c)
    (C__law_draw : Ce P w K mg base CX0 2 "_law_draw" ["state", "limit"] (sp_law_draw K)) (C__law_of : Ce P w K mg base CX0 3 "_law_of" ["state", "some"] (sp_law_of K))
    (C__law_step : Ce P w K mg base CX0 4 "_law_step" ["state", "size", "widest", "below"] (sp_law_step K)) (C__law_power : Ce P w K mg base CX0 1 "_law_power" ["size"] (sp_law_power K))
    (C_need_number : Ce P w K mg base (L2.CX P w) 4 "need_number" ["value"] (sp_need isNum .num ad K)) (C_need_step : Ce P w K mg base (L2.CX P w) 4 "need_step" ["value"] (sp_need isStep .stp ad K))
    (C_degree_of : Ce P w K mg base (L2.CX P w) 5 "degree_of" ["step"] (sp_out1 degOut ad K)) (C_head_of : Ce P w K mg base (L2.CX P w) 5 "head_of" ["step"] (sp_out1 headOut ad K))
    (C_is_plain : Ce P w K mg base (L2.CX P w) 5 "is_plain" ["step"] (sp_out1 plainOut ad K)) (C_value_at : Ce P w K mg base (L2.CX P w) 5 "value_at" ["step", "number"] (sp_value_at ad K))
    (C_need_row : Ce P w K mg base (L2.CX P w) 5 "need_row" ["value"] (sp_out1 rowOut ad K)) (C__law_like : CeG P w K mg base CX0 1 "_law_like" ["got", "due"] (sp_law_like K)) :
    FnG P w K mg base CX0 8 f fd ["state"] (sp_law_refused K PP) := by
  refine fun_g F sc__law_refused (fun vs H Q E h => ?_) (fun cdv A outer s H vs Q E hcdv hgd hr h => ?_)
  · obtain ⟨pd, pl, m, rfl, _⟩ := h
    rfl
  · obtain ⟨pd, pl, m, rfl, W, hm, k⟩ := h
    rw [hc] at hcdv
    subst hcdv
    have hgd : (A.deeper (envOfC "_law_refused" (defScope s__law_refused) s.heap.objs.size f (.ref c))).guards = some [] := hgd
    obtain ⟨a_need_step, fd1, F1, kp1, b1, g_need_step⟩ := id C_need_step
    obtain ⟨a_degree_of, fd2, F2, kp2, b2, g_degree_of⟩ := id C_degree_of
    obtain ⟨a_head_of, fd3, F3, kp3, b3, g_head_of⟩ := id C_head_of
    obtain ⟨a_is_plain, fd4, F4, kp4, b4, g_is_plain⟩ := id C_is_plain
    have HS : ∀ f sp, ((f = a_need_step ∧ sp = sp_need isStep .stp ad K) ∨ (f = a_degree_of ∧ sp = sp_out1 degOut ad K) ∨ (f = a_head_of ∧ sp = sp_out1 headOut ad K) ∨ (f = a_is_plain ∧ sp = sp_out1 plainOut ad K)) → Heldx P w K mg base 5 f sp := by
      rintro f sp (⟨rfl, rfl⟩ | ⟨rfl, rfl⟩ | ⟨rfl, rfl⟩ | ⟨rfl, rfl⟩)
      · exact ⟨_, _, 4, F1, by decide, kp1, b1⟩
      · exact ⟨_, _, 5, F2, by decide, kp2, b2⟩
      · exact ⟨_, _, 5, F3, by decide, kp3, b3⟩
      · exact ⟨_, _, 5, F4, by decide, kp4, b4⟩
    have hm0 : (PP, (cxOf CX0 P w K mg base ["state", "odd", "good", "lot", "bad", "tell", "at", "row_so", "none_so", "due"] "_law_refused" (defScope s__law_refused) f (.ref c) A outer s H E).nox.env.qual ++ Str.ofString "<lambda>") ∈ T0 PP := by
      show (PP, (Str.ofString "_law_refused" ++ Str.ofString ".<locals>.") ++ Str.ofString "<lambda>") ∈ T0 PP
      exact List.mem_cons_self
    have hu0 : ∀ p ∈ T0 PP, p.1 = PP → p.2 = (cxOf CX0 P w K mg base ["state", "odd", "good", "lot", "bad", "tell", "at", "row_so", "none_so", "due"] "_law_refused" (defScope s__law_refused) f (.ref c) A outer s H E).nox.env.qual ++ Str.ofString "<lambda>" := fun p hp _ => by
      show p.2 = (Str.ofString "_law_refused" ++ Str.ofString ".<locals>.") ++ Str.ofString "<lambda>"
      rw [List.mem_singleton.mp hp]
    have lam : ∀ (e1 : Expr) (p1 p2 p3 : Pos) (sc : Scope) (t : XK → TE), LamS (defScope s__law_refused) sc → (∀ (A2 : Around) (outer2 : List Env) (s2 : Shared) (H2 : Hp) (E2 : XK) (f2 c2 : Addr), Room 5 (A2.deeper (lamEnv (cxOf CX0 P w K mg base ["state", "odd", "good", "lot", "bad", "tell", "at", "row_so", "none_so", "due"] "_law_refused" (defScope s__law_refused) f (.ref c) A outer s H E).nox sc s2.heap.objs.size f2 c2)) →
        PE (lamCx (cxOf CX0 P w K mg base ["state", "odd", "good", "lot", "bad", "tell", "at", "row_so", "none_so", "due"] "_law_refused" (defScope s__law_refused) f (.ref c) A outer s H E).nox A2 outer2 s2 H2 E2 sc f2 c2) e1 (t E2)) →
        PE (cxOf CX0 P w K mg base ["state", "odd", "good", "lot", "bad", "tell", "at", "row_so", "none_so", "due"] "_law_refused" (defScope s__law_refused) f (.ref c) A outer s H E).nox (.Call (.Name "_law_refusal" p1) [.Lambda noArgs e1 sc p2] [] p3) (tLam (T0 PP) (TTref K ad) t) := by
      intro e1 p1 p2 p3 sc t L hb
      exact pe_lamS (T := T0 PP) (TT := TTref K ad) (k := 5) RF mR bR sc__law_refusal rfl (.inl rfl) (fun cdv => gives_refusal XS XQ gr cdv _) TB rfl hm0 hu0 (hr.mono (by decide)) L rfl (fun _ _ _ _ _ => rfl) hb
    refine ⟨_, (pss_cons (ps_set (i := 1) sc__law_refused.nd rfl (Or.inr rfl) (pe_ce C__law_of (hr.mono (by decide)) pass0 (pa_cons (pv 0) (pa_cons (pe_lst (pa_cons pe_non (pa_cons pe_int (pa_cons (pe_tup (pa_cons pe_int pa_nil)) (pa_cons (pe_tup (pa_cons pe_int (pa_cons pe_int pa_nil))) (pa_cons (pe_tup (pa_cons pe_int (pa_cons pe_int pa_nil))) (pa_cons (pe_tup (pa_cons pe_int (pa_cons (pe_un un_neg pe_int) pa_nil))) (pa_cons (pe_tup (pa_cons pe_int (pa_cons pe_int pa_nil))) (pa_cons (pe_tup (pa_cons pe_bl (pa_cons pe_int pa_nil))) (pa_cons (pe_lst (pa_cons pe_int (pa_cons pe_int pa_nil))) (pa_cons (pe_tup (pa_cons (pe_op op_add (pe_op op_pow pe_int pe_int) pe_int) (pa_cons pe_int pa_nil))) (pa_cons (pe_tup (pa_cons pe_int (pa_cons pe_int (pa_cons pe_int pa_nil)))) pa_nil)))))))))))) pa_nil))))
      (pss_cons (ps_set (i := 2) sc__law_refused.nd rfl (Or.inr rfl) (pe_ce C__law_step (hr.mono (by decide)) pass0 (pa_cons (pv 0) (pa_cons pe_int (pa_cons pe_int (pa_cons pe_int pa_nil))))))
      (pss_cons (ps_if (pt_not (pt_val (pe_ceG C__law_like (hr.mono (by decide)) hgd pass0 (pa_cons (lam _ _ _ _ _ _ (lamS_by (by decide +kernel)) (fun A2 outer2 s2 H2 E2 f2 c2 hr2 => (pe_ce C_need_number (hr2.mono (by decide)) passLam (pa_cons (pv 1) pa_nil)))) (pa_cons (pe_tup (pa_cons pe_str (pa_cons (pv 1) pa_nil))) pa_nil))))) (pss_one (ps_ret pe_bl)) pss_nil)
      (pss_cons (ps_if (pt_not (pt_val (pe_ceG C__law_like (hr.mono (by decide)) hgd pass0 (pa_cons (lam _ _ _ _ _ _ (lamS_by (by decide +kernel)) (fun A2 outer2 s2 H2 E2 f2 c2 hr2 => (pe_ce C_value_at (hr2.mono (by decide)) passLam (pa_cons (pv 2) (pa_cons (pv 1) pa_nil))))) (pa_cons (pe_tup (pa_cons pe_str (pa_cons (pv 1) pa_nil))) pa_nil))))) (pss_one (ps_ret pe_bl)) pss_nil)
      (pss_cons (ps_set (i := 3) sc__law_refused.nd rfl (Or.inl rfl) (pe_lst (pa_cons pe_non (pa_cons (pe_tup pa_nil) (pa_cons (pe_tup (pa_cons (pe_tup (pa_cons pe_int (pa_cons pe_int pa_nil))) pa_nil)) (pa_cons (pe_op op_catA (pe_slice sl_tupA (pv 2) po_none (po_some pe_int)) (pe_tup (pa_cons (pv 1) pa_nil))) (pa_cons (pe_op op_catA (pv 2) (pe_tup (pa_cons (pe_tup (pa_cons pe_int (pa_cons pe_int pa_nil))) pa_nil))) (pa_cons (pe_callTy call_list_of (by rfl) T.f_list (by decide +kernel) (pa_cons (pv 2) pa_nil)) (pa_cons (pe_ce C__law_power (hr.mono (by decide)) pass0 (pa_cons pe_int pa_nil)) (pa_cons (pe_op op_catA (pv 2) (pe_tup (pa_cons (pv 1) (pa_cons (pe_tup (pa_cons pe_int (pa_cons pe_int pa_nil))) pa_nil)))) (pa_cons pe_int pa_nil)))))))))))
      (pss_cons (ps_set (i := 4) sc__law_refused.nd rfl (Or.inr rfl) (pe_ce C__law_of (hr.mono (by decide)) pass0 (pa_cons (pv 0) (pa_cons (pv 3) pa_nil))))
      (pss_cons (ps_for PassesOwn.never rfl (pi_tup (pe_tup (pa_cons (pe_glob (v := .ref a_need_step) rfl g_need_step rfl) (pa_cons (pe_glob (v := .ref a_degree_of) rfl g_degree_of rfl) (pa_cons (pe_glob (v := .ref a_head_of) rfl g_head_of rfl) (pa_cons (pe_glob (v := .ref a_is_plain) rfl g_is_plain rfl) pa_nil)))))) (pg_name (i := 5) sc__law_refused.nd rfl (Or.inr rfl))
      (pss_one (ps_if (pt_not (pt_val (pe_ceG C__law_like (hr.mono (by decide)) hgd pass0 (pa_cons (lam _ _ _ _ _ _ (lamS_by (by decide +kernel)) (fun A2 outer2 s2 H2 E2 f2 c2 hr2 => (pe_callS (i := 5) (k := 5) HS (by exact hr2.mono (by decide)) (by rfl) (by right; right; rfl) (by exact passLam2) (pa_cons (pv 4) pa_nil)))) (pa_cons (pe_tup (pa_cons pe_str (pa_cons (pv 4) pa_nil))) pa_nil))))) (pss_one (ps_ret pe_bl)) pss_nil)))
      (pss_cons (ps_if (pt_not (pt_val (pe_ceG C__law_like (hr.mono (by decide)) hgd pass0 (pa_cons (lam _ _ _ _ _ _ (lamS_by (by decide +kernel)) (fun A2 outer2 s2 H2 E2 f2 c2 hr2 => (pe_ce C_value_at (hr2.mono (by decide)) passLam (pa_cons (pv 4) (pa_cons (pv 1) pa_nil))))) (pa_cons (pe_tup (pa_cons pe_str (pa_cons (pv 4) pa_nil))) pa_nil))))) (pss_one (ps_ret pe_bl)) pss_nil)
      (pss_cons (ps_set (i := 6) sc__law_refused.nd rfl (Or.inl rfl) (pe_ce C__law_draw (hr.mono (by decide)) pass0 (pa_cons (pv 0) (pa_cons pe_int pa_nil))))
      (pss_cons (ps_set (i := 7) sc__law_refused.nd rfl (Or.inr rfl) (pe_op op_catA (pe_op op_catA (pe_op op_repA (pe_tup (pa_cons (pv 2) pa_nil)) (pv 6)) (pe_tup (pa_cons (pv 4) pa_nil))) (pe_op op_repA (pe_tup (pa_cons (pv 2) pa_nil)) (pe_ce C__law_draw (hr.mono (by decide)) pass0 (pa_cons (pv 0) (pa_cons pe_int pa_nil))))))
      (pss_cons (ps_if (pt_not (pt_val (pe_ceG C__law_like (hr.mono (by decide)) hgd pass0 (pa_cons (lam _ _ _ _ _ _ (lamS_by (by decide +kernel)) (fun A2 outer2 s2 H2 E2 f2 c2 hr2 => (pe_ce C_need_row (hr2.mono (by decide)) passLam (pa_cons (pv 7) pa_nil)))) (pa_cons (pe_tup (pa_cons pe_str (pa_cons (pe_tup (pa_cons (pv 6) pa_nil)) pa_nil))) pa_nil))))) (pss_one (ps_ret pe_bl)) pss_nil)
      (pss_cons (ps_set (i := 8) sc__law_refused.nd rfl (Or.inr rfl) (pe_ce C__law_of (hr.mono (by decide)) pass0 (pa_cons (pv 0) (pa_cons (pe_lst (pa_cons pe_non (pa_cons (pe_tup pa_nil) (pa_cons (pe_lst (pa_cons (pv 2) pa_nil)) (pa_cons (pe_op op_repA (pe_tup (pa_cons (pv 2) pa_nil)) pe_int) (pa_cons (pv 2) (pa_cons pe_int pa_nil))))))) pa_nil))))
      (pss_cons (ps_set (i := 9) sc__law_refused.nd rfl (Or.inl rfl) (pe_ifExp (pt_cmpR (op_eqD (un64 hr)) (pv 8) (pv 2) (nomark _)) (pe_tup (pa_cons pe_str (pa_cons (pe_tup (pa_cons pe_int pa_nil)) pa_nil))) (pe_tup (pa_cons pe_str (pa_cons (pe_tup pa_nil) pa_nil)))))
      (pss_one (ps_ret (pe_ceG C__law_like (hr.mono (by decide)) hgd pass0 (pa_cons (lam _ _ _ _ _ _ (lamS_by (by decide +kernel)) (fun A2 outer2 s2 H2 E2 f2 c2 hr2 => (pe_ce C_need_row (hr2.mono (by decide)) passLam (pa_cons (pv 8) pa_nil)))) (pa_cons (pv 9) pa_nil)))))))))))))))))), ?_⟩
    -- BODY
    have lH := W.live
    refine ⟨_, rfl, ?_⟩
    refine ⟨(by show 1 ≤ sizeLine; decide), fun q1 nq1 => ?_⟩
    generalize eq1 : upd H q1 _ = G1
    have yq1 : Same H G1 := by rw [← eq1]; exact same_new nq1
    have dq1 : Dp K (cut [pd, pl, PP] G1) (.ref q1) (.tuple [.int 1]) := by rw [← eq1]; exact new_tup lH nq1 ((.cons (.int _) .nil))
    have lq1 : Live [pd, pl, PP] G1 := lH.same yq1
    clear eq1
    refine ⟨(by show 2 ≤ sizeLine; decide), fun q2 nq2 => ?_⟩
    generalize eq2 : upd G1 q2 _ = G2
    have yq2 : Same G1 G2 := by rw [← eq2]; exact same_new nq2
    have dq2 : Dp K (cut [pd, pl, PP] G2) (.ref q2) (nD (2, 4)) := by rw [← eq2]; exact new_tup lq1 nq2 ((.cons (.int _) (.cons (.int _) .nil)))
    have lq2 : Live [pd, pl, PP] G2 := lq1.same yq2
    clear eq2
    refine ⟨(by show 2 ≤ sizeLine; decide), fun q3 nq3 => ?_⟩
    generalize eq3 : upd G2 q3 _ = G3
    have yq3 : Same G2 G3 := by rw [← eq3]; exact same_new nq3
    have dq3 : Dp K (cut [pd, pl, PP] G3) (.ref q3) (nD (1, 0)) := by rw [← eq3]; exact new_tup lq2 nq3 ((.cons (.int _) (.cons (.int _) .nil)))
    have lq3 : Live [pd, pl, PP] G3 := lq2.same yq3
    clear eq3
    refine ⟨_, rfl, (by show 2 ≤ sizeLine; decide), fun q4 nq4 => ?_⟩
    generalize eq4 : upd G3 q4 _ = G4
    have yq4 : Same G3 G4 := by rw [← eq4]; exact same_new nq4
    have dq4 : Dp K (cut [pd, pl, PP] G4) (.ref q4) (nD (1, -1)) := by rw [← eq4]; exact new_tup lq3 nq4 ((.cons (.int _) (.cons (.int _) .nil)))
    have lq4 : Live [pd, pl, PP] G4 := lq3.same yq4
    clear eq4
    refine ⟨(by show 2 ≤ sizeLine; decide), fun q5 nq5 => ?_⟩
    generalize eq5 : upd G4 q5 _ = G5
    have yq5 : Same G4 G5 := by rw [← eq5]; exact same_new nq5
    have dq5 : Dp K (cut [pd, pl, PP] G5) (.ref q5) (nD (0, 2)) := by rw [← eq5]; exact new_tup lq4 nq5 ((.cons (.int _) (.cons (.int _) .nil)))
    have lq5 : Live [pd, pl, PP] G5 := lq4.same yq5
    clear eq5
    refine ⟨(by show 2 ≤ sizeLine; decide), fun q6 nq6 => ?_⟩
    generalize eq6 : upd G5 q6 _ = G6
    have yq6 : Same G5 G6 := by rw [← eq6]; exact same_new nq6
    have dq6 : Dp K (cut [pd, pl, PP] G6) (.ref q6) (.tuple [.bool true, .int 1]) := by rw [← eq6]; exact new_tup lq5 nq6 (.cons (.bl true) (.cons (.int 1) .nil))
    have lq6 : Live [pd, pl, PP] G6 := lq5.same yq6
    clear eq6
    refine ⟨(by show 2 ≤ sizeLine; decide), fun q7 nq7 => ?_⟩
    generalize eq7 : upd G6 q7 _ = G7
    have yq7 : Same G6 G7 := by rw [← eq7]; exact same_new nq7
    have dq7 : Dp K (cut [pd, pl, PP] G7) (.ref q7) (.list [.int 1, .int 2]) := by rw [← eq7]; exact new_lst lq6 nq7 ((.cons (.int _) (.cons (.int _) .nil)))
    have lq7 : Live [pd, pl, PP] G7 := lq6.same yq7
    clear eq7
    refine ⟨_, _, rfl, rfl, (by show CPow 10 60; exact ⟨by decide, by decide, by decide⟩), _, _, rfl, rfl, (by show 2 ≤ sizeLine; decide), fun q8 nq8 => ?_⟩
    generalize eq8 : upd G7 q8 _ = G8
    have yq8 : Same G7 G8 := by rw [← eq8]; exact same_new nq8
    have dq8 : Dp K (cut [pd, pl, PP] G8) (.ref q8) (nD (10 ^ 60 + 1, 1)) := by rw [← eq8]; exact new_tup lq7 nq8 ((.cons (.int _) (.cons (.int _) .nil)))
    have lq8 : Live [pd, pl, PP] G8 := lq7.same yq8
    clear eq8
    refine ⟨(by show 3 ≤ sizeLine; decide), fun q9 nq9 => ?_⟩
    generalize eq9 : upd G8 q9 _ = G9
    have yq9 : Same G8 G9 := by rw [← eq9]; exact same_new nq9
    have dq9 : Dp K (cut [pd, pl, PP] G9) (.ref q9) (.tuple [.int 1, .int 2, .int 3]) := by rw [← eq9]; exact new_tup lq8 nq9 ((.cons (.int _) (.cons (.int _) (.cons (.int _) .nil))))
    have lq9 : Live [pd, pl, PP] G9 := lq8.same yq9
    clear eq9
    refine ⟨(by show 11 ≤ sizeLine; decide), fun q10 nq10 => ?_⟩
    have z9 : Same G9 G9 := Same.refl _
    have z8 := yq9.trans z9
    have z7 := yq8.trans z8
    have z6 := yq7.trans z7
    have z5 := yq6.trans z6
    have z4 := yq5.trans z5
    have z3 := yq4.trans z4
    have z2 := yq3.trans z3
    have z1 := yq2.trans z2
    have zH := yq1.trans z1
    have dall : DpAll K (cut [pd, pl, PP] G9) [V.non, .int 1, .ref q1, .ref q2, .ref q3, .ref q4, .ref q5, .ref q6, .ref q7, .ref q8, .ref q9] oddDs := .cons .non (.cons (.int 1) (.cons (dp_ex dq1 z1) (.cons (dp_ex dq2 z2) (.cons (dp_ex dq3 z3) (.cons (dp_ex dq4 z4) (.cons (dp_ex dq5 z5) (.cons (dp_ex dq6 z6) (.cons (dp_ex dq7 z7) (.cons (dp_ex dq8 z8) (.cons (dp_ex dq9 z9) .nil))))))))))
    have W := W.same (zH.trans (same_new (o := .lst [V.non, .int 1, .ref q1, .ref q2, .ref q3, .ref q4, .ref q5, .ref q6, .ref q7, .ref q8, .ref q9]) nq10))
    have dall := dall.ext (Same.cut [pd, pl, PP] (same_new (o := .lst [V.non, .int 1, .ref q1, .ref q2, .ref q3, .ref q4, .ref q5, .ref q6, .ref q7, .ref q8, .ref q9]) nq10))
    refine ⟨[pd, pl, PP], pd, pl, q10, m, _, rfl, W.live, W.st, by omega, .inl (.inl (cut_at (lq9.new nq10) upd_same)), by show 1 ≤ 11; decide, by show 11 ≤ 1000; decide, fun vo HA hvo cA SA => ?_⟩
    have WA := W.chg cA SA
    obtain ⟨dO, hdO, hO⟩ := dp_mem dall hvo
    have hO := hO.ext (cA.cut W.st.md W.st.ml)
    have oO := odd_of hdO
    clear dq1 yq1 lq1 z1 dq2 yq2 lq2 z2 dq3 yq3 lq3 z3 dq4 yq4 lq4 z4 dq5 yq5 lq5 z5 dq6 yq6 lq6 z6 dq7 yq7 lq7 z7 dq8 yq8 lq8 z8 dq9 yq9 lq9 z9 zH dall
    refine ⟨_, rfl, [pd, pl, PP], pd, pl, _, 2, 4, 3, rfl, WA.live, WA.st, by omega, by decide, by decide, by decide, by decide, by decide, fun vg sg HB cB SB hg hs => ?_⟩
    have WB := WA.chg cB SB
    have hO := hO.ext (cB.cut WA.st.md WA.st.ml)
    obtain ⟨g0, g1, g2, rfl⟩ : ∃ g0 g1 g2, sg = [g0, g1, g2] := by
      have hl := hs.len
      match sg, hl with
      | [a, b, e], _ => exact ⟨a, b, e, rfl⟩
    have hst := isStep_of hs (by decide) (by decide) (by decide) (by decide)
    refine ⟨WB.tb, fun Ha eN T1 => ⟨[pd, pl, PP], .er .num dO, (WB.extN eN T1).live, fun E2 R Hb s2 kx => ?_, fun v3 Hd s3 h3 => ?_⟩⟩
    · have lb := ((WB.extN eN T1).same s2).live
      have xb : ExtN HB Hb := eN.trans (ExtN.of s2)
      refine ⟨_, rfl, [pd, pl, PP], vo, dO, rfl, lb, dp_extN (ExtN.of_cut (N := [pd, pl, PP]) xb) _ _ hO, ?_⟩
      rw [needOut_er oO.num]
      exact kx
    refine ⟨_, rfl, (by show 2 ≤ sizeLine; decide), fun p np => ?_⟩
    generalize ep : upd Hd p _ = HC
    have yp : Same Hd HC := by rw [← ep]; exact same_new np
    have x : ExtN HB HC := eN.trans (ExtN.of (s3.trans yp))
    have WB := (WB.extN eN T1).same (s3.trans yp)
    have hO := dp_extN (ExtN.of_cut (N := [pd, pl, PP]) x) _ _ hO
    have hg := dp_extN (ExtN.of_cut (N := [pd, pl, PP]) x) _ _ hg
    have due : Dp K HC (.ref p) (refD (.er .num dO)) := .tup (.inl (.inl (by rw [← ep]; exact upd_same))) (.cons (.str _) (.cons hO.un .nil))
    refine ⟨_, _, refD (.er .num dO), rfl, h3.un.ext yp, due, (sh_ref oO.sh (by decide)).mono (by decide) (by decide), rfl, ⟨_, rfl, iteF ?_⟩⟩
    clear ep yp x due h3 s3 eN T1 np
    refine ⟨WB.tb, fun Ha eN T1 => ⟨[pd, pl, PP], .er .num dO, (WB.extN eN T1).live, fun E2 R Hb s2 kx => ?_, fun v3 Hd s3 h3 => ?_⟩⟩
    · have lb := ((WB.extN eN T1).same s2).live
      have xb : ExtN HC Hb := eN.trans (ExtN.of s2)
      exact ⟨_, rfl, _, rfl, [pd, pl, PP], vg, vo, _, dO, rfl, lb, dp_extN (ExtN.of_cut (N := [pd, pl, PP]) xb) _ _ hg, dp_extN (ExtN.of_cut (N := [pd, pl, PP]) xb) _ _ hO, fun z => (by rw [hst] at z; cases z), fun _ _ => kx, fun _ z => (by rw [oO.num] at z; cases z)⟩
    refine ⟨_, rfl, (by show 2 ≤ sizeLine; decide), fun p np => ?_⟩
    generalize ep : upd Hd p _ = HD
    have yp : Same Hd HD := by rw [← ep]; exact same_new np
    have x : ExtN HC HD := eN.trans (ExtN.of (s3.trans yp))
    have WB := (WB.extN eN T1).same (s3.trans yp)
    have hO := dp_extN (ExtN.of_cut (N := [pd, pl, PP]) x) _ _ hO
    have hg := dp_extN (ExtN.of_cut (N := [pd, pl, PP]) x) _ _ hg
    have due : Dp K HD (.ref p) (refD (.er .num dO)) := .tup (.inl (.inl (by rw [← ep]; exact upd_same))) (.cons (.str _) (.cons hO.un .nil))
    refine ⟨_, _, refD (.er .num dO), rfl, h3.un.ext yp, due, (sh_ref oO.sh (by decide)).mono (by decide) (by decide), rfl, ⟨_, rfl, iteF ?_⟩⟩
    clear ep yp x due h3 s3 eN T1 np
    obtain ⟨ag, xg, rfl, hSg, hDg⟩ := hg.tupI
    obtain ⟨x0, x1, x2, rfl, k0, k1, k2⟩ : ∃ x0 x1 x2, xg = [x0, x1, x2] ∧ Dp K (cut [pd, pl, PP] HD) x0 (nD g0) ∧ Dp K (cut [pd, pl, PP] HD) x1 (nD g1) ∧ Dp K (cut [pd, pl, PP] HD) x2 (nD g2) := by
      cases hDg with
      | cons a hDg => cases hDg with
        | cons b hDg => cases hDg with
          | cons e hDg => cases hDg with
            | nil => exact ⟨_, _, _, rfl, a, b, e⟩
    have lD := WB.live
    refine ⟨Nat.zero_le _, fun r1 nr1 => ?_⟩
    generalize er1 : upd HD r1 _ = I1
    have yr1 : Same HD I1 := by rw [← er1]; exact same_new nr1
    have dr1 : Dp K (cut [pd, pl, PP] I1) (.ref r1) (.tuple []) := by rw [← er1]; exact new_tup lD nr1 (.nil)
    have lr1 : Live [pd, pl, PP] I1 := lD.same yr1
    clear er1
    refine ⟨(by show 2 ≤ sizeLine; decide), fun r2 nr2 => ?_⟩
    generalize er2 : upd I1 r2 _ = I2
    have yr2 : Same I1 I2 := by rw [← er2]; exact same_new nr2
    have dr2 : Dp K (cut [pd, pl, PP] I2) (.ref r2) (nD (1, 1)) := by rw [← er2]; exact new_tup lr1 nr2 ((.cons (.int _) (.cons (.int _) .nil)))
    have lr2 : Live [pd, pl, PP] I2 := lr1.same yr2
    clear er2
    refine ⟨(by show 1 ≤ sizeLine; decide), fun r3 nr3 => ?_⟩
    generalize er3 : upd I2 r3 _ = I3
    have yr3 : Same I2 I3 := by rw [← er3]; exact same_new nr3
    have dr3 : Dp K (cut [pd, pl, PP] I3) (.ref r3) (.tuple [nD (1, 1)]) := by rw [← er3]; exact new_tup lr2 nr3 (.cons dr2 .nil)
    have lr3 : Live [pd, pl, PP] I3 := lr2.same yr3
    clear er3
    have u3 := yr1.trans (yr2.trans yr3)
    refine ⟨_, rfl, 1, rfl, ag, [x0, x1, x2], rfl, seq_same u3 (seq_un hSg), fun z => absurd z (by show ¬(HT.sIx 3 0 none = 0 ∧ HT.sIx 3 3 (some 1) = 3); decide), fun _ r4 nr4 => ?_⟩
    generalize er4 : upd I3 r4 _ = I4
    have yr4 : Same I3 I4 := by rw [← er4]; exact same_new nr4
    have lr4 : Live [pd, pl, PP] I4 := lr3.same yr4
    have cr4 : I4 r4 = some (.tup [x0]) := by rw [← er4]; exact upd_same
    clear er4
    refine ⟨_, rfl, (by show 1 ≤ sizeLine; decide), fun r5 nr5 => ?_⟩
    generalize er5 : upd I4 r5 _ = I5
    have yr5 : Same I4 I5 := by rw [← er5]; exact same_new nr5
    have lr5 : Live [pd, pl, PP] I5 := lr4.same yr5
    have cr5 : I5 r5 = some (.tup [vo]) := by rw [← er5]; exact upd_same
    clear er5
    have u5 := u3.trans (yr4.trans yr5)
    refine ⟨r4, r5, [x0], [vo], rfl, rfl, .inl (.inl (yr5 _ _ cr4)), .inl (.inl cr5), (by show 1 + 1 ≤ sizeLine; decide), (fun z => by cases z), (fun _ z => by cases z), fun _ _ r6 nr6 => ?_⟩
    generalize er6 : upd I5 r6 _ = I6
    have yr6 : Same I5 I6 := by rw [← er6]; exact same_new nr6
    have dr6 : Dp K (cut [pd, pl, PP] I6) (.ref r6) (.tuple [nD g0, dO]) := by rw [← er6]; exact new_tup lr5 nr6 (.cons (dp_ex k0 u5) (.cons (dp_ex hO u5) .nil))
    have lr6 : Live [pd, pl, PP] I6 := lr5.same yr6
    clear er6
    refine ⟨_, rfl, (by show 2 ≤ sizeLine; decide), fun r7 nr7 => ?_⟩
    generalize er7 : upd I6 r7 _ = I7
    have yr7 : Same I6 I7 := by rw [← er7]; exact same_new nr7
    have dr7 : Dp K (cut [pd, pl, PP] I7) (.ref r7) (nD (0, 1)) := by rw [← er7]; exact new_tup lr6 nr7 ((.cons (.int _) (.cons (.int _) .nil)))
    have lr7 : Live [pd, pl, PP] I7 := lr6.same yr7
    clear er7
    refine ⟨(by show 1 ≤ sizeLine; decide), fun r8 nr8 => ?_⟩
    generalize er8 : upd I7 r8 _ = I8
    have yr8 : Same I7 I8 := by rw [← er8]; exact same_new nr8
    have lr8 : Live [pd, pl, PP] I8 := lr7.same yr8
    have cr8 : I8 r8 = some (.tup [.ref r7]) := by rw [← er8]; exact upd_same
    clear er8
    have u8 := u5.trans (yr6.trans (yr7.trans yr8))
    refine ⟨ag, r8, [x0, x1, x2], [.ref r7], rfl, rfl, seq_same u8 (seq_un hSg), .inl (.inl cr8), (by show 3 + 1 ≤ sizeLine; decide), (fun z => by cases z), (fun _ z => by cases z), fun _ _ r9 nr9 => ?_⟩
    generalize er9 : upd I8 r9 _ = I9
    have yr9 : Same I8 I9 := by rw [← er9]; exact same_new nr9
    have dr9 : Dp K (cut [pd, pl, PP] I9) (.ref r9) (.tuple [nD g0, nD g1, nD g2, nD (0, 1)]) := by rw [← er9]; exact new_tup lr8 nr9 (.cons (dp_ex k0 u8) (.cons (dp_ex k1 u8) (.cons (dp_ex k2 u8) (.cons (dp_ex dr7 yr8) .nil))))
    have lr9 : Live [pd, pl, PP] I9 := lr8.same yr9
    clear er9
    have u9 := u8.trans yr9
    refine ⟨_, rfl, ag, [x0, x1, x2], rfl, .inr (seq_same u9 (seq_un hSg)), fun r10 nr10 => ?_⟩
    generalize er10 : upd I9 r10 _ = I10
    have yr10 : Same I9 I10 := by rw [← er10]; exact same_new nr10
    have dr10 : Dp K (cut [pd, pl, PP] I10) (.ref r10) (.list [nD g0, nD g1, nD g2]) := by rw [← er10]; exact new_lst lr9 nr10 (.cons (dp_ex k0 u9) (.cons (dp_ex k1 u9) (.cons (dp_ex k2 u9) .nil)))
    have lr10 : Live [pd, pl, PP] I10 := lr9.same yr10
    clear er10
    refine ⟨[pd, pl, PP], 65, rfl, lr10, by decide, by decide, fun vp I11 s11 dp11 => ?_⟩
    have l11 := lr10.same s11
    refine ⟨_, rfl, _, rfl, (by show 2 ≤ sizeLine; decide), fun r12 nr12 => ?_⟩
    generalize er12 : upd I11 r12 _ = I12
    have yr12 : Same I11 I12 := by rw [← er12]; exact same_new nr12
    have dr12 : Dp K (cut [pd, pl, PP] I12) (.ref r12) (nD (1, 1)) := by rw [← er12]; exact new_tup l11 nr12 ((.cons (.int _) (.cons (.int _) .nil)))
    have lr12 : Live [pd, pl, PP] I12 := l11.same yr12
    clear er12
    refine ⟨(by show 2 ≤ sizeLine; decide), fun r13 nr13 => ?_⟩
    generalize er13 : upd I12 r13 _ = I13
    have yr13 : Same I12 I13 := by rw [← er13]; exact same_new nr13
    have lr13 : Live [pd, pl, PP] I13 := lr12.same yr13
    have cr13 : I13 r13 = some (.tup [vo, .ref r12]) := by rw [← er13]; exact upd_same
    clear er13
    have u13 := u9.trans (yr10.trans (s11.trans (yr12.trans yr13)))
    refine ⟨ag, r13, [x0, x1, x2], [vo, .ref r12], rfl, rfl, seq_same u13 (seq_un hSg), .inl (.inl cr13), (by show 3 + 2 ≤ sizeLine; decide), (fun z => by cases z), (fun _ z => by cases z), fun _ _ r14 nr14 => ?_⟩
    generalize er14 : upd I13 r14 _ = I14
    have yr14 : Same I13 I14 := by rw [← er14]; exact same_new nr14
    have dr14 : Dp K (cut [pd, pl, PP] I14) (.ref r14) (.tuple [nD g0, nD g1, nD g2, dO, nD (1, 1)]) := by rw [← er14]; exact new_tup lr13 nr14 (.cons (dp_ex k0 u13) (.cons (dp_ex k1 u13) (.cons (dp_ex k2 u13) (.cons (dp_ex hO u13) (.cons (dp_ex dr12 yr13) .nil)))))
    have lr14 : Live [pd, pl, PP] I14 := lr13.same yr14
    clear er14
    refine ⟨(by show 9 ≤ sizeLine; decide), fun r15 nr15 => ?_⟩
    have v14 : Same I14 I14 := Same.refl _
    have v13 := yr14.trans v14
    have v12 := yr13.trans v13
    have v11 := yr12.trans v12
    have v10 := s11.trans v11
    have v9 := yr10.trans v10
    have v8 := yr9.trans v9
    have v7 := yr8.trans v8
    have v6 := yr7.trans v7
    have v5 := yr6.trans v6
    have v3 := yr4.trans (yr5.trans v5)
    have v2 := yr3.trans v3
    have v1 := yr2.trans v2
    generalize er15 : upd I14 r15 _ = I15
    have yr15 : Same I14 I15 := by rw [← er15]; exact same_new nr15
    have u15 := u13.trans (yr14.trans yr15)
    have cr15 : I15 r15 = some (.lst [V.non, .ref r1, .ref r3, .ref r6, .ref r9, .ref r10, vp, .ref r14, .int 5]) := by rw [← er15]; exact upd_same
    have dall : DpAll K (cut [pd, pl, PP] I15) [V.non, .ref r1, .ref r3, .ref r6, .ref r9, .ref r10, vp, .ref r14, .int 5] (lotDs dO g0 g1 g2) := .cons .non (.cons (dp_ex dr1 (v1.trans yr15)) (.cons (dp_ex dr3 (v3.trans yr15)) (.cons (dp_ex dr6 (v6.trans yr15)) (.cons (dp_ex dr9 (v9.trans yr15)) (.cons (dp_ex dr10 (v10.trans yr15)) (.cons (dp_ex dp11 (v11.trans yr15)) (.cons (dp_ex dr14 yr15) (.cons (.int 5) .nil))))))))
    have n15 : r15 ∉ [pd, pl, PP] := lr14.new nr15
    have WB := WB.same u15
    have hO := dp_ex hO u15
    have hg := dp_ex hg u15
    clear er15 dr1 yr1 lr1 dr2 yr2 lr2 dr3 yr3 lr3 dr6 yr6 lr6 dr7 yr7 lr7 dr9 yr9 lr9 dr10 yr10 lr10 dr12 yr12 lr12 dr14 yr14 lr14 yr15 yr4 yr5 yr8 yr13 lr4 lr5 lr8 lr13 cr4 cr5 cr8 cr13 u3 u5 u8 u9 u13 u15 s11 l11 dp11 v1 v2 v3 v5 v6 v7 v8 v9 v10 v11 v12 v13 v14 k0 k1 k2 hSg hDg lD
    refine ⟨_, rfl, _, rfl, [pd, pl, PP], pd, pl, r15, _, _, rfl, WB.live, WB.st, by omega, .inl (.inl (cut_at n15 cr15)), by show 1 ≤ 9; decide, by show 9 ≤ 1000; decide, fun vb HE hvb cE SE => ?_⟩
    have WE' := WB.chg cE SE
    obtain ⟨dB, hdB, hB⟩ := dp_mem dall hvb
    have hB := hB.ext (cE.cut WB.st.md WB.st.ml)
    have hO := hO.ext (cE.cut WB.st.md WB.st.ml)
    have hg := hg.ext (cE.cut WB.st.md WB.st.ml)
    obtain ⟨bB, bS⟩ := bad_of oO hs hdB
    clear dall cr15 n15
    have WE := WE'.more (show _ ≤ m + 20 by omega)
    clear WE' SE cE WB SB cB WA SA cA W hvo hvb hdO hdB
    have tells : ∀ (i : Nat) (x : V), ([.ref a_need_step, .ref a_degree_of, .ref a_head_of, .ref a_is_plain] : List V)[i]? = some x → ∃ (fq : Addr) (sp : Sp), x = .ref fq ∧ ((fq = a_need_step ∧ sp = sp_need isStep .stp ad K) ∨ (fq = a_degree_of ∧ sp = sp_out1 degOut ad K) ∨ (fq = a_head_of ∧ sp = sp_out1 headOut ad K) ∨ (fq = a_is_plain ∧ sp = sp_out1 plainOut ad K)) ∧
        ∀ (H' : Hp) (R : VK) (E2 : XK), Live [pd, pl, PP] H' → Dp K (cut [pd, pl, PP] H') vb dB → ToldX K ad [pd, pl, PP] H' (.er .stp dB) R E2 → sp [vb] H' R E2 := by
      intro i x hx
      match i, hx with
      | 0, hx => exact ⟨_, _, (Option.some.inj hx).symm, .inl ⟨rfl, rfl⟩, fun H' R E2 l1 h1 kx => ⟨_, _, _, rfl, l1, h1, by rw [needOut_er bB]; exact kx⟩⟩
      | 1, hx => exact ⟨_, _, (Option.some.inj hx).symm, .inr (.inl ⟨rfl, rfl⟩), fun H' R E2 l1 h1 kx => ⟨_, _, _, rfl, l1, h1, by rw [degOut_er bB]; exact kx⟩⟩
      | 2, hx => exact ⟨_, _, (Option.some.inj hx).symm, .inr (.inr (.inl ⟨rfl, rfl⟩)), fun H' R E2 l1 h1 kx => ⟨_, _, _, rfl, l1, h1, by rw [headOut_er bB]; exact kx⟩⟩
      | 3, hx => exact ⟨_, _, (Option.some.inj hx).symm, .inr (.inr (.inr ⟨rfl, rfl⟩)), fun H' R E2 l1 h1 kx => ⟨_, _, _, rfl, l1, h1, by rw [plainOut_er bB]; exact kx⟩⟩
      | i + 4, hx => simp at hx
    refine ⟨(by show 4 ≤ sizeLine; decide), fun pt nt => ⟨pt, rfl, ⟨_, .inl (.inl upd_same)⟩, for_tup (K := K) (a := pt) (xs := [.ref a_need_step, .ref a_degree_of, .ref a_head_of, .ref a_is_plain])
      (fun i σ H' => (∃ o5, σ = [some (.ref pd), some vo, some (.ref ag), some (.ref r15), some vb, o5, none, none, none, none]) ∧ Wd K pd pl PP H' (m + 20) ∧ Dp K (cut [pd, pl, PP] H') vo dO ∧ Dp K (cut [pd, pl, PP] H') (.ref ag) (sD [g0, g1, g2]) ∧ Dp K (cut [pd, pl, PP] H') vb dB ∧ H' pt = some (.tup [.ref a_need_step, .ref a_degree_of, .ref a_head_of, .ref a_is_plain]))
      ⟨⟨_, rfl⟩, WE.same (same_new nt), dp_ex hO (same_new nt), dp_ex hg (same_new nt), dp_ex hB (same_new nt), upd_same⟩ (fun i σ H' _ h => .inl (.inl h.2.2.2.2.2)) ?_ ?_⟩⟩
    · rintro i x σ HF hx ⟨⟨o5, rfl⟩, WF, hO, hg, hB, ht⟩
      obtain ⟨fq, sp, rfl, hS, hsp⟩ := tells i x hx
      refine ⟨WF.tb, fun Ha eN T1 => ⟨[pd, pl, PP], .er .stp dB, (WF.extN eN T1).live, fun E2 R Hb s2 kx => ?_, fun v3 Hd s3 h3 => ?_⟩⟩
      · have lb := ((WF.extN eN T1).same s2).live
        have xb : ExtN HF Hb := eN.trans (ExtN.of s2)
        exact ⟨fq, sp, rfl, hS, _, rfl, hsp _ _ _ lb (dp_extN (ExtN.of_cut (N := [pd, pl, PP]) xb) _ _ hB) kx⟩
      refine ⟨_, rfl, (by show 2 ≤ sizeLine; decide), fun p np => ?_⟩
      generalize ep : upd Hd p _ = HG
      have yp : Same Hd HG := by rw [← ep]; exact same_new np
      have x : ExtN HF HG := eN.trans (ExtN.of (s3.trans yp))
      have WF := (WF.extN eN T1).same (s3.trans yp)
      have hO := dp_extN (ExtN.of_cut (N := [pd, pl, PP]) x) _ _ hO
      have hg := dp_extN (ExtN.of_cut (N := [pd, pl, PP]) x) _ _ hg
      have hB := dp_extN (ExtN.of_cut (N := [pd, pl, PP]) x) _ _ hB
      have due : Dp K HG (.ref p) (refD (.er .stp dB)) := .tup (.inl (.inl (by rw [← ep]; exact upd_same))) (.cons (.str _) (.cons hB.un .nil))
      have ht := x _ _ ht (fun ps z => by cases z)
      refine ⟨_, _, refD (.er .stp dB), rfl, h3.un.ext yp, due, (sh_ref bS (by decide)).mono (by decide) (by decide), rfl, ⟨_, rfl, iteF ?_⟩⟩
      clear ep yp x due h3 s3 eN T1 np
      exact ⟨⟨_, rfl⟩, WF, hO, hg, hB, ht⟩
    · rintro σ HF ⟨⟨o5, rfl⟩, WF, hO, hg, hB, ht⟩
      clear ht
      refine ⟨WF.tb, fun Ha eN T1 => ⟨[pd, pl, PP], .er .stp dB, (WF.extN eN T1).live, fun E2 R Hb s2 kx => ?_, fun v3 Hd s3 h3 => ?_⟩⟩
      · have lb := ((WF.extN eN T1).same s2).live
        have xb : ExtN HF Hb := eN.trans (ExtN.of s2)
        exact ⟨_, rfl, _, rfl, [pd, pl, PP], vb, vo, dB, dO, rfl, lb, dp_extN (ExtN.of_cut (N := [pd, pl, PP]) xb) _ _ hB, dp_extN (ExtN.of_cut (N := [pd, pl, PP]) xb) _ _ hO, fun _ => kx, fun z => (by rw [bB] at z; cases z), fun z => (by rw [bB] at z; cases z)⟩
      refine ⟨_, rfl, (by show 2 ≤ sizeLine; decide), fun p np => ?_⟩
      generalize ep : upd Hd p _ = HG
      have yp : Same Hd HG := by rw [← ep]; exact same_new np
      have x : ExtN HF HG := eN.trans (ExtN.of (s3.trans yp))
      have WF := (WF.extN eN T1).same (s3.trans yp)
      have hO := dp_extN (ExtN.of_cut (N := [pd, pl, PP]) x) _ _ hO
      have hg := dp_extN (ExtN.of_cut (N := [pd, pl, PP]) x) _ _ hg
      have hB := dp_extN (ExtN.of_cut (N := [pd, pl, PP]) x) _ _ hB
      have due : Dp K HG (.ref p) (refD (.er .stp dB)) := .tup (.inl (.inl (by rw [← ep]; exact upd_same))) (.cons (.str _) (.cons hB.un .nil))
      refine ⟨_, _, refD (.er .stp dB), rfl, h3.un.ext yp, due, (sh_ref bS (by decide)).mono (by decide) (by decide), rfl, ⟨_, rfl, iteF ?_⟩⟩
      clear ep yp x due h3 s3 eN T1 np
      refine ⟨_, rfl, [pd, pl, PP], pd, pl, _, 3, rfl, WF.live, WF.st, by omega, by decide, by decide, fun ra HI ra0 ra1 cI SI => ?_⟩
      have WI := WF.chg cI SI
      have hO := hO.ext (cI.cut WF.st.md WF.st.ml)
      have hg := hg.ext (cI.cut WF.st.md WF.st.ml)
      have hB := hB.ext (cI.cut WF.st.md WF.st.ml)
      obtain ⟨ia, rfl⟩ : ∃ ia : Nat, ra = (ia : Int) := ⟨ra.toNat, by omega⟩
      have lI := WI.live
      refine ⟨_, rfl, (by show 1 ≤ sizeLine; decide), fun s1 ns1 => ?_⟩
      generalize es1 : upd HI s1 _ = J1
      have ys1 : Same HI J1 := by rw [← es1]; exact same_new ns1
      have l1 := lI.same ys1
      have hs1 : SqT K (cut [pd, pl, PP] J1) s1 [.ref ag] := .inl (.inl (cut_at (lI.new ns1) (by rw [← es1]; exact upd_same)))
      clear es1
      refine ⟨_, rfl, repA_any l1 hs1 (by omega) (by omega) fun p2 J2 z2 h2 => ?_⟩
      have l2 := l1.same z2
      refine ⟨_, rfl, (by show 1 ≤ sizeLine; decide), fun s3 ns3 => ?_⟩
      generalize es3 : upd J2 s3 _ = J3
      have ys3 : Same J2 J3 := by rw [← es3]; exact same_new ns3
      have l3 := l2.same ys3
      have hs3 : SqT K (cut [pd, pl, PP] J3) s3 [vb] := .inl (.inl (cut_at (l2.new ns3) (by rw [← es3]; exact upd_same)))
      clear es3
      refine catA_any l3 (seq_same (Same.cut _ ys3) h2) hs3 (by rw [List.length_replicate]; show _ + 1 ≤ 1000; omega) fun p4 J4 z4 h4 => ?_
      have l4 := l3.same z4
      refine ⟨_, rfl, (by show 1 ≤ sizeLine; decide), fun s5 ns5 => ?_⟩
      generalize es5 : upd J4 s5 _ = J5
      have ys5 : Same J4 J5 := by rw [← es5]; exact same_new ns5
      have l5 := l4.same ys5
      have hs5 : SqT K (cut [pd, pl, PP] J5) s5 [.ref ag] := .inl (.inl (cut_at (l4.new ns5) (by rw [← es5]; exact upd_same)))
      clear es5
      have t5 := ys1.trans (z2.trans (ys3.trans (z4.trans ys5)))
      have WJ := WI.same t5
      refine ⟨_, rfl, [pd, pl, PP], pd, pl, _, 3, rfl, l5, WJ.st, by omega, by decide, by decide, fun rb J6 rb0 rb1 c6 S6 => ?_⟩
      have W6 := WJ.chg c6 S6
      have cc := c6.cut WJ.st.md WJ.st.ml
      obtain ⟨jb, rfl⟩ : ∃ jb : Nat, rb = (jb : Int) := ⟨rb.toNat, by omega⟩
      refine repA_any W6.live (seq_same cc hs5) (by omega) (by omega) fun p7 J7 z7 h7 => ?_
      rw [Int.toNat_natCast] at h4 h7
      have l7 := W6.live.same z7
      refine catA_any l7 (seq_same (Same.cut _ z7) (seq_same cc (seq_same (Same.cut _ ys5) h4))) h7 (by simp only [List.length_append, List.length_replicate, List.length_cons, List.length_nil]; omega) fun p8 J8 z8 h8 => ?_
      have WZ := (W6.same (z7.trans z8)).more (show _ ≤ m + 22 by omega)
      have z78 := Same.cut [pd, pl, PP] (z7.trans z8)
      have hO := ((dp_ex hO t5).ext cc).ext z78
      have hg := ((dp_ex hg t5).ext cc).ext z78
      have hB := ((dp_ex hB t5).ext cc).ext z78
      have hR : Dp K (cut [pd, pl, PP] J8) (.ref p8) (.tuple (List.replicate ia (sD [g0, g1, g2]) ++ [dB] ++ List.replicate jb (sD [g0, g1, g2]))) :=
        .tup h8 (DpAll.append (DpAll.append (dp_rep hg ia) (.cons hB .nil)) (dp_rep hg jb))
      clear h8 h7 h4 h2 hs1 hs3 hs5 WI SI cI z78 cc c6 S6 W6 WJ t5
      refine ⟨WZ.tb, fun Ha eN T1 => ⟨[pd, pl, PP], .er .row (.tuple [.int ia]), (WZ.extN eN T1).live, fun E2 R Hb s2 kx => ?_, fun v3 Hd s3 h3 => ?_⟩⟩
      · have lb := ((WZ.extN eN T1).same s2).live
        have xb : ExtN J8 Hb := eN.trans (ExtN.of s2)
        exact ⟨_, rfl, [pd, pl, PP], _, _, rfl, lb, dp_extN (ExtN.of_cut (N := [pd, pl, PP]) xb) _ _ hR, by rw [row_bad hst bB (by omega)]; exact kx⟩
      refine ⟨_, rfl, (by show 1 ≤ sizeLine; decide), fun p0 np0 => ⟨(by show 2 ≤ sizeLine; decide), fun p np => ?_⟩⟩
      have y0 := same_new (o := .tup [.int ia]) np0
      have y1 := same_new (o := .tup [.str "row", .ref p0]) np
      have x : ExtN J8 (upd (upd Hd p0 (.tup [.int ia])) p (.tup [.str "row", .ref p0])) := eN.trans (ExtN.of (s3.trans (y0.trans y1)))
      have W9 := (WZ.extN eN T1).same (s3.trans (y0.trans y1))
      have hO := dp_extN (ExtN.of_cut (N := [pd, pl, PP]) x) _ _ hO
      have hg := dp_extN (ExtN.of_cut (N := [pd, pl, PP]) x) _ _ hg
      refine ⟨_, _, refD (.er .row (.tuple [.int ia])), rfl, h3.un.ext (y0.trans y1), .tup (.inl (.inl upd_same)) (.cons (.str _) (.cons (.tup (.inl (.inl (y1 _ _ upd_same))) (.cons (.int _) .nil)) .nil)), ?_, rfl, ⟨_, rfl, iteF ?_⟩⟩
      · exact (sh_ref (n := 2000) (k := 1) ((sh_tup (n := 1921) (k := 0) (ds := [.int ia]) (fun d hd => by rw [List.mem_singleton.mp hd]; exact sh_int (Nat.lt_of_le_of_lt (show (ia : Int).natAbs ≤ 3 by omega) (by decide)))).mono (by show 1 * (1921 + 2) + 3 ≤ 2000; decide) (by decide)) (by decide)).mono (by decide) (by decide)
      generalize upd (upd Hd p0 (.tup [.int ia])) p (.tup [.str "row", .ref p0]) = H9 at W9 hO hg x ⊢
      clear x y0 y1 h3 s3 eN T1 np np0 hR hB WZ
      -- what is no row at all
      have l9 := W9.live
      refine ⟨_, rfl, Nat.zero_le _, fun a1 na1 => ?_⟩
      generalize ea1 : upd H9 a1 _ = M1
      have ya1 : Same H9 M1 := by rw [← ea1]; exact same_new na1
      have da1 : Dp K (cut [pd, pl, PP] M1) (.ref a1) (.tuple []) := by rw [← ea1]; exact new_tup l9 na1 (.nil)
      have la1 : Live [pd, pl, PP] M1 := l9.same ya1
      clear ea1
      refine ⟨_, rfl, (by show 1 ≤ sizeLine; decide), fun a2 na2 => ?_⟩
      generalize ea2 : upd M1 a2 _ = M2
      have ya2 : Same M1 M2 := by rw [← ea2]; exact same_new na2
      have da2 : Dp K (cut [pd, pl, PP] M2) (.ref a2) (.list [sD [g0, g1, g2]]) := by rw [← ea2]; exact new_lst la1 na2 (.cons (dp_ex hg ya1) .nil)
      have la2 : Live [pd, pl, PP] M2 := la1.same ya2
      clear ea2
      refine ⟨_, rfl, (by show 1 ≤ sizeLine; decide), fun a3 na3 => ?_⟩
      generalize ea3 : upd M2 a3 _ = M3
      have ya3 : Same M2 M3 := by rw [← ea3]; exact same_new na3
      have la3 := la2.same ya3
      have ha3 : SqT K (cut [pd, pl, PP] M3) a3 [.ref ag] := .inl (.inl (cut_at (la2.new na3) (by rw [← ea3]; exact upd_same)))
      clear ea3
      dsimp only [tC]
      refine repA_any (k := 9) la3 ha3 (by decide) (by decide) fun p4 M4 z4 h4 => ?_
      have l4 := la3.same z4
      have t4 := ya1.trans (ya2.trans (ya3.trans z4))
      refine ⟨_, rfl, (by show 6 ≤ sizeLine; decide), fun a5 na5 => ?_⟩
      generalize ea5 : upd M4 a5 _ = M5
      have ya5 : Same M4 M5 := by rw [← ea5]; exact same_new na5
      have ca5 : M5 a5 = some (.lst [V.non, .ref a1, .ref a2, .ref p4, .ref ag, .int 7]) := by rw [← ea5]; exact upd_same
      have n5 := l4.new na5
      clear ea5
      have t5 := t4.trans ya5
      have hg5 := dp_ex hg t5
      have z5 := Same.cut [pd, pl, PP] ya5
      have d4 : Dp K (cut [pd, pl, PP] M5) (.ref p4) (.tuple (List.replicate 9 (sD [g0, g1, g2]))) := .tup (seq_same z5 h4) (dp_rep hg5 9)
      have dall : DpAll K (cut [pd, pl, PP] M5) [V.non, .ref a1, .ref a2, .ref p4, .ref ag, .int 7] (noneDs g0 g1 g2) := .cons .non (.cons (dp_ex da1 (ya2.trans (ya3.trans (z4.trans ya5)))) (.cons (dp_ex da2 (ya3.trans (z4.trans ya5))) (.cons d4 (.cons hg5 (.cons (.int 7) .nil)))))
      have W5 := W9.same t5
      refine ⟨[pd, pl, PP], pd, pl, a5, _, _, rfl, W5.live, W5.st, by omega, .inl (.inl (cut_at n5 ca5)), by show 1 ≤ 6; decide, by show 6 ≤ 1000; decide, fun vn M6 hvn c6 S6 => ?_⟩
      have W6 := W5.chg c6 S6
      obtain ⟨dN, hdN, hN⟩ := dp_mem dall hvn
      have hN := hN.ext (c6.cut W5.st.md W5.st.ml)
      have hg := hg5.ext (c6.cut W5.st.md W5.st.ml)
      obtain ⟨shN, rowN⟩ := none_of hdN
      clear dall d4 z5 hg5 t5 t4 h4 c6 S6 W5 hdN hvn ca5 n5 ya5 l4 z4 ha3 la3 ya3 da2 ya2 la2 da1 ya1 la1 l9 W9
      refine ⟨_, rfl, _, rfl, dN, sD [g0, g1, g2], hN.un, hg.un, shN, rfl, _, rfl, ?_⟩
      have l6 := W6.live
      cases eN0 : PyData.eqv dN (sD [g0, g1, g2])
      case' true =>
        rw [if_pos eN0] at rowN
        refine iteT ⟨(by show 1 ≤ sizeLine; decide), fun b1 nb1 => ⟨(by show 2 ≤ sizeLine; decide), fun b2 nb2 => ?_⟩⟩
        have y1 := same_new (o := .tup [.int 0]) nb1
        have due : Dp K (cut [pd, pl, PP] _) (.ref b2) (refD (.er .row (.tuple [.int 0]))) := new_tup (l6.same y1) nb2 (.cons (.str (Er.tag .row)) (.cons (new_tup l6 nb1 (.cons (.int 0) .nil)) .nil))
        have y2 := y1.trans (same_new (o := .tup [.str (Er.tag .row), .ref b1]) nb2)
        have shD : Sh 2000 1 (.tuple [.int 0]) := sh_of (by decide +kernel)
        change gName 9 (.ref b2) _ (upd (upd M6 b1 (.tup [.int 0])) b2 (.tup [.str (Er.tag .row), .ref b1])) _
        generalize upd (upd M6 b1 (.tup [.int 0])) b2 (.tup [.str (Er.tag .row), .ref b1]) = M8 at due y2 ⊢
        generalize PyData.tuple [.int 0] = dz at rowN due shD
      case' false =>
        rw [if_neg (by rw [eN0]; exact Bool.false_ne_true)] at rowN
        refine iteF ⟨Nat.zero_le _, fun b1 nb1 => ⟨(by show 2 ≤ sizeLine; decide), fun b2 nb2 => ?_⟩⟩
        have y1 := same_new (o := .tup []) nb1
        have due : Dp K (cut [pd, pl, PP] _) (.ref b2) (refD (.er .row (.tuple []))) := new_tup (l6.same y1) nb2 (.cons (.str (Er.tag .row)) (.cons (new_tup l6 nb1 .nil) .nil))
        have y2 := y1.trans (same_new (o := .tup [.str (Er.tag .row), .ref b1]) nb2)
        have shD : Sh 2000 1 (.tuple []) := sh_of (by decide +kernel)
        change gName 9 (.ref b2) _ (upd (upd M6 b1 (.tup [])) b2 (.tup [.str (Er.tag .row), .ref b1])) _
        generalize upd (upd M6 b1 (.tup [])) b2 (.tup [.str (Er.tag .row), .ref b1]) = M8 at due y2 ⊢
        generalize PyData.tuple [] = dz at rowN due shD
      all_goals
        have W8 := W6.same y2
        have hN8 := dp_ex hN y2
        refine ⟨W8.tb, fun Ha eN T1 => ⟨[pd, pl, PP], .er .row dz, (W8.extN eN T1).live, fun E2 R Hb s2 kx => ?_, fun v3 Hd s3 h3 => ?_⟩⟩
        · have lb := ((W8.extN eN T1).same s2).live
          have xb : ExtN M8 Hb := eN.trans (ExtN.of s2)
          exact ⟨_, rfl, [pd, pl, PP], _, _, rfl, lb, dp_extN (ExtN.of_cut (N := [pd, pl, PP]) xb) _ _ hN8, by rw [rowN]; exact kx⟩
        have x : ExtN M8 Hd := eN.trans (ExtN.of s3)
        exact ⟨_, rfl, _, _, refD (.er .row dz), rfl, h3.un, (dp_extN (ExtN.of_cut (N := [pd, pl, PP]) x) _ _ due).un, (sh_ref shD (by decide)).mono (by decide) (by decide), rfl, k _ (((W8.extN eN T1).same s3).more (by omega))⟩
    -- DONE
end
end My

set_option Elab.async false
set_option linter.all false
set_option maxRecDepth 100000
set_option maxHeartbeats 4000000
set_option exponentiation.threshold 20000
namespace My
open PySem PySem.Spec PyProof.Rows L2 LamX
section
variable {P : Program} {w : World} {K : PySem.W.Frag} {mg : Str → Option Value} {base : Heap} {t1 t2 t3 : Tok} {f : Addr} {fd : FuncData} {PP : Addr}
/-! ### the law -/
def sp_law (K : PySem.W.Frag) (PP : Addr) : Sp := fun vs H Q _ => ∃ (a : Addr) (ns : List Int), vs = [.ref a] ∧ SqL K H a (ns.map V.int) ∧ ns.length ≤ 63 ∧ H PP = some (.tbl #[]) ∧ ∀ H', Q (.bl true) H'
theorem ok_law (F : Fun K "law" "law" s_law f fd) (T : Txt K mg t1 t2 t3) (C__law_begin : Ce P w K mg base CX0 1 "_law_begin" ["script"] (sp_law_begin K))
    (C__law_right : CeG P w K mg base CX0 6 "_law_right" ["state"] (sp_law_right K)) (C__law_refused : CeG P w K mg base CX0 8 "_law_refused" ["state"] (sp_law_refused K PP))
    (C__law_borders : CeG P w K mg base CX0 6 "_law_borders" [] (sp_true K)) (C__law_named : CeG P w K mg base CX0 6 "_law_named" [] (sp_true K)) (C__law_errors : CeG P w K mg base CX0 6 "_law_errors" [] (sp_true K)) :
    FnG P w K mg base CX0 9 f fd ["script"] (sp_law K PP) := by
  refine fun_g F sc_law (fun vs H Q E h => ?_) (fun cdv A outer s H vs Q E hcdv hgd hr h => ?_)
  · obtain ⟨a, ns, rfl, _⟩ := h
    rfl
  · obtain ⟨a, ns, rfl, hS, hl, hP, k⟩ := h
    have hgd : (A.deeper (envOfC "law" (defScope s_law) s.heap.objs.size f cdv)).guards = some [] := hgd
    refine ⟨_, (pss_cons (ps_set (i := 1) sc_law.nd rfl (Or.inl rfl) (pe_ce C__law_begin (hr.mono (by decide)) pass0 (pa_cons (pv 0) pa_nil)))
      (pss_cons (ps_for PassesOwn.never rfl (pi_range1 rfl T.f_range (pa_cons pe_int pa_nil)) (pg_name (i := 2) sc_law.nd rfl (Or.inl rfl))
      (pss_one (ps_if (PW.pt (pw_or (pt_not (pt_val (pe_ceG C__law_right (hr.mono (by decide)) hgd pass0 (pa_cons (pv 1) pa_nil)))) (pw_or1 (pt_not (pt_val (pe_ceG C__law_refused (hr.mono (by decide)) hgd pass0 (pa_cons (pv 1) pa_nil))))))) (pss_one (ps_ret pe_bl)) pss_nil)))
      (pss_one (ps_ret (pe_and (pe_ceG0 C__law_borders (hr.mono (by decide)) hgd pass0) (pe_and (pe_ceG0 C__law_named (hr.mono (by decide)) hgd pass0) (pe_one (pe_ceG0 C__law_errors (hr.mono (by decide)) hgd pass0)))))))), ?_⟩
    have l0 : Live [PP] H := fun b hb => by rw [List.mem_singleton.mp hb, hP]; simp
    refine ⟨_, rfl, [PP], a, ns, rfl, l0, hS, hl, fun pd pl H1 s1 n1 n2 l1 S1 => ?_⟩
    have W1 : Wd K pd pl PP H1 0 := ⟨S1, fun p hp => by
      rw [List.mem_singleton.mp hp]
      exact TabS.nil (s1 _ _ hP)⟩
    refine ⟨3, rfl, by decide, by decide, ?_⟩
    refine for_range (lo := 0) (n := 3) (fun i σ H' => (∃ o2, σ = [some (.ref a), some (.ref pd), o2]) ∧ Wd K pd pl PP H' (400 * i)) ⟨⟨_, rfl⟩, W1⟩ ?_ ?_
    · rintro i σ H2 hi ⟨⟨o2, rfl⟩, W2⟩
      refine ⟨_, rfl, _, pd, pl, _, rfl, W2.live, W2.st, by omega, fun H3 c3 S3 => ?_⟩
      have W3 := W2.chg c3 S3
      refine ⟨_, rfl, ?_⟩
      refine iteF ?_
      refine ⟨_, rfl, pd, pl, _, rfl, W3, by omega, fun H4 W4 => ?_⟩
      refine ⟨_, rfl, ?_⟩
      refine iteF ?_
      exact ⟨⟨_, rfl⟩, W4.more (by omega)⟩
    · rintro σ H2 ⟨⟨o2, rfl⟩, W2⟩
      refine ⟨rfl, _, W2.live, fun H3 s3 => ?_⟩
      refine ⟨true, rfl, ?_⟩
      rw [if_pos rfl]
      refine ⟨rfl, _, (W2.same s3).live, fun H4 s4 => ⟨true, rfl, ?_⟩⟩
      rw [if_pos rfl]
      exact ⟨rfl, _, ((W2.same s3).same s4).live, fun H5 _ => k H5⟩
end
end My

set_option Elab.async false
set_option linter.all false
set_option maxRecDepth 100000
set_option maxHeartbeats 0
namespace My
open PySem PySem.Spec PyProof.Rows L2

def fnd : List He.DefD := [
  ⟨("fraction", none), "fraction", "fraction", defArgs s_fraction, defBody s_fraction, defScope s_fraction, [], []⟩,
  ⟨("opened", none), "opened", "opened", defArgs s_opened, defBody s_opened, defScope s_opened, [], []⟩,
  ⟨("value_of", none), "value_of", "value_of", defArgs s_value_of, defBody s_value_of, defScope s_value_of, [], []⟩,
  ⟨("is_integer", none), "is_integer", "is_integer", defArgs s_is_integer, defBody s_is_integer, defScope s_is_integer, [], []⟩,
  ⟨("is_number", none), "is_number", "is_number", defArgs s_is_number, defBody s_is_number, defScope s_is_number, [], []⟩,
  ⟨("is_step", none), "is_step", "is_step", defArgs s_is_step, defBody s_is_step, defScope s_is_step, [], []⟩,
  ⟨("need_number", none), "need_number", "need_number", defArgs s_need_number, defBody s_need_number, defScope s_need_number, [], []⟩,
  ⟨("need_step", none), "need_step", "need_step", defArgs s_need_step, defBody s_need_step, defScope s_need_step, [], []⟩,
  ⟨("need_row", none), "need_row", "need_row", defArgs s_need_row, defBody s_need_row, defScope s_need_row, [], []⟩,
  ⟨("degree_of", none), "degree_of", "degree_of", defArgs s_degree_of, defBody s_degree_of, defScope s_degree_of, [], []⟩,
  ⟨("head_of", none), "head_of", "head_of", defArgs s_head_of, defBody s_head_of, defScope s_head_of, [], []⟩,
  ⟨("is_plain", none), "is_plain", "is_plain", defArgs s_is_plain, defBody s_is_plain, defScope s_is_plain, [], []⟩,
  ⟨("value_at", none), "value_at", "value_at", defArgs s_value_at, defBody s_value_at, defScope s_value_at, [], []⟩,
  ⟨("_law_mixed", none), "_law_mixed", "_law_mixed", defArgs s__law_mixed, defBody s__law_mixed, defScope s__law_mixed, [], []⟩,
  ⟨("_law_begin", none), "_law_begin", "_law_begin", defArgs s__law_begin, defBody s__law_begin, defScope s__law_begin, [], []⟩,
  ⟨("_law_draw", none), "_law_draw", "_law_draw", defArgs s__law_draw, defBody s__law_draw, defScope s__law_draw, [], []⟩,
  ⟨("_law_of", none), "_law_of", "_law_of", defArgs s__law_of, defBody s__law_of, defScope s__law_of, [], []⟩,
  ⟨("_law_number", none), "_law_number", "_law_number", defArgs s__law_number, defBody s__law_number, defScope s__law_number, [], []⟩,
  ⟨("_law_step", none), "_law_step", "_law_step", defArgs s__law_step, defBody s__law_step, defScope s__law_step, [], []⟩,
  ⟨("_law_plain", none), "_law_plain", "_law_plain", defArgs s__law_plain, defBody s__law_plain, defScope s__law_plain, [], []⟩,
  ⟨("_law_divisor", none), "_law_divisor", "_law_divisor", defArgs s__law_divisor, defBody s__law_divisor, defScope s__law_divisor, [], []⟩,
  ⟨("_law_frac", none), "_law_frac", "_law_frac", defArgs s__law_frac, defBody s__law_frac, defScope s__law_frac, [], []⟩,
  ⟨("_law_add", none), "_law_add", "_law_add", defArgs s__law_add, defBody s__law_add, defScope s__law_add, [], []⟩,
  ⟨("_law_mul", none), "_law_mul", "_law_mul", defArgs s__law_mul, defBody s__law_mul, defScope s__law_mul, [], []⟩,
  ⟨("_law_like", none), "_law_like", "_law_like", defArgs s__law_like, defBody s__law_like, defScope s__law_like, [], []⟩,
  ⟨("_law_refusal", none), "_law_refusal", "_law_refusal", defArgs s__law_refusal, defBody s__law_refusal, defScope s__law_refusal, [], []⟩,
  ⟨("_law_power", none), "_law_power", "_law_power", defArgs s__law_power, defBody s__law_power, defScope s__law_power, [], []⟩,
  ⟨("_law_sum_of_powers", none), "_law_sum_of_powers", "_law_sum_of_powers", defArgs s__law_sum_of_powers, defBody s__law_sum_of_powers, defScope s__law_sum_of_powers, [], []⟩,
  ⟨("_law_right", none), "_law_right", "_law_right", defArgs s__law_right, defBody s__law_right, defScope s__law_right, [], []⟩,
  ⟨("_law_refused", none), "_law_refused", "_law_refused", defArgs s__law_refused, defBody s__law_refused, defScope s__law_refused, [], []⟩,
  ⟨("_law_borders", none), "_law_borders", "_law_borders", defArgs s__law_borders, defBody s__law_borders, defScope s__law_borders, [], []⟩,
  ⟨("_law_named", none), "_law_named", "_law_named", defArgs s__law_named, defBody s__law_named, defScope s__law_named, [], []⟩,
  ⟨("_law_errors", none), "_law_errors", "_law_errors", defArgs s__law_errors, defBody s__law_errors, defScope s__law_errors, [], []⟩,
  ⟨("law", none), "law", "law", defArgs s_law, defBody s_law, defScope s_law, [], []⟩,
  ⟨("BadNumber", some "__init__"), "__init__", "BadNumber.__init__", defArgs s_BadNumber_init, defBody s_BadNumber_init, defScope s_BadNumber_init, [], []⟩,
  ⟨("BadStep", some "__init__"), "__init__", "BadStep.__init__", defArgs s_BadStep_init, defBody s_BadStep_init, defScope s_BadStep_init, [], []⟩,
  ⟨("BadRow", some "__init__"), "__init__", "BadRow.__init__", defArgs s_BadRow_init, defBody s_BadRow_init, defScope s_BadRow_init, [], []⟩,
  ⟨("BadParameter", some "__init__"), "__init__", "BadParameter.__init__", defArgs s_BadParameter_init, defBody s_BadParameter_init, defScope s_BadParameter_init, [], []⟩,
  ⟨("BadIndex", some "__init__"), "__init__", "BadIndex.__init__", defArgs s_BadIndex_init, defBody s_BadIndex_init, defScope s_BadIndex_init, [], []⟩,
  ⟨("BadText", some "__init__"), "__init__", "BadText.__init__", defArgs s_BadText_init, defBody s_BadText_init, defScope s_BadText_init, [], []⟩,
  ⟨("BadDeed", some "__init__"), "__init__", "BadDeed.__init__", defArgs s_BadDeed_init, defBody s_BadDeed_init, defScope s_BadDeed_init, [], []⟩,
  ⟨("Unlike", some "__init__"), "__init__", "Unlike.__init__", defArgs s_Unlike_init, defBody s_Unlike_init, defScope s_Unlike_init, [], []⟩,
  ⟨("TooGreat", some "__init__"), "__init__", "TooGreat.__init__", defArgs s_TooGreat_init, defBody s_TooGreat_init, defScope s_TooGreat_init, [], []⟩]
def fa0 : List He.Fa := [.glo "fraction", .glo "opened", .glo "value_of", .glo "is_integer", .glo "is_number", .glo "is_step", .glo "need_number", .glo "need_step", .glo "need_row", .glo "degree_of", .glo "head_of", .glo "is_plain", .glo "value_at", .glo "_law_mixed", .glo "_law_begin", .glo "_law_draw", .glo "_law_of", .glo "_law_number", .glo "_law_step", .glo "_law_plain", .glo "_law_divisor", .glo "_law_frac", .glo "_law_add", .glo "_law_mul", .glo "_law_like", .glo "_law_refusal", .glo "_law_power", .glo "_law_sum_of_powers", .glo "_law_right", .glo "_law_refused", .glo "_law_borders", .glo "_law_named", .glo "_law_errors", .glo "law", .glo "StepError", .glo "BadNumber", .glo "BadStep", .glo "BadRow", .glo "BadParameter", .glo "BadIndex"]
def fa1 : List He.Fa := [.glo "BadText", .glo "BadDeed", .glo "NoRow", .glo "Unlike", .glo "TooGreat", .glo "NothingBack", .free "len", .free "isinstance", .free "abs", .free "all", .free "tuple", .free "list", .free "int", .free "max", .free "repr", .free "range", .free "enumerate", .free "reversed", .free "bool", .free "ValueError", .int "GREATEST" 1000000000000000000000000000000000000000000000000000000000000, .int "MOST_DEGREE" 64, .int "MOST_STEPS" 8, .exm "StepError" "BadNumber" false, .exm "StepError" "BadStep" false, .exm "StepError" "BadRow" false, .exm "StepError" "BadParameter" false, .exm "StepError" "TooGreat" false, .exm "StepError" "NoRow" false, .exm "StepError" "StepError" true, .exm "BadNumber" "BadNumber" true, .exm "BadNumber" "BadStep" false, .exm "BadNumber" "BadRow" false, .exm "BadNumber" "BadParameter" false, .exm "BadNumber" "TooGreat" false, .exm "BadNumber" "NoRow" false, .exm "BadNumber" "StepError" true, .exm "BadStep" "BadNumber" false, .exm "BadStep" "BadStep" true, .exm "BadStep" "BadRow" false]
def fa2 : List He.Fa := [.exm "BadStep" "BadParameter" false, .exm "BadStep" "TooGreat" false, .exm "BadStep" "NoRow" false, .exm "BadStep" "StepError" true, .exm "BadRow" "BadNumber" false, .exm "BadRow" "BadStep" false, .exm "BadRow" "BadRow" true, .exm "BadRow" "BadParameter" false, .exm "BadRow" "TooGreat" false, .exm "BadRow" "NoRow" false, .exm "BadRow" "StepError" true, .exm "BadParameter" "BadNumber" false, .exm "BadParameter" "BadStep" false, .exm "BadParameter" "BadRow" false, .exm "BadParameter" "BadParameter" true, .exm "BadParameter" "TooGreat" false, .exm "BadParameter" "NoRow" false, .exm "BadParameter" "StepError" true, .exm "BadIndex" "BadNumber" false, .exm "BadIndex" "BadStep" false, .exm "BadIndex" "BadRow" false, .exm "BadIndex" "BadParameter" false, .exm "BadIndex" "TooGreat" false, .exm "BadIndex" "NoRow" false, .exm "BadIndex" "StepError" true, .exm "BadText" "BadNumber" false, .exm "BadText" "BadStep" false, .exm "BadText" "BadRow" false, .exm "BadText" "BadParameter" false, .exm "BadText" "TooGreat" false, .exm "BadText" "NoRow" false, .exm "BadText" "StepError" true, .exm "BadDeed" "BadNumber" false, .exm "BadDeed" "BadStep" false, .exm "BadDeed" "BadRow" false, .exm "BadDeed" "BadParameter" false, .exm "BadDeed" "TooGreat" false, .exm "BadDeed" "NoRow" false, .exm "BadDeed" "StepError" true, .exm "NoRow" "BadNumber" false]
def fa3 : List He.Fa := [.exm "NoRow" "BadStep" false, .exm "NoRow" "BadRow" false, .exm "NoRow" "BadParameter" false, .exm "NoRow" "TooGreat" false, .exm "NoRow" "NoRow" true, .exm "NoRow" "StepError" true, .exm "Unlike" "BadNumber" false, .exm "Unlike" "BadStep" false, .exm "Unlike" "BadRow" false, .exm "Unlike" "BadParameter" false, .exm "Unlike" "TooGreat" false, .exm "Unlike" "NoRow" false, .exm "Unlike" "StepError" true, .exm "TooGreat" "BadNumber" false, .exm "TooGreat" "BadStep" false, .exm "TooGreat" "BadRow" false, .exm "TooGreat" "BadParameter" false, .exm "TooGreat" "TooGreat" true, .exm "TooGreat" "NoRow" false, .exm "TooGreat" "StepError" true, .exm "NothingBack" "BadNumber" false, .exm "NothingBack" "BadStep" false, .exm "NothingBack" "BadRow" false, .exm "NothingBack" "BadParameter" false, .exm "NothingBack" "TooGreat" false, .exm "NothingBack" "NoRow" false, .exm "NothingBack" "StepError" true, .meth "BadNumber" "__init__", .noat "BadNumber" "value", .meth "BadStep" "__init__", .noat "BadStep" "value", .meth "BadRow" "__init__", .noat "BadRow" "place", .meth "BadParameter" "__init__", .noat "BadParameter" "value", .meth "BadIndex" "__init__", .noat "BadIndex" "value", .meth "BadText" "__init__", .noat "BadText" "line", .noat "BadText" "word"]
def fa4 : List He.Fa := [.meth "BadDeed" "__init__", .noat "BadDeed" "place", .meth "Unlike" "__init__", .noat "Unlike" "value", .meth "TooGreat" "__init__", .noat "TooGreat" "most"]
def fa5 : List He.Fa := [.exc "NoRow", .exc "NothingBack"]
def fac : List He.Fa := fa0 ++ fa1 ++ fa2 ++ fa3 ++ fa4 ++ fa5
/-- an exception class of the text -/
def oexB (K : PySem.W.Frag) (C : Addr) : Bool := (match K.lookup C with
  | some ⟨.type "type", _, .cls cd, sl⟩ => (match cd.mro, sl.toList with
    | .ref C' :: bm, [_, _, _, _, some (.builtin n), _] => C' == C && (n == "ValueError.__new__" && (!cd.hasDel && (cd.hasDict && PySem.HandSPX.refsVE bm)))
    | _, _ => false)
  | _ => false) && (decide (PySem.W.findIn K (.ref C) "__setattr__" = some (some (.builtin "object.__setattr__"))) &&
  (decide (PySem.W.findIn K (.ref C) "__getattribute__" = some (some (.builtin "BaseException.__getattribute__"))) && (decide (PySem.W.findIn K (.ref C) "__getattr__" = some none) &&
  (decide (PySem.W.subIn K (.ref C) (.type "BaseException") = some true) && (decide (PySem.W.typeIn K (.ref C) = some (.type "type")) && (PySem.W.keepIn K (.ref C) && PySem.W.hasDictIn K C))))))
def exns : List Str := [Str.ofString "StepError", Str.ofString "BadNumber", Str.ofString "BadStep", Str.ofString "BadRow", Str.ofString "BadParameter", Str.ofString "BadIndex", Str.ofString "BadText", Str.ofString "BadDeed", Str.ofString "NoRow", Str.ofString "Unlike", Str.ofString "TooGreat", Str.ofString "NothingBack"]
def gmB (K : PySem.W.Frag) (x : Str) (id : String) : Bool := decide (PySem.W.nsIn K mainGlobals x = some (some (.builtin id)))
/-- what isinstance asks of a class of errors -/
def excB (K : PySem.W.Frag) (D : Addr) : Bool := decide (PySem.W.findIn K (.ref D) "__getattribute__" = some (some (.builtin "BaseException.__getattribute__"))) && (decide (PySem.W.findIn K (.ref D) "__getattr__" = some none) &&
  (decide (PySem.W.subIn K (.ref D) (.type "BaseException") = some true) && (PySem.W.hasDictIn K D && (decide (PySem.W.findIn K (.ref D) "__class__" = some (some (.builtin "object.__class__"))) &&
  (decide (PySem.W.specialIn K (.builtin "object.__class__") "__get__" = some (some (.builtin "getset_descriptor.__get__"))) && (decide (PySem.W.takesIn K (.builtin "object.__class__") = some true) && decide (PySem.W.mroIn K D (.type "object") = some true)))))))
def kitM (K : PySem.W.Frag) : Bool := errs.zipIdx.all fun p => errs.zipIdx.all fun q => decide (PySem.W.kitOne K (.ref (He.ga K p.1)) (.ref (He.ga K q.1)) = some (decide (p.2 = q.2)))
def kitS (K : PySem.W.Frag) : Bool := errs.all fun x => decide (PySem.W.kitOne K (.ref (He.ga K x)) (.ref (He.ga K "StepError")) = some true) && decide (PySem.W.kitOne K (.ref (He.ga K x)) (.type "ValueError") = some true)
def extra (K : PySem.W.Frag) : Bool := (exns.all fun x => oexB K (He.ga K x)) && ((gmB K "gcd" "math.gcd" && gmB K "lcm" "math.lcm") && ((errs.all fun x => excB K (He.ga K x)) && (kitM K && kitS K)))
def ls0 : List Str := [Str.ofString "StepError", Str.ofString "BadNumber", Str.ofString "BadStep", Str.ofString "BadRow", Str.ofString "BadParameter", Str.ofString "BadIndex", Str.ofString "BadText", Str.ofString "BadDeed", Str.ofString "NoRow", Str.ofString "Unlike", Str.ofString "TooGreat", Str.ofString "NothingBack", Str.ofString "GREATEST", Str.ofString "MOST_DEGREE", Str.ofString "MOST_STEPS", Str.ofString "fraction", Str.ofString "opened", Str.ofString "value_of", Str.ofString "is_integer", Str.ofString "is_number", Str.ofString "is_step", Str.ofString "need_number", Str.ofString "need_step", Str.ofString "need_row", Str.ofString "degree_of", Str.ofString "head_of", Str.ofString "is_plain", Str.ofString "value_at", Str.ofString "_law_mixed", Str.ofString "_law_begin", Str.ofString "_law_draw", Str.ofString "_law_of", Str.ofString "_law_number", Str.ofString "_law_step", Str.ofString "_law_plain", Str.ofString "_law_divisor"]
def ls1 : List Str := [Str.ofString "_law_frac", Str.ofString "_law_add", Str.ofString "_law_mul", Str.ofString "_law_like", Str.ofString "_law_refusal", Str.ofString "_law_power", Str.ofString "_law_sum_of_powers", Str.ofString "_law_right", Str.ofString "_law_refused", Str.ofString "_law_borders", Str.ofString "_law_named", Str.ofString "_law_errors"]
def loose : List Str := ls0 ++ ls1
abbrev R : PySem.W.OpenRow := PySem.W.OpenLaw.row PySem.Challenge.rw_stepswithin_k00_numbers_and_steps
def tfs : List He.Defn := [("_law_refused", none)]
abbrev hk : PySem.W.Hook := He.hookX 5 fac fnd [] tfs extra
def ob (s : PySem.W.SharedT) : He.AlX := He.obsX 5 fac fnd [] tfs extra (HandSHeadRun.getT s)
theorem ob_eq (s : PySem.W.SharedT) : ob s = hk.obs s.abs := He.obsX_eq (HandSHeadRun.getT_eq s)
theorem run (w : World) : HandSHeadRun.RunEqI R (PySem.W.view R.prog [0, 53]) hk ob 14000 loose w := by
  unfold HandSHeadRun.RunEqI
  kernel_rfl
end My

set_option Elab.async false
set_option linter.all false
set_option maxRecDepth 100000
set_option maxHeartbeats 4000000
set_option exponentiation.threshold 20000
namespace My
open PySem PySem.Spec PyProof.Rows L2 LamX
section
variable {K : PySem.W.Frag} {C : Addr}
theorem oexB_ok (h : oexB K C = true) : OexC K C ∧ XfC K C := by
  unfold oexB at h
  rw [Bool.and_eq_true] at h
  obtain ⟨h1, h⟩ := h
  simp only [Bool.and_eq_true, decide_eq_true_eq] at h
  obtain ⟨h2, h3, h4, h5, h6, h7, h8⟩ := h
  refine ⟨⟨?_, h2, h5, h6, h7⟩, ⟨h3, h4, h5, h8⟩⟩
  split at h1
  case h_2 => cases h1
  case h_1 dd cd sl lk =>
    split at h1
    case h_2 => cases h1
    case h_1 C' bm a1 a2 a3 a4 n a5 e1 e2 =>
      simp only [Bool.and_eq_true, beq_iff_eq, Bool.not_eq_true'] at h1
      obtain ⟨rfl, rfl, d1, d2, hr⟩ := h1
      refine ⟨cd.name, cd.qualname, cd.ns, cd.bases, bm, cd.slotNames, cd.subclasses, cd.abstract, cd.collection, dd, a1, a2, a3, a4, a5, ?_, hr⟩
      rw [lk]
      obtain ⟨nm, bs, mro, ns, qn, hdc, sn, sub, ab, col, hdl⟩ := cd
      obtain ⟨sl⟩ := sl
      simp only at e1 d1 d2 e2
      subst e1 d1 d2 e2
      rfl
theorem excB_ok (h : excB K C = true) : ExcC K C := by
  unfold excB at h
  simp only [Bool.and_eq_true, decide_eq_true_eq] at h
  obtain ⟨h1, h2, h3, h4, h5, h6, h7, h8⟩ := h
  exact ⟨h1, h2, h3, h4, h5, h6, h7, h8⟩
end
section
variable {K : PySem.W.Frag} {h : Heap} {mg : Str → Option Value}
theorem gm_ok {x : Str} {id : String} (X : K.In h) (G : h.Ns mainGlobals mg) (e : gmB K x id = true) : mg x = some (.builtin id) := by
  unfold gmB at e
  exact PySem.W.mg_of X G (of_decide_eq_true e)
end
theorem fun_kw {K : PySem.W.Frag} {x qual : Str} {st : Stmt} {f : Addr} {fd : FuncData} (F : Fun K x qual st f fd) {as : Args} {r : Sem (List (Str × Value))}
    (e : ∀ (kV doc pm : Value) (an : Option Addr) (cdv ct : Value), bindArgs (PySem.W.fnOf x qual (defArgs st) (defBody st) (defScope st) .none kV doc pm an cdv ct) as = r) : bindArgs fd as = r := by
  obtain ⟨oc, od, kV, doc, pm, an, cdv, ct, osl, rfl, _, _⟩ := F.ex
  exact e kV doc pm an cdv ct
def av (K : PySem.W.Frag) (x : Str) : Addr := He.ga K x
abbrev adK (K : PySem.W.Frag) : Ads := ⟨He.ga K "BadNumber", He.ga K "BadStep", He.ga K "BadRow"⟩
section
variable {P : Program} {w : World} {K : PySem.W.Frag} {h : Heap} {mg : Str → Option Value} {fa : Addr}
theorem all_of (X : K.In h) (G : h.Ns mainGlobals mg) (hfa : mg "law" = some (.ref fa)) (c : He.SaysX fac fnd [] tfs extra w h K) :
    ∃ (fd : FuncData) (cs : List (Addr × Addr)) (PP : Addr), cs = [He.cT K ("_law_refused", none)] ∧ PP = (He.cT K ("_law_refused", none)).2 ∧ (∀ (s : Shared) (u : Value), BindsTo s fd ⟨[u], []⟩ [("script", u)]) ∧
      ∀ base : Heap, K.In base → base.Ns mainGlobals mg → (∀ p ∈ cs, TabB base mg p.1 p.2) → FnG P w K mg base CX0 9 fa fd ["script"] (sp_law K PP) := by
  have cd := c.t.d
  have m0 := c.more
  unfold extra at m0
  simp only [Bool.and_eq_true] at m0
  obtain ⟨mx, ⟨mg1, mg2⟩, me, mk, ms⟩ := m0
  obtain ⟨t_GREATEST, g_GREATEST⟩ := He.int_ok X G (cd.fact 60 (f := .int "GREATEST" 1000000000000000000000000000000000000000000000000000000000000) rfl)
  obtain ⟨t_MOST_DEGREE, g_MOST_DEGREE⟩ := He.int_ok X G (cd.fact 61 (f := .int "MOST_DEGREE" 64) rfl)
  obtain ⟨t_MOST_STEPS, g_MOST_STEPS⟩ := He.int_ok X G (cd.fact 62 (f := .int "MOST_STEPS" 8) rfl)
  have T : Txt K mg t_GREATEST t_MOST_DEGREE t_MOST_STEPS := ⟨He.free_ok X G (cd.fact 46 (f := .free "len") rfl), He.free_ok X G (cd.fact 47 (f := .free "isinstance") rfl), He.free_ok X G (cd.fact 48 (f := .free "abs") rfl), He.free_ok X G (cd.fact 49 (f := .free "all") rfl), He.free_ok X G (cd.fact 50 (f := .free "tuple") rfl), He.free_ok X G (cd.fact 51 (f := .free "list") rfl), He.free_ok X G (cd.fact 52 (f := .free "int") rfl), He.free_ok X G (cd.fact 53 (f := .free "max") rfl), He.free_ok X G (cd.fact 54 (f := .free "repr") rfl), He.free_ok X G (cd.fact 55 (f := .free "range") rfl), He.free_ok X G (cd.fact 56 (f := .free "enumerate") rfl), He.free_ok X G (cd.fact 57 (f := .free "reversed") rfl), He.free_ok X G (cd.fact 58 (f := .free "bool") rfl), He.free_ok X G (cd.fact 59 (f := .free "ValueError") rfl), gm_ok X G mg1, gm_ok X G mg2, g_GREATEST, g_MOST_DEGREE, g_MOST_STEPS⟩
  obtain ⟨fd_fraction, D_fraction⟩ := cd.def_ 0 rfl
  have F_fraction : Fun K "fraction" "fraction" s_fraction (He.ga K "fraction") fd_fraction := fun_ofD D_fraction.kp D_fraction
  have m_fraction := (He.glo_ok X G (cd.fact 0 (f := .glo "fraction") rfl))
  have b_fraction : Binds K fd_fraction ["top", "bottom"] [] := F_fraction.binds fun _ _ _ _ _ _ us hl => match us, hl with | [_, _], _ => rfl
  obtain ⟨fd_opened, D_opened⟩ := cd.def_ 1 rfl
  have F_opened : Fun K "opened" "opened" s_opened (He.ga K "opened") fd_opened := fun_ofD D_opened.kp D_opened
  have m_opened := (He.glo_ok X G (cd.fact 1 (f := .glo "opened") rfl))
  have b_opened : Binds K fd_opened ["numbers"] [] := F_opened.binds fun _ _ _ _ _ _ us hl => match us, hl with | [_], _ => rfl
  obtain ⟨fd_value_of, D_value_of⟩ := cd.def_ 2 rfl
  have F_value_of : Fun K "value_of" "value_of" s_value_of (He.ga K "value_of") fd_value_of := fun_ofD D_value_of.kp D_value_of
  have m_value_of := (He.glo_ok X G (cd.fact 2 (f := .glo "value_of") rfl))
  have b_value_of : Binds K fd_value_of ["step", "number"] [] := F_value_of.binds fun _ _ _ _ _ _ us hl => match us, hl with | [_, _], _ => rfl
  obtain ⟨fd_is_integer, D_is_integer⟩ := cd.def_ 3 rfl
  have F_is_integer : Fun K "is_integer" "is_integer" s_is_integer (He.ga K "is_integer") fd_is_integer := fun_ofD D_is_integer.kp D_is_integer
  have m_is_integer := (He.glo_ok X G (cd.fact 3 (f := .glo "is_integer") rfl))
  have b_is_integer : Binds K fd_is_integer ["value"] [] := F_is_integer.binds fun _ _ _ _ _ _ us hl => match us, hl with | [_], _ => rfl
  obtain ⟨fd_is_number, D_is_number⟩ := cd.def_ 4 rfl
  have F_is_number : Fun K "is_number" "is_number" s_is_number (He.ga K "is_number") fd_is_number := fun_ofD D_is_number.kp D_is_number
  have m_is_number := (He.glo_ok X G (cd.fact 4 (f := .glo "is_number") rfl))
  have b_is_number : Binds K fd_is_number ["value"] [] := F_is_number.binds fun _ _ _ _ _ _ us hl => match us, hl with | [_], _ => rfl
  obtain ⟨fd_is_step, D_is_step⟩ := cd.def_ 5 rfl
  have F_is_step : Fun K "is_step" "is_step" s_is_step (He.ga K "is_step") fd_is_step := fun_ofD D_is_step.kp D_is_step
  have m_is_step := (He.glo_ok X G (cd.fact 5 (f := .glo "is_step") rfl))
  have b_is_step : Binds K fd_is_step ["value"] [] := F_is_step.binds fun _ _ _ _ _ _ us hl => match us, hl with | [_], _ => rfl
  obtain ⟨fd_need_number, D_need_number⟩ := cd.def_ 6 rfl
  have F_need_number : Fun K "need_number" "need_number" s_need_number (He.ga K "need_number") fd_need_number := fun_ofD D_need_number.kp D_need_number
  have m_need_number := (He.glo_ok X G (cd.fact 6 (f := .glo "need_number") rfl))
  have b_need_number : Binds K fd_need_number ["value"] [] := F_need_number.binds fun _ _ _ _ _ _ us hl => match us, hl with | [_], _ => rfl
  obtain ⟨fd_need_step, D_need_step⟩ := cd.def_ 7 rfl
  have F_need_step : Fun K "need_step" "need_step" s_need_step (He.ga K "need_step") fd_need_step := fun_ofD D_need_step.kp D_need_step
  have m_need_step := (He.glo_ok X G (cd.fact 7 (f := .glo "need_step") rfl))
  have b_need_step : Binds K fd_need_step ["value"] [] := F_need_step.binds fun _ _ _ _ _ _ us hl => match us, hl with | [_], _ => rfl
  obtain ⟨fd_need_row, D_need_row⟩ := cd.def_ 8 rfl
  have F_need_row : Fun K "need_row" "need_row" s_need_row (He.ga K "need_row") fd_need_row := fun_ofD D_need_row.kp D_need_row
  have m_need_row := (He.glo_ok X G (cd.fact 8 (f := .glo "need_row") rfl))
  have b_need_row : Binds K fd_need_row ["value"] [] := F_need_row.binds fun _ _ _ _ _ _ us hl => match us, hl with | [_], _ => rfl
  obtain ⟨fd_degree_of, D_degree_of⟩ := cd.def_ 9 rfl
  have F_degree_of : Fun K "degree_of" "degree_of" s_degree_of (He.ga K "degree_of") fd_degree_of := fun_ofD D_degree_of.kp D_degree_of
  have m_degree_of := (He.glo_ok X G (cd.fact 9 (f := .glo "degree_of") rfl))
  have b_degree_of : Binds K fd_degree_of ["step"] [] := F_degree_of.binds fun _ _ _ _ _ _ us hl => match us, hl with | [_], _ => rfl
  obtain ⟨fd_head_of, D_head_of⟩ := cd.def_ 10 rfl
  have F_head_of : Fun K "head_of" "head_of" s_head_of (He.ga K "head_of") fd_head_of := fun_ofD D_head_of.kp D_head_of
  have m_head_of := (He.glo_ok X G (cd.fact 10 (f := .glo "head_of") rfl))
  have b_head_of : Binds K fd_head_of ["step"] [] := F_head_of.binds fun _ _ _ _ _ _ us hl => match us, hl with | [_], _ => rfl
  obtain ⟨fd_is_plain, D_is_plain⟩ := cd.def_ 11 rfl
  have F_is_plain : Fun K "is_plain" "is_plain" s_is_plain (He.ga K "is_plain") fd_is_plain := fun_ofD D_is_plain.kp D_is_plain
  have m_is_plain := (He.glo_ok X G (cd.fact 11 (f := .glo "is_plain") rfl))
  have b_is_plain : Binds K fd_is_plain ["step"] [] := F_is_plain.binds fun _ _ _ _ _ _ us hl => match us, hl with | [_], _ => rfl
  obtain ⟨fd_value_at, D_value_at⟩ := cd.def_ 12 rfl
  have F_value_at : Fun K "value_at" "value_at" s_value_at (He.ga K "value_at") fd_value_at := fun_ofD D_value_at.kp D_value_at
  have m_value_at := (He.glo_ok X G (cd.fact 12 (f := .glo "value_at") rfl))
  have b_value_at : Binds K fd_value_at ["step", "number"] [] := F_value_at.binds fun _ _ _ _ _ _ us hl => match us, hl with | [_, _], _ => rfl
  obtain ⟨fd__law_mixed, D__law_mixed⟩ := cd.def_ 13 rfl
  have F__law_mixed : Fun K "_law_mixed" "_law_mixed" s__law_mixed (He.ga K "_law_mixed") fd__law_mixed := fun_ofD D__law_mixed.kp D__law_mixed
  have m__law_mixed := (He.glo_ok X G (cd.fact 13 (f := .glo "_law_mixed") rfl))
  have b__law_mixed : Binds K fd__law_mixed ["cell", "k"] [] := F__law_mixed.binds fun _ _ _ _ _ _ us hl => match us, hl with | [_, _], _ => rfl
  obtain ⟨fd__law_begin, D__law_begin⟩ := cd.def_ 14 rfl
  have F__law_begin : Fun K "_law_begin" "_law_begin" s__law_begin (He.ga K "_law_begin") fd__law_begin := fun_ofD D__law_begin.kp D__law_begin
  have m__law_begin := (He.glo_ok X G (cd.fact 14 (f := .glo "_law_begin") rfl))
  have b__law_begin : Binds K fd__law_begin ["script"] [] := F__law_begin.binds fun _ _ _ _ _ _ us hl => match us, hl with | [_], _ => rfl
  obtain ⟨fd__law_draw, D__law_draw⟩ := cd.def_ 15 rfl
  have F__law_draw : Fun K "_law_draw" "_law_draw" s__law_draw (He.ga K "_law_draw") fd__law_draw := fun_ofD D__law_draw.kp D__law_draw
  have m__law_draw := (He.glo_ok X G (cd.fact 15 (f := .glo "_law_draw") rfl))
  have b__law_draw : Binds K fd__law_draw ["state", "limit"] [] := F__law_draw.binds fun _ _ _ _ _ _ us hl => match us, hl with | [_, _], _ => rfl
  obtain ⟨fd__law_of, D__law_of⟩ := cd.def_ 16 rfl
  have F__law_of : Fun K "_law_of" "_law_of" s__law_of (He.ga K "_law_of") fd__law_of := fun_ofD D__law_of.kp D__law_of
  have m__law_of := (He.glo_ok X G (cd.fact 16 (f := .glo "_law_of") rfl))
  have b__law_of : Binds K fd__law_of ["state", "some"] [] := F__law_of.binds fun _ _ _ _ _ _ us hl => match us, hl with | [_, _], _ => rfl
  obtain ⟨fd__law_number, D__law_number⟩ := cd.def_ 17 rfl
  have F__law_number : Fun K "_law_number" "_law_number" s__law_number (He.ga K "_law_number") fd__law_number := fun_ofD D__law_number.kp D__law_number
  have m__law_number := (He.glo_ok X G (cd.fact 17 (f := .glo "_law_number") rfl))
  have b__law_number : Binds K fd__law_number ["state", "widest", "below"] [] := F__law_number.binds fun _ _ _ _ _ _ us hl => match us, hl with | [_, _, _], _ => rfl
  obtain ⟨fd__law_step, D__law_step⟩ := cd.def_ 18 rfl
  have F__law_step : Fun K "_law_step" "_law_step" s__law_step (He.ga K "_law_step") fd__law_step := fun_ofD D__law_step.kp D__law_step
  have m__law_step := (He.glo_ok X G (cd.fact 18 (f := .glo "_law_step") rfl))
  have b__law_step : Binds K fd__law_step ["state", "size", "widest", "below"] [] := F__law_step.binds fun _ _ _ _ _ _ us hl => match us, hl with | [_, _, _, _], _ => rfl
  obtain ⟨fd__law_plain, D__law_plain⟩ := cd.def_ 19 rfl
  have F__law_plain : Fun K "_law_plain" "_law_plain" s__law_plain (He.ga K "_law_plain") fd__law_plain := fun_ofD D__law_plain.kp D__law_plain
  have m__law_plain := (He.glo_ok X G (cd.fact 19 (f := .glo "_law_plain") rfl))
  have b__law_plain : Binds K fd__law_plain ["state", "size", "widest", "below"] [] := F__law_plain.binds fun _ _ _ _ _ _ us hl => match us, hl with | [_, _, _, _], _ => rfl
  obtain ⟨fd__law_divisor, D__law_divisor⟩ := cd.def_ 20 rfl
  have F__law_divisor : Fun K "_law_divisor" "_law_divisor" s__law_divisor (He.ga K "_law_divisor") fd__law_divisor := fun_ofD D__law_divisor.kp D__law_divisor
  have m__law_divisor := (He.glo_ok X G (cd.fact 20 (f := .glo "_law_divisor") rfl))
  have b__law_divisor : Binds K fd__law_divisor ["one", "other"] [] := F__law_divisor.binds fun _ _ _ _ _ _ us hl => match us, hl with | [_, _], _ => rfl
  obtain ⟨fd__law_frac, D__law_frac⟩ := cd.def_ 21 rfl
  have F__law_frac : Fun K "_law_frac" "_law_frac" s__law_frac (He.ga K "_law_frac") fd__law_frac := fun_ofD D__law_frac.kp D__law_frac
  have m__law_frac := (He.glo_ok X G (cd.fact 21 (f := .glo "_law_frac") rfl))
  have b__law_frac : Binds K fd__law_frac ["above", "below"] [] := F__law_frac.binds fun _ _ _ _ _ _ us hl => match us, hl with | [_, _], _ => rfl
  obtain ⟨fd__law_add, D__law_add⟩ := cd.def_ 22 rfl
  have F__law_add : Fun K "_law_add" "_law_add" s__law_add (He.ga K "_law_add") fd__law_add := fun_ofD D__law_add.kp D__law_add
  have m__law_add := (He.glo_ok X G (cd.fact 22 (f := .glo "_law_add") rfl))
  have b__law_add : Binds K fd__law_add ["one", "other"] [] := F__law_add.binds fun _ _ _ _ _ _ us hl => match us, hl with | [_, _], _ => rfl
  obtain ⟨fd__law_mul, D__law_mul⟩ := cd.def_ 23 rfl
  have F__law_mul : Fun K "_law_mul" "_law_mul" s__law_mul (He.ga K "_law_mul") fd__law_mul := fun_ofD D__law_mul.kp D__law_mul
  have m__law_mul := (He.glo_ok X G (cd.fact 23 (f := .glo "_law_mul") rfl))
  have b__law_mul : Binds K fd__law_mul ["one", "other"] [] := F__law_mul.binds fun _ _ _ _ _ _ us hl => match us, hl with | [_, _], _ => rfl
  obtain ⟨fd__law_like, D__law_like⟩ := cd.def_ 24 rfl
  have F__law_like : Fun K "_law_like" "_law_like" s__law_like (He.ga K "_law_like") fd__law_like := fun_ofD D__law_like.kp D__law_like
  have m__law_like := (He.glo_ok X G (cd.fact 24 (f := .glo "_law_like") rfl))
  have b__law_like : Binds K fd__law_like ["got", "due"] [] := F__law_like.binds fun _ _ _ _ _ _ us hl => match us, hl with | [_, _], _ => rfl
  obtain ⟨fd__law_refusal, D__law_refusal⟩ := cd.def_ 25 rfl
  have F__law_refusal : Fun K "_law_refusal" "_law_refusal" s__law_refusal (He.ga K "_law_refusal") fd__law_refusal := fun_ofD D__law_refusal.kp D__law_refusal
  have m__law_refusal := (He.glo_ok X G (cd.fact 25 (f := .glo "_law_refusal") rfl))
  have b__law_refusal : Binds K fd__law_refusal ["tell"] [] := F__law_refusal.binds fun _ _ _ _ _ _ us hl => match us, hl with | [_], _ => rfl
  obtain ⟨fd__law_power, D__law_power⟩ := cd.def_ 26 rfl
  have F__law_power : Fun K "_law_power" "_law_power" s__law_power (He.ga K "_law_power") fd__law_power := fun_ofD D__law_power.kp D__law_power
  have m__law_power := (He.glo_ok X G (cd.fact 26 (f := .glo "_law_power") rfl))
  have b__law_power : Binds K fd__law_power ["size"] [] := F__law_power.binds fun _ _ _ _ _ _ us hl => match us, hl with | [_], _ => rfl
  obtain ⟨fd__law_sum_of_powers, D__law_sum_of_powers⟩ := cd.def_ 27 rfl
  have F__law_sum_of_powers : Fun K "_law_sum_of_powers" "_law_sum_of_powers" s__law_sum_of_powers (He.ga K "_law_sum_of_powers") fd__law_sum_of_powers := fun_ofD D__law_sum_of_powers.kp D__law_sum_of_powers
  have m__law_sum_of_powers := (He.glo_ok X G (cd.fact 27 (f := .glo "_law_sum_of_powers") rfl))
  have b__law_sum_of_powers : Binds K fd__law_sum_of_powers ["told", "worth"] [] := F__law_sum_of_powers.binds fun _ _ _ _ _ _ us hl => match us, hl with | [_, _], _ => rfl
  obtain ⟨fd__law_right, D__law_right⟩ := cd.def_ 28 rfl
  have F__law_right : Fun K "_law_right" "_law_right" s__law_right (He.ga K "_law_right") fd__law_right := fun_ofD D__law_right.kp D__law_right
  have m__law_right := (He.glo_ok X G (cd.fact 28 (f := .glo "_law_right") rfl))
  have b__law_right : Binds K fd__law_right ["state"] [] := F__law_right.binds fun _ _ _ _ _ _ us hl => match us, hl with | [_], _ => rfl
  obtain ⟨fd__law_refused, D__law_refused⟩ := cd.def_ 29 rfl
  have F__law_refused : Fun K "_law_refused" "_law_refused" s__law_refused (He.ga K "_law_refused") fd__law_refused := fun_ofD D__law_refused.kp D__law_refused
  have m__law_refused := (He.glo_ok X G (cd.fact 29 (f := .glo "_law_refused") rfl))
  have b__law_refused : Binds K fd__law_refused ["state"] [] := F__law_refused.binds fun _ _ _ _ _ _ us hl => match us, hl with | [_], _ => rfl
  obtain ⟨fd__law_borders, D__law_borders⟩ := cd.def_ 30 rfl
  have F__law_borders : Fun K "_law_borders" "_law_borders" s__law_borders (He.ga K "_law_borders") fd__law_borders := fun_ofD D__law_borders.kp D__law_borders
  have m__law_borders := (He.glo_ok X G (cd.fact 30 (f := .glo "_law_borders") rfl))
  have b__law_borders : Binds K fd__law_borders [] [] := F__law_borders.binds fun _ _ _ _ _ _ us hl => match us, hl with | [], _ => rfl
  obtain ⟨fd__law_named, D__law_named⟩ := cd.def_ 31 rfl
  have F__law_named : Fun K "_law_named" "_law_named" s__law_named (He.ga K "_law_named") fd__law_named := fun_ofD D__law_named.kp D__law_named
  have m__law_named := (He.glo_ok X G (cd.fact 31 (f := .glo "_law_named") rfl))
  have b__law_named : Binds K fd__law_named [] [] := F__law_named.binds fun _ _ _ _ _ _ us hl => match us, hl with | [], _ => rfl
  obtain ⟨fd__law_errors, D__law_errors⟩ := cd.def_ 32 rfl
  have F__law_errors : Fun K "_law_errors" "_law_errors" s__law_errors (He.ga K "_law_errors") fd__law_errors := fun_ofD D__law_errors.kp D__law_errors
  have m__law_errors := (He.glo_ok X G (cd.fact 32 (f := .glo "_law_errors") rfl))
  have b__law_errors : Binds K fd__law_errors [] [] := F__law_errors.binds fun _ _ _ _ _ _ us hl => match us, hl with | [], _ => rfl
  obtain ⟨fd_law, D_law⟩ := cd.def_ 33 rfl
  have F_law : Fun K "law" "law" s_law (He.ga K "law") fd_law := fun_ofD D_law.kp D_law
  have m_law := (He.glo_ok X G (cd.fact 33 (f := .glo "law") rfl))
  have b_law : Binds K fd_law ["script"] [] := F_law.binds fun _ _ _ _ _ _ us hl => match us, hl with | [_], _ => rfl
  have mA : ∀ x ∈ exns, OexC K (He.ga K x) ∧ XfC K (He.ga K x) := fun x hx => oexB_ok (List.all_eq_true.mp mx x hx)
  obtain ⟨fd_BadNumber, D_BadNumber⟩ := cd.def_ 34 rfl
  have F_BadNumber : Fun K "__init__" "BadNumber.__init__" s_BadNumber_init (He.fAd K ("BadNumber", some "__init__")) fd_BadNumber := fun_ofD D_BadNumber.kp D_BadNumber
  have b_BadNumber : Binds K fd_BadNumber ["self", "value"] [] := F_BadNumber.binds fun _ _ _ _ _ _ us hl => match us, hl with | [_, _], _ => rfl
  obtain ⟨i_BadNumber, j_BadNumber⟩ := He.ba (cd.fact 147 (f := .meth "BadNumber" "__init__") rfl)
  have f_BadNumber : PySem.W.findIn K (.ref (He.ga K "BadNumber")) "__init__" = some (some (.ref (He.fAd K ("BadNumber", some "__init__")))) := He.eqO_ok i_BadNumber
  have t_BadNumber : PySem.W.typeIn K (.ref (He.fAd K ("BadNumber", some "__init__"))) = some (.type "function") := beq_iff_eq.mp (He.ba j_BadNumber).1
  have n_BadNumber_value : PySem.W.findIn K (.ref (He.ga K "BadNumber")) "value" = some none := He.eqO_ok (cd.fact 148 (f := .noat "BadNumber" "value") rfl)
  have A_BadNumber := mA "BadNumber" (by decide)
  obtain ⟨fd_BadStep, D_BadStep⟩ := cd.def_ 35 rfl
  have F_BadStep : Fun K "__init__" "BadStep.__init__" s_BadStep_init (He.fAd K ("BadStep", some "__init__")) fd_BadStep := fun_ofD D_BadStep.kp D_BadStep
  have b_BadStep : Binds K fd_BadStep ["self", "value"] [] := F_BadStep.binds fun _ _ _ _ _ _ us hl => match us, hl with | [_, _], _ => rfl
  obtain ⟨i_BadStep, j_BadStep⟩ := He.ba (cd.fact 149 (f := .meth "BadStep" "__init__") rfl)
  have f_BadStep : PySem.W.findIn K (.ref (He.ga K "BadStep")) "__init__" = some (some (.ref (He.fAd K ("BadStep", some "__init__")))) := He.eqO_ok i_BadStep
  have t_BadStep : PySem.W.typeIn K (.ref (He.fAd K ("BadStep", some "__init__"))) = some (.type "function") := beq_iff_eq.mp (He.ba j_BadStep).1
  have n_BadStep_value : PySem.W.findIn K (.ref (He.ga K "BadStep")) "value" = some none := He.eqO_ok (cd.fact 150 (f := .noat "BadStep" "value") rfl)
  have A_BadStep := mA "BadStep" (by decide)
  obtain ⟨fd_BadRow, D_BadRow⟩ := cd.def_ 36 rfl
  have F_BadRow : Fun K "__init__" "BadRow.__init__" s_BadRow_init (He.fAd K ("BadRow", some "__init__")) fd_BadRow := fun_ofD D_BadRow.kp D_BadRow
  have b_BadRow : Binds K fd_BadRow ["self", "place"] [] := F_BadRow.binds fun _ _ _ _ _ _ us hl => match us, hl with | [_, _], _ => rfl
  obtain ⟨i_BadRow, j_BadRow⟩ := He.ba (cd.fact 151 (f := .meth "BadRow" "__init__") rfl)
  have f_BadRow : PySem.W.findIn K (.ref (He.ga K "BadRow")) "__init__" = some (some (.ref (He.fAd K ("BadRow", some "__init__")))) := He.eqO_ok i_BadRow
  have t_BadRow : PySem.W.typeIn K (.ref (He.fAd K ("BadRow", some "__init__"))) = some (.type "function") := beq_iff_eq.mp (He.ba j_BadRow).1
  have n_BadRow_place : PySem.W.findIn K (.ref (He.ga K "BadRow")) "place" = some none := He.eqO_ok (cd.fact 152 (f := .noat "BadRow" "place") rfl)
  have A_BadRow := mA "BadRow" (by decide)
  obtain ⟨fd_BadParameter, D_BadParameter⟩ := cd.def_ 37 rfl
  have F_BadParameter : Fun K "__init__" "BadParameter.__init__" s_BadParameter_init (He.fAd K ("BadParameter", some "__init__")) fd_BadParameter := fun_ofD D_BadParameter.kp D_BadParameter
  have b_BadParameter : Binds K fd_BadParameter ["self", "value"] [] := F_BadParameter.binds fun _ _ _ _ _ _ us hl => match us, hl with | [_, _], _ => rfl
  obtain ⟨i_BadParameter, j_BadParameter⟩ := He.ba (cd.fact 153 (f := .meth "BadParameter" "__init__") rfl)
  have f_BadParameter : PySem.W.findIn K (.ref (He.ga K "BadParameter")) "__init__" = some (some (.ref (He.fAd K ("BadParameter", some "__init__")))) := He.eqO_ok i_BadParameter
  have t_BadParameter : PySem.W.typeIn K (.ref (He.fAd K ("BadParameter", some "__init__"))) = some (.type "function") := beq_iff_eq.mp (He.ba j_BadParameter).1
  have n_BadParameter_value : PySem.W.findIn K (.ref (He.ga K "BadParameter")) "value" = some none := He.eqO_ok (cd.fact 154 (f := .noat "BadParameter" "value") rfl)
  have A_BadParameter := mA "BadParameter" (by decide)
  obtain ⟨fd_BadIndex, D_BadIndex⟩ := cd.def_ 38 rfl
  have F_BadIndex : Fun K "__init__" "BadIndex.__init__" s_BadIndex_init (He.fAd K ("BadIndex", some "__init__")) fd_BadIndex := fun_ofD D_BadIndex.kp D_BadIndex
  have b_BadIndex : Binds K fd_BadIndex ["self", "value"] [] := F_BadIndex.binds fun _ _ _ _ _ _ us hl => match us, hl with | [_, _], _ => rfl
  obtain ⟨i_BadIndex, j_BadIndex⟩ := He.ba (cd.fact 155 (f := .meth "BadIndex" "__init__") rfl)
  have f_BadIndex : PySem.W.findIn K (.ref (He.ga K "BadIndex")) "__init__" = some (some (.ref (He.fAd K ("BadIndex", some "__init__")))) := He.eqO_ok i_BadIndex
  have t_BadIndex : PySem.W.typeIn K (.ref (He.fAd K ("BadIndex", some "__init__"))) = some (.type "function") := beq_iff_eq.mp (He.ba j_BadIndex).1
  have n_BadIndex_value : PySem.W.findIn K (.ref (He.ga K "BadIndex")) "value" = some none := He.eqO_ok (cd.fact 156 (f := .noat "BadIndex" "value") rfl)
  have A_BadIndex := mA "BadIndex" (by decide)
  obtain ⟨fd_BadText, D_BadText⟩ := cd.def_ 39 rfl
  have F_BadText : Fun K "__init__" "BadText.__init__" s_BadText_init (He.fAd K ("BadText", some "__init__")) fd_BadText := fun_ofD D_BadText.kp D_BadText
  have b_BadText : Binds K fd_BadText ["self", "line", "word"] [] := F_BadText.binds fun _ _ _ _ _ _ us hl => match us, hl with | [_, _, _], _ => rfl
  obtain ⟨i_BadText, j_BadText⟩ := He.ba (cd.fact 157 (f := .meth "BadText" "__init__") rfl)
  have f_BadText : PySem.W.findIn K (.ref (He.ga K "BadText")) "__init__" = some (some (.ref (He.fAd K ("BadText", some "__init__")))) := He.eqO_ok i_BadText
  have t_BadText : PySem.W.typeIn K (.ref (He.fAd K ("BadText", some "__init__"))) = some (.type "function") := beq_iff_eq.mp (He.ba j_BadText).1
  have n_BadText_line : PySem.W.findIn K (.ref (He.ga K "BadText")) "line" = some none := He.eqO_ok (cd.fact 158 (f := .noat "BadText" "line") rfl)
  have n_BadText_word : PySem.W.findIn K (.ref (He.ga K "BadText")) "word" = some none := He.eqO_ok (cd.fact 159 (f := .noat "BadText" "word") rfl)
  have A_BadText := mA "BadText" (by decide)
  obtain ⟨fd_BadDeed, D_BadDeed⟩ := cd.def_ 40 rfl
  have F_BadDeed : Fun K "__init__" "BadDeed.__init__" s_BadDeed_init (He.fAd K ("BadDeed", some "__init__")) fd_BadDeed := fun_ofD D_BadDeed.kp D_BadDeed
  have b_BadDeed : Binds K fd_BadDeed ["self", "place"] [] := F_BadDeed.binds fun _ _ _ _ _ _ us hl => match us, hl with | [_, _], _ => rfl
  obtain ⟨i_BadDeed, j_BadDeed⟩ := He.ba (cd.fact 160 (f := .meth "BadDeed" "__init__") rfl)
  have f_BadDeed : PySem.W.findIn K (.ref (He.ga K "BadDeed")) "__init__" = some (some (.ref (He.fAd K ("BadDeed", some "__init__")))) := He.eqO_ok i_BadDeed
  have t_BadDeed : PySem.W.typeIn K (.ref (He.fAd K ("BadDeed", some "__init__"))) = some (.type "function") := beq_iff_eq.mp (He.ba j_BadDeed).1
  have n_BadDeed_place : PySem.W.findIn K (.ref (He.ga K "BadDeed")) "place" = some none := He.eqO_ok (cd.fact 161 (f := .noat "BadDeed" "place") rfl)
  have A_BadDeed := mA "BadDeed" (by decide)
  obtain ⟨fd_Unlike, D_Unlike⟩ := cd.def_ 41 rfl
  have F_Unlike : Fun K "__init__" "Unlike.__init__" s_Unlike_init (He.fAd K ("Unlike", some "__init__")) fd_Unlike := fun_ofD D_Unlike.kp D_Unlike
  have b_Unlike : Binds K fd_Unlike ["self", "value"] [] := F_Unlike.binds fun _ _ _ _ _ _ us hl => match us, hl with | [_, _], _ => rfl
  obtain ⟨i_Unlike, j_Unlike⟩ := He.ba (cd.fact 162 (f := .meth "Unlike" "__init__") rfl)
  have f_Unlike : PySem.W.findIn K (.ref (He.ga K "Unlike")) "__init__" = some (some (.ref (He.fAd K ("Unlike", some "__init__")))) := He.eqO_ok i_Unlike
  have t_Unlike : PySem.W.typeIn K (.ref (He.fAd K ("Unlike", some "__init__"))) = some (.type "function") := beq_iff_eq.mp (He.ba j_Unlike).1
  have n_Unlike_value : PySem.W.findIn K (.ref (He.ga K "Unlike")) "value" = some none := He.eqO_ok (cd.fact 163 (f := .noat "Unlike" "value") rfl)
  have A_Unlike := mA "Unlike" (by decide)
  obtain ⟨fd_TooGreat, D_TooGreat⟩ := cd.def_ 42 rfl
  have F_TooGreat : Fun K "__init__" "TooGreat.__init__" s_TooGreat_init (He.fAd K ("TooGreat", some "__init__")) fd_TooGreat := fun_ofD D_TooGreat.kp D_TooGreat
  have b_TooGreat : Binds K fd_TooGreat ["self", "most"] [] := F_TooGreat.binds fun _ _ _ _ _ _ us hl => match us, hl with | [_, _], _ => rfl
  obtain ⟨i_TooGreat, j_TooGreat⟩ := He.ba (cd.fact 164 (f := .meth "TooGreat" "__init__") rfl)
  have f_TooGreat : PySem.W.findIn K (.ref (He.ga K "TooGreat")) "__init__" = some (some (.ref (He.fAd K ("TooGreat", some "__init__")))) := He.eqO_ok i_TooGreat
  have t_TooGreat : PySem.W.typeIn K (.ref (He.fAd K ("TooGreat", some "__init__"))) = some (.type "function") := beq_iff_eq.mp (He.ba j_TooGreat).1
  have n_TooGreat_most : PySem.W.findIn K (.ref (He.ga K "TooGreat")) "most" = some none := He.eqO_ok (cd.fact 165 (f := .noat "TooGreat" "most") rfl)
  have A_TooGreat := mA "TooGreat" (by decide)
  obtain ⟨oc, od, dV, kV, doc, pm, an, cdv, ct, osl, er, lk, hcd, _, _⟩ := D__law_refused.ex
  obtain ⟨c0, rfl⟩ := He.codeIn_ref hcd
  have hc0 : fd__law_refused.code = .ref c0 := by rw [er]
  have hc1 : He.codeOf K ("_law_refused", none) = c0 := He.codeOf_eq (p := ("_law_refused", none)) lk hc0
  have hc : fd__law_refused.code = .ref (He.cT K ("_law_refused", none)).1 := by
    show fd__law_refused.code = .ref (He.codeOf K ("_law_refused", none))
    rw [hc0, hc1]
  have efa : fa = He.ga K "law" := by
    have e := hfa.symm.trans m_law
    cases e
    rfl
  subst efa
  refine ⟨fd_law, _, _, rfl, rfl, fun s u => ?_, fun base Kb Gb TB => ?_⟩
  · obtain ⟨_, _, kV, doc, pm, an, cdv, ct, _, e, _, _⟩ := F_law.ex
    exact .of_eq (fun_kw F_law fun _ _ _ _ _ _ => rfl)
  have TB0 := TB _ List.mem_cons_self
  have e_BadNumber : Ec P w K mg base "BadNumber" "value" (He.ga K "BadNumber") := ⟨A_BadNumber.1, n_BadNumber_value, (He.glo_ok X G (cd.fact 35 (f := .glo "BadNumber") rfl)), A_BadNumber.2, _, _, f_BadNumber, t_BadNumber, ok_BadNumber_init F_BadNumber, b_BadNumber⟩
  have e_BadStep : Ec P w K mg base "BadStep" "value" (He.ga K "BadStep") := ⟨A_BadStep.1, n_BadStep_value, (He.glo_ok X G (cd.fact 36 (f := .glo "BadStep") rfl)), A_BadStep.2, _, _, f_BadStep, t_BadStep, ok_BadStep_init F_BadStep, b_BadStep⟩
  have e_BadRow : Ec P w K mg base "BadRow" "place" (He.ga K "BadRow") := ⟨A_BadRow.1, n_BadRow_place, (He.glo_ok X G (cd.fact 37 (f := .glo "BadRow") rfl)), A_BadRow.2, _, _, f_BadRow, t_BadRow, ok_BadRow_init F_BadRow, b_BadRow⟩
  have XS : Exs P w K mg base (adK K) := ⟨e_BadNumber, e_BadStep, e_BadRow⟩
  have XQ : Exq K mg (adK K) := ⟨of_decide_eq_true (cd.fact 70 (f := .exm "BadNumber" "BadNumber" true) rfl), of_decide_eq_true (cd.fact 77 (f := .exm "BadStep" "BadNumber" false) rfl), of_decide_eq_true (cd.fact 78 (f := .exm "BadStep" "BadStep" true) rfl), of_decide_eq_true (cd.fact 84 (f := .exm "BadRow" "BadNumber" false) rfl), of_decide_eq_true (cd.fact 85 (f := .exm "BadRow" "BadStep" false) rfl), of_decide_eq_true (cd.fact 86 (f := .exm "BadRow" "BadRow" true) rfl), ⟨_, (He.glo_ok X G (cd.fact 38 (f := .glo "BadParameter") rfl)), A_BadParameter.2, n_BadParameter_value⟩, ⟨_, (He.glo_ok X G (cd.fact 44 (f := .glo "TooGreat") rfl)), A_TooGreat.2, n_TooGreat_most⟩, ⟨_, (He.glo_ok X G (cd.fact 42 (f := .glo "NoRow") rfl))⟩, ⟨_, (He.glo_ok X G (cd.fact 34 (f := .glo "StepError") rfl))⟩⟩
  have v_BadNumber : Ev P w K mg base "BadNumber" ["value"] (av K "BadNumber") (sp_init K "value") := ⟨A_BadNumber.1, (He.glo_ok X G (cd.fact 35 (f := .glo "BadNumber") rfl)), _, _, f_BadNumber, t_BadNumber, ok_BadNumber_init F_BadNumber, b_BadNumber, fun us a hl => match us, hl with | [u], _ => fun_kw F_BadNumber fun _ _ _ _ _ _ => rfl⟩
  have v_BadStep : Ev P w K mg base "BadStep" ["value"] (av K "BadStep") (sp_init K "value") := ⟨A_BadStep.1, (He.glo_ok X G (cd.fact 36 (f := .glo "BadStep") rfl)), _, _, f_BadStep, t_BadStep, ok_BadStep_init F_BadStep, b_BadStep, fun us a hl => match us, hl with | [u], _ => fun_kw F_BadStep fun _ _ _ _ _ _ => rfl⟩
  have v_BadRow : Ev P w K mg base "BadRow" ["place"] (av K "BadRow") (sp_init K "place") := ⟨A_BadRow.1, (He.glo_ok X G (cd.fact 37 (f := .glo "BadRow") rfl)), _, _, f_BadRow, t_BadRow, ok_BadRow_init F_BadRow, b_BadRow, fun us a hl => match us, hl with | [u], _ => fun_kw F_BadRow fun _ _ _ _ _ _ => rfl⟩
  have v_BadParameter : Ev P w K mg base "BadParameter" ["value"] (av K "BadParameter") (sp_init K "value") := ⟨A_BadParameter.1, (He.glo_ok X G (cd.fact 38 (f := .glo "BadParameter") rfl)), _, _, f_BadParameter, t_BadParameter, ok_BadParameter_init F_BadParameter, b_BadParameter, fun us a hl => match us, hl with | [u], _ => fun_kw F_BadParameter fun _ _ _ _ _ _ => rfl⟩
  have v_BadIndex : Ev P w K mg base "BadIndex" ["value"] (av K "BadIndex") (sp_init K "value") := ⟨A_BadIndex.1, (He.glo_ok X G (cd.fact 39 (f := .glo "BadIndex") rfl)), _, _, f_BadIndex, t_BadIndex, ok_BadIndex_init F_BadIndex, b_BadIndex, fun us a hl => match us, hl with | [u], _ => fun_kw F_BadIndex fun _ _ _ _ _ _ => rfl⟩
  have v_BadDeed : Ev P w K mg base "BadDeed" ["place"] (av K "BadDeed") (sp_init K "place") := ⟨A_BadDeed.1, (He.glo_ok X G (cd.fact 41 (f := .glo "BadDeed") rfl)), _, _, f_BadDeed, t_BadDeed, ok_BadDeed_init F_BadDeed, b_BadDeed, fun us a hl => match us, hl with | [u], _ => fun_kw F_BadDeed fun _ _ _ _ _ _ => rfl⟩
  have v_Unlike : Ev P w K mg base "Unlike" ["value"] (av K "Unlike") (sp_init K "value") := ⟨A_Unlike.1, (He.glo_ok X G (cd.fact 43 (f := .glo "Unlike") rfl)), _, _, f_Unlike, t_Unlike, ok_Unlike_init F_Unlike, b_Unlike, fun us a hl => match us, hl with | [u], _ => fun_kw F_Unlike fun _ _ _ _ _ _ => rfl⟩
  have v_TooGreat : Ev P w K mg base "TooGreat" ["most"] (av K "TooGreat") (sp_init K "most") := ⟨A_TooGreat.1, (He.glo_ok X G (cd.fact 44 (f := .glo "TooGreat") rfl)), _, _, f_TooGreat, t_TooGreat, ok_TooGreat_init F_TooGreat, b_TooGreat, fun us a hl => match us, hl with | [u], _ => fun_kw F_TooGreat fun _ _ _ _ _ _ => rfl⟩
  have v_BadText : Ev P w K mg base "BadText" ["line", "word"] (av K "BadText") (sp_init2 K "line" "word") := ⟨A_BadText.1, (He.glo_ok X G (cd.fact 40 (f := .glo "BadText") rfl)), _, _, f_BadText, t_BadText, ok_BadText_init F_BadText, b_BadText, fun us a hl => match us, hl with | [u, v], _ => fun_kw F_BadText fun _ _ _ _ _ _ => rfl⟩
  have n_NoRow : En K mg "NoRow" (av K "NoRow") := by
    obtain ⟨h1, h2⟩ := He.ba (cd.fact 166 (f := .exc "NoRow") rfl)
    exact ⟨h1, (He.glo_ok X G (cd.fact 42 (f := .glo "NoRow") rfl)), (He.ba h2).1⟩
  have n_NothingBack : En K mg "NothingBack" (av K "NothingBack") := by
    obtain ⟨h1, h2⟩ := He.ba (cd.fact 167 (f := .exc "NothingBack") rfl)
    exact ⟨h1, (He.glo_ok X G (cd.fact 45 (f := .glo "NothingBack") rfl)), (He.ba h2).1⟩
  have ec : ∀ x ∈ errs, ExcC K (av K x) := fun x hx => excB_ok (List.all_eq_true.mp me x hx)
  have kt : ∀ (i j : Nat) (x y : Str), errs[i]? = some x → errs[j]? = some y → PySem.W.kitOne K (.ref (av K x)) (.ref (av K y)) = some (decide (i = j)) := fun i j x y hx hy => by
    have h1 := List.all_eq_true.mp mk (x, i) (List.mem_zipIdx_iff_getElem?.mpr hx)
    exact of_decide_eq_true (List.all_eq_true.mp h1 (y, j) (List.mem_zipIdx_iff_getElem?.mpr hy))
  have kS : ∀ x ∈ errs, PySem.W.kitOne K (.ref (av K x)) (.ref (av K "StepError")) = some true ∧ PySem.W.kitOne K (.ref (av K x)) (.type "ValueError") = some true := fun x hx => by
    obtain ⟨h1, h2⟩ := He.ba (List.all_eq_true.mp ms x hx)
    exact ⟨of_decide_eq_true h1, of_decide_eq_true h2⟩
  have EV : Evs P w K mg base (av K) := ⟨v_BadNumber, ⟨A_BadNumber.2, n_BadNumber_value⟩, v_BadStep, ⟨A_BadStep.2, n_BadStep_value⟩, v_BadRow, ⟨A_BadRow.2, n_BadRow_place⟩, v_BadParameter, ⟨A_BadParameter.2, n_BadParameter_value⟩, v_BadIndex, ⟨A_BadIndex.2, n_BadIndex_value⟩, v_BadDeed, ⟨A_BadDeed.2, n_BadDeed_place⟩, v_Unlike, ⟨A_Unlike.2, n_Unlike_value⟩, v_TooGreat, ⟨A_TooGreat.2, n_TooGreat_most⟩, v_BadText, ⟨A_BadText.2, n_BadText_line, n_BadText_word⟩, n_NoRow, n_NothingBack, (He.glo_ok X G (cd.fact 34 (f := .glo "StepError") rfl)), ec, kt, kS⟩
  have C_fraction : Ce P w K mg base _ _ "fraction" _ _ := ⟨_, _, (ok_fraction F_fraction T), D_fraction.kp, b_fraction, m_fraction⟩
  have C_opened : Ce P w K mg base _ _ "opened" _ _ := ⟨_, _, (ok_opened F_opened T), D_opened.kp, b_opened, m_opened⟩
  have C_value_of : Ce P w K mg base _ _ "value_of" _ _ := ⟨_, _, (ok_value_of F_value_of T C_fraction C_opened), D_value_of.kp, b_value_of, m_value_of⟩
  have C_is_integer : Ce P w K mg base _ _ "is_integer" _ _ := ⟨_, _, (ok_is_integer F_is_integer T), D_is_integer.kp, b_is_integer, m_is_integer⟩
  have C_is_number : Ce P w K mg base _ _ "is_number" _ _ := ⟨_, _, (ok_is_number F_is_number T C_is_integer), D_is_number.kp, b_is_number, m_is_number⟩
  have C_is_step : Ce P w K mg base _ _ "is_step" _ _ := ⟨_, _, (ok_is_step F_is_step T C_is_number), D_is_step.kp, b_is_step, m_is_step⟩
  have C_need_number : Ce P w K mg base _ _ "need_number" _ _ := ⟨_, _, (ok_need_number F_need_number T XS C_is_number), D_need_number.kp, b_need_number, m_need_number⟩
  have K_need_number : CeK P w K mg base _ _ "need_number" _ _ := ⟨_, _, (ok_need_number F_need_number T XS C_is_number), D_need_number.kp, fun us hl => match us, hl with | [u0], _ => fun_kw F_need_number fun _ _ _ _ _ _ => rfl, m_need_number⟩
  have C_need_step : Ce P w K mg base _ _ "need_step" _ _ := ⟨_, _, (ok_need_step F_need_step T XS C_is_step), D_need_step.kp, b_need_step, m_need_step⟩
  have K_need_step : CeK P w K mg base _ _ "need_step" _ _ := ⟨_, _, (ok_need_step F_need_step T XS C_is_step), D_need_step.kp, fun us hl => match us, hl with | [u0], _ => fun_kw F_need_step fun _ _ _ _ _ _ => rfl, m_need_step⟩
  have C_degree_of : Ce P w K mg base _ _ "degree_of" _ _ := ⟨_, _, (ok_degree_of F_degree_of T C_need_step), D_degree_of.kp, b_degree_of, m_degree_of⟩
  have K_degree_of : CeK P w K mg base _ _ "degree_of" _ _ := ⟨_, _, (ok_degree_of F_degree_of T C_need_step), D_degree_of.kp, fun us hl => match us, hl with | [u0], _ => fun_kw F_degree_of fun _ _ _ _ _ _ => rfl, m_degree_of⟩
  have C_head_of : Ce P w K mg base _ _ "head_of" _ _ := ⟨_, _, (ok_head_of F_head_of T C_need_step), D_head_of.kp, b_head_of, m_head_of⟩
  have K_head_of : CeK P w K mg base _ _ "head_of" _ _ := ⟨_, _, (ok_head_of F_head_of T C_need_step), D_head_of.kp, fun us hl => match us, hl with | [u0], _ => fun_kw F_head_of fun _ _ _ _ _ _ => rfl, m_head_of⟩
  have C_is_plain : Ce P w K mg base _ _ "is_plain" _ _ := ⟨_, _, (ok_is_plain F_is_plain T C_need_step), D_is_plain.kp, b_is_plain, m_is_plain⟩
  have K_is_plain : CeK P w K mg base _ _ "is_plain" _ _ := ⟨_, _, (ok_is_plain F_is_plain T C_need_step), D_is_plain.kp, fun us hl => match us, hl with | [u0], _ => fun_kw F_is_plain fun _ _ _ _ _ _ => rfl, m_is_plain⟩
  have C_value_at : Ce P w K mg base _ _ "value_at" _ _ := ⟨_, _, (ok_value_at F_value_at T C_need_step C_need_number C_value_of), D_value_at.kp, b_value_at, m_value_at⟩
  have K_value_at : CeK P w K mg base _ _ "value_at" _ _ := ⟨_, _, (ok_value_at F_value_at T C_need_step C_need_number C_value_of), D_value_at.kp, fun us hl => match us, hl with | [u0, u1], _ => fun_kw F_value_at fun _ _ _ _ _ _ => rfl, m_value_at⟩
  have C_need_row : Ce P w K mg base _ _ "need_row" _ _ := ⟨_, _, (ok_need_row F_need_row T XS C_is_step), D_need_row.kp, b_need_row, m_need_row⟩
  have K_need_row : CeK P w K mg base _ _ "need_row" _ _ := ⟨_, _, (ok_need_row F_need_row T XS C_is_step), D_need_row.kp, fun us hl => match us, hl with | [u0], _ => fun_kw F_need_row fun _ _ _ _ _ _ => rfl, m_need_row⟩
  have C__law_divisor : Ce P w K mg base _ _ "_law_divisor" _ _ := ⟨_, _, (ok__law_divisor F__law_divisor T), D__law_divisor.kp, b__law_divisor, m__law_divisor⟩
  have C__law_frac : Ce P w K mg base _ _ "_law_frac" _ _ := ⟨_, _, (ok__law_frac F__law_frac T C__law_divisor), D__law_frac.kp, b__law_frac, m__law_frac⟩
  have C__law_add : Ce P w K mg base _ _ "_law_add" _ _ := ⟨_, _, (ok__law_add F__law_add T C__law_frac), D__law_add.kp, b__law_add, m__law_add⟩
  have C__law_mul : Ce P w K mg base _ _ "_law_mul" _ _ := ⟨_, _, (ok__law_mul F__law_mul T C__law_frac), D__law_mul.kp, b__law_mul, m__law_mul⟩
  have C__law_sum_of_powers : Ce P w K mg base _ _ "_law_sum_of_powers" _ _ := ⟨_, _, (ok__law_sum_of_powers F__law_sum_of_powers T C__law_add C__law_mul), D__law_sum_of_powers.kp, b__law_sum_of_powers, m__law_sum_of_powers⟩
  have C__law_power : Ce P w K mg base _ _ "_law_power" _ _ := ⟨_, _, (ok__law_power F__law_power T), D__law_power.kp, b__law_power, m__law_power⟩
  have C__law_mixed : Ce P w K mg base _ _ "_law_mixed" _ _ := ⟨_, _, (ok__law_mixed F__law_mixed T), D__law_mixed.kp, b__law_mixed, m__law_mixed⟩
  have C__law_draw : Ce P w K mg base _ _ "_law_draw" _ _ := ⟨_, _, (ok__law_draw F__law_draw T C__law_mixed), D__law_draw.kp, b__law_draw, m__law_draw⟩
  have C__law_of : Ce P w K mg base _ _ "_law_of" _ _ := ⟨_, _, (ok__law_of F__law_of T C__law_draw), D__law_of.kp, b__law_of, m__law_of⟩
  have C__law_number : Ce P w K mg base _ _ "_law_number" _ _ := ⟨_, _, (ok__law_number F__law_number T C__law_draw C__law_frac), D__law_number.kp, b__law_number, m__law_number⟩
  have C__law_step : Ce P w K mg base _ _ "_law_step" _ _ := ⟨_, _, (ok__law_step F__law_step T C__law_draw C__law_frac C__law_number), D__law_step.kp, b__law_step, m__law_step⟩
  have C__law_plain : Ce P w K mg base _ _ "_law_plain" _ _ := ⟨_, _, (ok__law_plain F__law_plain T C__law_number), D__law_plain.kp, b__law_plain, m__law_plain⟩
  have C__law_begin : Ce P w K mg base _ _ "_law_begin" _ _ := ⟨_, _, (ok__law_begin F__law_begin T), D__law_begin.kp, b__law_begin, m__law_begin⟩
  have C__law_like : CeG P w K mg base _ _ "_law_like" _ _ := ⟨_, _, (ok__law_like F__law_like T), D__law_like.kp, b__law_like, m__law_like⟩
  have C__law_right : CeG P w K mg base _ _ "_law_right" _ _ := ⟨_, _, (ok__law_right F__law_right T C__law_draw C__law_number C__law_step C__law_plain C__law_sum_of_powers C_need_number C_need_step C_degree_of C_head_of C_is_plain C_value_at C_need_row C__law_like), D__law_right.kp, b__law_right, m__law_right⟩
  have C__law_named : CeG P w K mg base _ _ "_law_named" _ _ := ⟨_, _, (ok__law_named F__law_named T K_need_number K_need_step K_need_row K_degree_of K_head_of K_is_plain K_value_at C__law_like), D__law_named.kp, b__law_named, m__law_named⟩
  have C__law_borders : CeG P w K mg base _ _ "_law_borders" _ _ := ⟨_, _, (ok__law_borders F__law_borders T EV C_need_number C_need_step C_value_at C__law_power C__law_like), D__law_borders.kp, b__law_borders, m__law_borders⟩
  have C__law_errors : CeG P w K mg base _ _ "_law_errors" _ _ := ⟨_, _, (ok__law_errors F__law_errors T EV C__law_like), D__law_errors.kp, b__law_errors, m__law_errors⟩
  have C__law_refused : CeG P w K mg base _ _ "_law_refused" _ _ := ⟨_, _, (ok__law_refused F__law_refused T XS XQ F__law_refusal m__law_refusal b__law_refusal TB0 hc C__law_draw C__law_of C__law_step C__law_power C_need_number C_need_step C_degree_of C_head_of C_is_plain C_value_at C_need_row C__law_like), D__law_refused.kp, b__law_refused, m__law_refused⟩
  exact (ok_law F_law T C__law_begin C__law_right C__law_refused C__law_borders C__law_named C__law_errors)
end
end My
open PySem PySem.W PySem.Calls PyProof.Rows
theorem PySem.Challenge.cw_stepswithin_k00_numbers_and_steps_holds : PySem.Challenge.rw_stepswithin_k00_numbers_and_steps.Holds := by
  w_on; o_law
  refine HandSHeadRun.head_imp (r := My.R) (q := view My.R.prog [0, 53]) (H := My.hk) (ob := My.ob) (M := 14000) (loose := My.loose) (d := HandSHeadRun.topDef My.R.prog 53) (kwd := []) My.ob_eq My.run
    (by kernel_rfl) (by kernel_rfl) (by kernel_rfl) (by rfl) (by first | assumption | decide +kernel) (by decide +kernel) ⟨rfl, rfl, rfl, rfl, rfl, by decide +kernel⟩ ?hw ?hc
  case hw => w_witness2
  case hc =>
    refine My.walk_g (l := PySem.Challenge.rw_stepswithin_k00_numbers_and_steps) (n := 63) (k := 9) (x := "script") (CX := fun _ => L2.CX0) rfl (by decide) (by kernel_rfl) ⟨rfl, by decide, by decide⟩ ?F (fun _ _ _ _ _ z => z)
    intro w mg fa h Y G hmg0
    obtain ⟨K, KX, c⟩ := Y
    have hmg : mg ("law" : PySem.Str) = some (.ref fa) := by
      have e : (HandSHeadRun.topDef My.R.prog 53).name = ("law" : PySem.Str) := by kernel_rfl
      rw [← e]
      exact hmg0
    obtain ⟨fd, cs, PP, rfl, rfl, hb, hF⟩ := My.all_of (P := PySem.Challenge.rw_stepswithin_k00_numbers_and_steps.prog) (w := w) KX G hmg c
    refine ⟨K, KX, fd, _, My.sp_law K _, fun b hb => ?_, fun b hb => ?_, fun p hp => ?_, hb, fun H a ns hl _ hT hS => ⟨a, ns, rfl, hS, hl, hT _ List.mem_cons_self, fun _ => rfl⟩, hF⟩
    · have e := List.mem_singleton.mp hb
      rw [e]
      exact c.empty ("_law_refused", none) List.mem_cons_self
    · have e := List.mem_singleton.mp hb
      rw [e]
      exact c.out ("_law_refused", none) List.mem_cons_self
    · rw [List.mem_singleton.mp hp]
      exact codeHd_of_K KX (c.hd ("_law_refused", none) List.mem_cons_self)
