import PyProof.Rows.All
import Wide.All
import OpenK.AllK
import Wide.FinOn
import PyProof.ReprReads
import PyProof.ReprText
import PyProof.ReprLen
import PyProof.ReprBulk
import PyProof.ReprRoads
import HandS.ForMost
import HandS.IsInst
import HandS.Wide
import HandS.StrMore
import HandS.Codes
import KE.DataMinMax
import HandS.TupAny
import HandS.TupMul
import HandS.Style
import HandS.Conv
import HandS.Walk
import HandS.Exc
import HandS.ExcOwn
import HandS.WordsExc
import HandS.TryOnly
import HandS.TryMany
import HandS.Small
import PyProof.EqAt
import PyProof.EqKinds
import PyProof.TupleCall
import KE.KExcInit
import HandS.ForExc
import HandS.ExcInit
import Open.SpecLaws
import KE.OsGo
import HandS.Lambda
import HandS.EndTab
import KE.KNest
import PyProof.P3In
import PyProof.FactsAll.dict
import PySem.Challenge.RW_fingerbooks_k07_errors_of_forms
set_option Elab.async false
set_option linter.all false
set_option maxRecDepth 100000
set_option maxHeartbeats 2000000
namespace G
open PySem PySem.Spec PyProof.Rows L2

/-! ## Promises that hold where no text of an object is being written (guards empty) -/
structure FnG (P : Program) (w : World) (K : PySem.W.Frag) (mg : Str → Option Value) (base : Heap)
    (CX : CXT) (k : Nat) (f : Addr) (fd : FuncData) (ps : List Str) (sp : Sp) : Prop where
  len : ∀ xs H Q E, sp xs H Q E → xs.length = ps.length
  go : ∀ (A : Around) (out : List Env) (s : Shared) (H : Hp) (args : Args) (us : List Value) (xs : List V) (Q : VK) (E : XK),
    A.guards = some [] → Room k A → Env0 P w K mg base A out s H → BindsTo s fd args (ps.zip us) → Vals xs us → sp xs H Q E →
    codeAny (model P w) A (.call (.ref f) args) (CR CX out P w H s Q E) s

theorem FnG.ofOk {P w K mg base CX k f fd ps sp} (F : FnOk P w K mg base CX k f fd ps sp) : FnG P w K mg base CX k f fd ps sp :=
  ⟨F.len, fun A out s H args us xs Q E _ => F.run A out s H args us xs Q E⟩
theorem FnG.mono {P w K mg base CX j k f fd ps sp} (F : FnG P w K mg base CX j f fd ps sp) (h : j ≤ k) : FnG P w K mg base CX k f fd ps sp :=
  ⟨F.len, fun A out s H args us xs Q E hg hr => F.go A out s H args us xs Q E hg (hr.mono h)⟩

section
variable {X : Cx} {CX : CXT} {k : Nat} {f : Addr} {fd : FuncData} {ps : List Str} {sp : Sp} {dvs : List V} {ds : List Value} {E : XK}
theorem runG {pins : List (Addr × Obj)} {σ : L2.St} {H : Hp} {s : Shared} {Q : VK} {us : List Value} {xs : List V}
    (F : FnG X.prog X.w X.K X.mg X.base CX k f fd ps sp) (hgd : X.A.guards = some []) (hr : Room k X.A)
    (hb : Binds X.K fd ps ds) (hd : Vals dvs ds) (hx : Passes CX X E) (I : Inv X pins σ H s) (r : Vals xs us) (h : sp (xs ++ dvs) H Q E) :
    wpAny (model X.prog X.w) X.A (call (.ref f) us) (EP X pins σ Q) X.xe s := by
  have both : Vals (xs ++ dvs) (us ++ ds) := r.append hd
  have sz : (us ++ ds).length = ps.length := both.length.symm.trans (F.len _ _ _ _ h)
  have body := F.go X.A X.stack s H ⟨us, []⟩ (us ++ ds) (xs ++ dvs) Q E hgd hr I.env0 (hb s us I.kIn sz) both h
  refine wpAny_call (codeAny_mono body fun res t hq => ?_)
  match res, hq with
  | .error e, hq => exact hx pins σ H s e t I hq
  | .ok (.ret u), hq => exact I.after hq
  | .ok .next, hq => exact hq.elim
  | .ok .brk, hq => exact hq.elim
  | .ok .cont, hq => exact hq.elim

theorem pe_g {x : Str} {p pos : Pos} {e : Expr} {es : List Expr} {t : TA} (F : FnG X.prog X.w X.K X.mg X.base CX k f fd ps sp)
    (hgd : X.A.guards = some []) (hr : Room k X.A) (hg : Gl X x) (hm : X.mg x = some (.ref f)) (hk : PySem.W.keepIn X.K (.ref f) = true)
    (hb : Binds X.K fd ps ds) (hd : Vals dvs ds) (hx : Passes CX X E) (ha : PA X (e :: es) t)
    (hdb : (x == ("__debug__" : Str)) = false := by decide)
    (he : starEach (e :: es) X.env = (false, eval e X.env) :: starEach es X.env := by rfl)
    (hpl : (backTo pos (starEach es X.env)).any (·.1) = false := by rfl) :
    PE X (.Call (.Name x p) (e :: es) [] pos) (tCall sp dvs E t) :=
  ⟨fun pins s σ H Q I h => wpAny_Call_Name_kw (ld_glob I hg hm
    (PySem.W.callWith_K (h₀ := X.base) I.ok.mod.kin hk
      (thn (ha.run pos pins s σ H _ I h) fun us s1 ⟨xs, H1, I1, r, q⟩ => ⟨I1.kIn, runG F hgd hr hb hd hx I1 r q⟩) he hpl) hdb)⟩
theorem pe_g0 {x : Str} {p pos : Pos} (F : FnG X.prog X.w X.K X.mg X.base CX k f fd ps sp)
    (hgd : X.A.guards = some []) (hr : Room k X.A) (hg : Gl X x) (hm : X.mg x = some (.ref f)) (hk : PySem.W.keepIn X.K (.ref f) = true)
    (hb : Binds X.K fd ps ds) (hd : Vals dvs ds) (hx : Passes CX X E) (hdb : (x == ("__debug__" : Str)) = false := by decide) :
    PE X (.Call (.Name x p) [] [] pos) (tCall sp dvs E tNil) :=
  ⟨fun pins s σ H Q I h => wpAny_Call_Name_kw (ld_glob I hg hm (PySem.W.callWith_K0 I.kIn hk (runG (us := []) F hgd hr hb hd hx I .nil h)) hdb)⟩
end

/-- a def by its body, guards known -/
theorem okG {P : Program} {w : World} {K : PySem.W.Frag} {mg : Str → Option Value} {base : Heap} {x qual : Str} {st : Stmt} {f : Addr} {fd : FuncData}
    {N ps : List Str} {k : Nat} {sp : Sp} (F : Fun K x qual st f fd) (S : FnScope N ps (defScope st)) (len : ∀ xs H Q E, sp xs H Q E → xs.length = ps.length)
    (hbody : ∀ (cdv : Value) (A : Around) (out : List Env) (s : Shared) (H : Hp) (xs : List V) (Q : VK) (E : XK), A.guards = some [] →
      Room k (A.deeper (envOfC qual (defScope st) s.heap.objs.size f cdv)) → sp xs H Q E →
      ∃ t, PSs (cxOf CX0 P w K mg base N qual (defScope st) f cdv A out s H E).nox (defBody st) t ∧
        t { nx := fun _ H' => Q .non H', rt := Q } (start N xs) H) :
    FnG P w K mg base CX0 (k + 1) f fd ps sp := by
  obtain ⟨oc, od, kV, doc, pm, an, cdv, ct, osl, rfl, lk, hcd⟩ := F.ex
  constructor
  · exact len
  intro A out s H args us xs Q E gA hr e0 hb r hsp
  have old : ∀ b o, base.get? b = some o → s.heap.get? b = some o := fun b o q => (e0.bs b o q).1
  have KX : K.In s.heap := e0.mod.kin.keeps old
  have lim : s.heap.NoLimit := e0.mod.nolimit.keeps old
  refine codeAny_call_function hr.depth (KX _ _ lk) rfl S.co S.gen rfl (PySem.W.codeRec_of KX hcd) (hb _ _ _ _ ?_)
  refine wpAny_newFunctionEnv_cells S.kind (fun y hy => ?_) fun env he s1 x1 => ?_
  · have q := S.par y.1 (List.of_mem_zip (a := y.1) (b := y.2) hy).1
    exact q.elim .inl fun q => .inr ⟨q, PySem.W.cellsFrom_some _ _ _ (.inl q)⟩
  · subst he
    refine ⟨lim.keeps x1.toInCall.keep, codeAny_func ?_⟩
    obtain ⟨t, ht, hq⟩ := hbody cdv A out s H xs Q E gA (hr.deeper _) hsp
    have I := inv_start (CX := CX0) (P := P) (w := w) (K := K) (mg := mg) (base := base) (N := N) (ps := ps) (E := E) S hr.hd e0 (len _ _ _ _ hsp) r x1
    refine wpAny_mono (ht.nox.run [] s1 (start N xs) H _ I hq) (fun fl s2 hs => ?_) fun _ _ z => z
    match fl, hs with
    | .ret u, ⟨v, σ', H', J, rv, q⟩ => exact ⟨v, H', J.os, J.bare, J.base, J.hok, rv, q⟩
    | .next, ⟨σ', H', J, q⟩ => exact ⟨V.non, H', J.os, J.bare, J.base, J.hok, rfl, q⟩
    | .brk, ⟨_, _, _, q⟩ => exact q.elim
    | .cont, ⟨_, _, _, q⟩ => exact q.elim

/-! ## the end of a row -/
theorem endG {l : PySem.W.OpenLaw} {n k : Nat} {q : Program} {loose : List Str} {XP : (Str → Option Value) → Heap → Prop} {YP : World → Heap → Prop} {d : DefRec}
    {K : Params → PySem.W.Frag} {sp : PySem.W.Frag → Sp} {x : Str}
    (hn : l.most = some n) (hn2 : n ≤ sizeLine) (hdf : d.params.defaults = []) (hr : Room k callerA)
    (hY : ∀ (w : World) (h : Heap), YP w h → (K w.params).In h)
    (F : ∀ (w : World) (mg : Str → Option Value) (fa : Addr) (h : Heap), (K w.params).In h → h.Ns mainGlobals mg → mg d.name = some (.ref fa) →
      ∃ fd : FuncData, (∀ (s : Shared) (u : Value), BindsTo s fd ⟨[u], []⟩ [(x, u)]) ∧
        ∀ base : Heap, (K w.params).In base → base.Ns mainGlobals mg → FnG l.prog w (K w.params) mg base CX0 k fa fd [x] (sp (K w.params)))
    (hsp : ∀ (K : PySem.W.Frag) (H : Hp) (a : Addr) (ns : List Int), ns.length ≤ n → SqL K H a (ns.map V.int) →
      sp K [.ref a] H (fun v _ => v = .bl true) fun _ _ _ => False) :
    PySem.W.WalkO q loose XP YP l.row.toRowW d [] (fun f vs => PySem.call f vs) := by
  refine Att.attach_call hn hdf fun w s0 s1 mg mb fa o pm cd doc a vs ns gr Y ho hd hcd hmg ha hi hl hgn => ?_
  have KX := hY w _ Y
  obtain ⟨fd, hbind, F⟩ := F w mg fa _ KX gr.T.g hmg
  have rv := vals_ints hi
  have lenV := hi.length
  have nsz : ns.length ≤ sizeLine := Nat.le_trans hl hn2
  -- the tracked heap T: nothing, or the script alone
  have main : ∀ T : Hp, (∀ b, T b = none ∨ ∃ ob xs, T b = some (.frz ob (.lst xs))) → SqL (K w.params) T a (ns.map V.int) → HOk l.prog w T s1.heap →
      (∀ b, T b ≠ none → b = a) → (T a ≠ none → (K w.params).lookup a = none) →
      codeAny (model l.prog w) callerA (.call (.ref fa) ⟨[.ref a], []⟩)
        (fun r t => r = .ok (.ret (.bool true)) ∧ OldK s1.heap t.heap ∧ t.os = s1.os ∧ AllBare t.gens) s1 := by
    intro T only hS hok only_a notK
    have keepD : ∀ {b : Addr} {ob : Obj}, s1.heap.get? b = some ob → (∃ es ep, ob.data = .dict es ep) → (hidT s1.heap T).get? b = some ob := by
      intro b ob e ⟨es, ep, ed⟩
      refine hidT_get e ?_
      match q : T b with
      | none => rfl
      | some u =>
        have hb : b = a := only_a b (by rw [q]; exact Option.some_ne_none _)
        subst hb
        rw [ha] at e
        cases e
        cases (show Data.seq vs.toArray _ = Data.dict es ep from ed)
    have nsT : ∀ {b : Addr} {m : Str → Option Value}, s1.heap.Ns b m → (hidT s1.heap T).Ns b m := by
      rintro b m ⟨ob, es, ep, e, ed, r⟩
      exact ⟨ob, es, ep, keepD e ⟨es, ep, ed⟩, ed, r⟩
    have inT : (K w.params).In (hidT s1.heap T) := by
      intro b ob e
      refine hidT_get (KX b ob e) ?_
      match q : T b with
      | none => rfl
      | some u =>
        have hb : b = a := only_a b (by rw [q]; exact Option.some_ne_none _)
        subst hb
        rw [notK (by rw [q]; exact Option.some_ne_none _)] at e
        cases e
    have nolim : (hidT s1.heap T).NoLimit := by
      obtain ⟨mc, h1, h2⟩ := gr.T.nolimit
      exact ⟨mc, nsT h1, h2⟩
    have md : Mod (K w.params) mg (hidT s1.heap T) := ⟨inT, nsT gr.T.g, ⟨mb, nsT gr.T.b, gr.T.builtins⟩, nolim⟩
    have e0 : Env0 l.prog w (K w.params) mg (hidT s1.heap T) callerA [] s1 T := by
      refine ⟨rfl, md, fun b ob e => of_hidT e, Nat.le_of_eq (hidT_size _ _), trivial, fun b hb => ?_, hok, .of_eq hgn⟩
      cases (show b ∈ ([] : List Addr) from hb)
    have run := (F _ inT (nsT gr.T.g)).go callerA [] s1 T ⟨[.ref a], []⟩ [.ref a] [.ref a] _ _ rfl hr e0 (hbind s1 (.ref a)) (.cons rfl .nil) (hsp (K w.params) T a ns hl hS)
    refine codeAny_mono run fun res t hq => ?_
    match res, hq with
    | .error e, hq => exact hq.elim
    | .ok .next, hq => exact hq.elim
    | .ok .brk, hq => exact hq.elim
    | .ok .cont, hq => exact hq.elim
    | .ok (.ret u), ⟨v, T', os, bare, un, hok', rr, qq⟩ =>
      obtain rfl : v = .bl true := qq
      obtain rfl : u = Value.bool true := rr
      refine ⟨rfl, OldK.of_keep fun b ob e => ?_, os, bare⟩
      match q : T b with
      | none => exact un.keep b ob e q (fun z => nomatch (show b ∈ ([] : List Addr) from z)) (fun z => nomatch z)
      | some u =>
        rcases only b with z | ⟨fo, xs, z⟩
        · rw [q] at z
          cases z
        · obtain ⟨e1, _⟩ := hok b _ z
          obtain ⟨e2, _⟩ := hok' b _ (un.frzs b fo _ z)
          rw [e] at e1
          cases e1
          exact e2
  match hk : (K w.params).lookup a with
  | some ob =>
    have e := KX a ob hk
    rw [ha] at e
    cases e
    refine main (fun _ => none) (fun _ => .inl rfl) (.inr ⟨_, vs.toArray, _, hk, rfl, rfl, rfl, ?_, ?_⟩) (fun b u z => nomatch (show (none : Option HO) = some u from z)) (fun b z => absurd rfl z) (fun z => absurd rfl z)
    · rw [List.size_toArray, lenV]
      exact nsz
    · simpa using rv
  | none =>
    have atA : ∀ b, b = a → (if b = a then some (HO.frz { cls := .type "list", data := .seq vs.toArray } (.lst (ns.map V.int))) else none) = some (HO.frz { cls := .type "list", data := .seq vs.toArray } (.lst (ns.map V.int))) := fun b hb => if_pos hb
    have offA : ∀ b, b ≠ a → (if b = a then some (HO.frz { cls := .type "list", data := .seq vs.toArray } (.lst (ns.map V.int))) else none) = none := fun b hb => if_neg hb
    refine main (fun b => if b = a then some (.frz { cls := .type "list", data := .seq vs.toArray } (.lst (ns.map V.int))) else none) (fun b => ?_) (.inl (.inr ⟨{ cls := .type "list", data := .seq vs.toArray }, atA a rfl⟩)) (fun b u z => ?_) (fun b z => ?_) fun _ => hk
    · by_cases hb : b = a
      · exact .inr ⟨_, _, atA b hb⟩
      · exact .inl (offA b hb)
    · by_cases hb : b = a
      · have z2 := (atA b hb).symm.trans z
        cases z2
        subst hb
        exact ⟨ha, by rw [List.length_map]; exact nsz, vs, _, rv, ha⟩
      · have z2 := (offA b hb).symm.trans z
        cases z2
    · by_cases hb : b = a
      · exact hb
      · exact absurd (offA b hb) z

/-! ## repr of data -/
mutual
/-- data whose text is written: no dict, numbers and texts of bounded size -/
def nice : PyData → Bool
  | .none | .bool _ => true
  | .int i => decide (i.natAbs.log2 < 1200)
  | .str x => x.cps.toList.all fun c => decide (c < 16 ^ 8)
  | .list xs | .tuple xs => niceAll xs
  | .dict _ => false
def niceAll : List PyData → Bool
  | [] => true
  | x :: xs => nice x && niceAll xs
end
structure Shw (d : PyData) : Prop where
  noDict : d.hasDict = false
  able : d.showable = true
  deep : d.depth ≤ 60
  fits : d.shown.length ≤ sizeLine
mutual
theorem nice_facts : ∀ d : PyData, nice d = true → d.hasDict = false ∧ d.showable = true ∧ d.leavesShort 1201 = true
  | .none, _ => by simp [PyData.hasDict, PyData.showable, PyData.leavesShort]
  | .bool _, _ => by simp [PyData.hasDict, PyData.showable, PyData.leavesShort]
  | .int i, h => by
    have h2 : i.natAbs.log2 < 1200 := by simpa [nice] using h
    have h3 := int_text_length_le (a := i) (by decide) h2
    have h4 : (PyData.shown (.int i)).length ≤ 1201 := by
      rw [PyData.shown_int]
      rw [PySem.ofString_length]
      exact h3
    refine ⟨by simp [PyData.hasDict], ?_, ?_⟩
    · simp only [PyData.showable]
      exact decide_eq_true (by omega)
    · simp only [PyData.leavesShort]
      exact decide_eq_true h4
  | .str x, h => by
    refine ⟨by simp [PyData.hasDict], by simp [PyData.showable], ?_⟩
    simpa only [PyData.leavesShort, nice] using h
  | .list xs, h => by
    have q := nice_factsAll xs (by simpa only [nice] using h)
    exact ⟨by simpa only [PyData.hasDict] using q.1, by simpa only [PyData.showable] using q.2.1, by simpa only [PyData.leavesShort] using q.2.2⟩
  | .tuple xs, h => by
    have q := nice_factsAll xs (by simpa only [nice] using h)
    exact ⟨by simpa only [PyData.hasDict] using q.1, by simpa only [PyData.showable] using q.2.1, by simpa only [PyData.leavesShort] using q.2.2⟩
  | .dict _, h => by simp [nice] at h
theorem nice_factsAll : ∀ ds : List PyData, niceAll ds = true → PyData.hasDictAll ds = false ∧ PyData.showableAll ds = true ∧ PyData.leavesShortAll 1201 ds = true
  | [], _ => by simp [PyData.hasDictAll, PyData.showableAll, PyData.leavesShortAll]
  | x :: xs, h => by
    have h' : nice x = true ∧ niceAll xs = true := by simpa [niceAll] using h
    obtain ⟨a1, a2, a3⟩ := nice_facts x h'.1
    obtain ⟨b1, b2, b3⟩ := nice_factsAll xs h'.2
    simp only [PyData.hasDictAll, PyData.showableAll, PyData.leavesShortAll, a1, a2, a3, b1, b2, b3, Bool.or_self, Bool.and_self, and_self]
end
theorem shw {d : PyData} (h : nice d = true) (hd : d.depth ≤ 60) (hb : d.bulk ≤ 10000) : Shw d := by
  obtain ⟨a1, a2, a3⟩ := nice_facts d h
  refine ⟨a1, a2, hd, ?_⟩
  have q := PyData.shown_le_bulk 1201 (by decide) d a3
  have e2 : 16777216 ≤ sizeLine := by decide
  omega
section
variable {X : Cx}
def rRepr (K : PySem.W.Frag) : List V → Hp → VK → Prop := fun xs H Q => ∃ (x : V) (d : PyData), xs = [x] ∧ Dp K H x d ∧ Shw d ∧ Q (.str d.shown) H
theorem call_repr (hgd : X.A.guards = some []) (hu : X.A.units + 64 < cLine) : CallR X (.builtin "repr") (rRepr X.K) := by
  intro pins s σ H xs us Q I r h
  obtain ⟨x, d, rfl, hd, ⟨hn, hs, hp, hz⟩, q⟩ := h
  obtain ⟨u, rfl, ru⟩ := vals1 r
  obtain ⟨as, rd⟩ := Dp.reads I d x u hd ru
  have fin : ∀ h' t tk, (∀ b o, s.heap.get? b = some o → h'.get? b = some o) → EP X pins σ Q (.str d.shown t) { s with heap := h', toks := tk } :=
    fun h' t tk kp => ⟨.str d.shown, H, I.kept kp, ⟨t, rfl⟩, q⟩
  cases hd with
  | lst hl ha =>
    cases (show u = Value.ref _ from ru)
    exact repr_of_reads' rd hs (PyData.noDict_hsm hn) hgd (by omega) (fun _ _ e => e) fin hz
  | tup hl ha =>
    cases (show u = Value.ref _ from ru)
    exact repr_of_reads' rd hs (PyData.noDict_hsm hn) hgd (by omega) (fun _ _ e => e) fin hz
  | int i =>
    obtain ⟨t, rfl⟩ := (show ∃ t, u = Value.int i t from ru)
    have e : (PyData.int i).shown = ((toString i : String) : Str) := PyData.shown_int i
    rw [e] at q
    exact PySem.P.repr_of_int (by simpa [PyData.showable] using hs) ⟨.str _, H, I.tok _, ⟨_, rfl⟩, q⟩
  | non =>
    cases (show u = Value.none from ru)
    rw [PyData.shown_none] at q
    exact PySem.P.repr_of_none ⟨.str _, H, I.tok _, ⟨_, rfl⟩, q⟩
  | bl b =>
    cases (show u = Value.bool b from ru)
    rw [PyData.shown_bool] at q
    refine PySem.P.repr_of_bool ⟨.str _, H, I.tok _, ⟨_, rfl⟩, ?_⟩
    cases b <;> exact q
  | str x =>
    obtain ⟨t, rfl⟩ := (show ∃ t, u = Value.str x t from ru)
    rw [PyData.shown_str] at q hz
    exact PySem.P.repr_of_str ⟨.str _, H, I.tok _, ⟨_, rfl⟩, q⟩ hz
end
/-! ## Defs of the text as constants -/
structure DefAt (K : PySem.W.Frag) (mg : Str → Option Value) (x : Str) (st : Stmt) (ps : List Str) : Prop where
  ex : ∃ f fd, Fun K x x st f fd ∧ mg x = some (.ref f) ∧ ∀ us : List Value, us.length = ps.length → bindArgs fd ⟨us, []⟩ = pure (ps.zip us)
theorem defAt {K : PySem.W.Frag} {h : Heap} {mg : Str → Option Value} {x : Str} {st : Stmt} {ps : List Str} {f : Addr} {oc : Value} {od an : Option Addr} {osl : Array (Option Value)}
    {kV doc pm cdv ct : Value} (KX : K.In h) (gl : h.Ns mainGlobals mg)
    (hb : ∀ us : List Value, us.length = ps.length → bindArgs (PySem.W.fnOf x x (defArgs st) (defBody st) (defScope st) .none kV doc pm an cdv ct) ⟨us, []⟩ = pure (ps.zip us))
    (a : PySem.W.nsIn K mainGlobals x = some (some (.ref f)))
    (l : K.lookup f = some ⟨oc, od, .func (PySem.W.fnOf x x (defArgs st) (defBody st) (defScope st) .none kV doc pm an cdv ct), osl⟩)
    (c : PySem.W.codeIn K cdv x = true) (k : PySem.W.keepIn K (.ref f) = true) : DefAt K mg x st ps :=
  ⟨f, _, fun_mk l c k, PySem.W.mg_of KX gl a, hb⟩
structure CalG (P : Program) (w : World) (K : PySem.W.Frag) (mg : Str → Option Value) (base : Heap) (k : Nat) (x : Str) (ps : List Str) (sp : Sp) : Prop where
  ex : ∃ f fd, FnG P w K mg base CX0 k f fd ps sp ∧ mg x = some (.ref f) ∧ PySem.W.keepIn K (.ref f) = true ∧ Binds K fd ps []
theorem calOk {P : Program} {w : World} {K : PySem.W.Frag} {mg : Str → Option Value} {base : Heap} {x : Str} {st : Stmt} {N ps : List Str} {k : Nat} {sp : Sp}
    (D : DefAt K mg x st ps) (S : FnScope N ps (defScope st)) (len : ∀ xs H Q E, sp xs H Q E → xs.length = ps.length)
    (hbody : ∀ (f : Addr) (cdv : Value) (A : Around) (out : List Env) (s : Shared) (H : Hp) (xs : List V) (Q : VK) (E : XK), A.guards = some [] →
      Room k (A.deeper (envOfC x (defScope st) s.heap.objs.size f cdv)) → sp xs H Q E →
      ∃ t, PSs (cxOf CX0 P w K mg base N x (defScope st) f cdv A out s H E).nox (defBody st) t ∧
        t { nx := fun _ H' => Q .non H', rt := Q } (start N xs) H) : CalG P w K mg base (k + 1) x ps sp := by
  obtain ⟨f, fd, F, m, b⟩ := D.ex
  exact ⟨f, fd, okG F S len (hbody f), m, F.kp, Binds.all b⟩
section
variable {X : Cx} {k j : Nat} {ps : List Str} {sp : Sp} {x : Str} {p pos : Pos} {e : Expr} {es : List Expr} {t : TA}
theorem pe_k (c : CalG X.prog X.w X.K X.mg X.base k x ps sp) (hgd : X.A.guards = some []) (hr : Room j X.A) (hk : k ≤ j) (hg : Gl X x) (ha : PA X (e :: es) t)
    (hdb : (x == ("__debug__" : Str)) = false := by decide)
    (he : starEach (e :: es) X.env = (false, eval e X.env) :: starEach es X.env := by rfl)
    (hpl : (backTo pos (starEach es X.env)).any (·.1) = false := by rfl) :
    PE X (.Call (.Name x p) (e :: es) [] pos) (tCall sp [] E0 t) := by
  obtain ⟨f, fd, F, m, kp, b⟩ := c.ex
  exact pe_g F hgd (hr.mono hk) hg m kp b .nil pass0 ha hdb he hpl
theorem pe_k0 (c : CalG X.prog X.w X.K X.mg X.base k x ps sp) (hgd : X.A.guards = some []) (hr : Room j X.A) (hk : k ≤ j) (hg : Gl X x)
    (hdb : (x == ("__debug__" : Str)) = false := by decide) : PE X (.Call (.Name x p) [] [] pos) (tCall sp [] E0 tNil) := by
  obtain ⟨f, fd, F, m, kp, b⟩ := c.ex
  exact pe_g0 F hgd (hr.mono hk) hg m kp b .nil pass0 hdb
end
/-- the law's own def, at the address that the row names -/
theorem lawOk {P : Program} {w : World} {K : PySem.W.Frag} {mg : Str → Option Value} {x y : Str} {st : Stmt} {N : List Str} {k : Nat} {sp : Sp} {fa : Addr}
    (hf : mg x = some (.ref fa)) (D : DefAt K mg x st [y]) (S : FnScope N [y] (defScope st)) (len : ∀ xs H Q E, sp xs H Q E → xs.length = [y].length)
    (hbody : ∀ base : Heap, K.In base → base.Ns mainGlobals mg → ∀ (f : Addr) (cdv : Value) (A : Around) (out : List Env) (s : Shared) (H : Hp) (xs : List V) (Q : VK) (E : XK), A.guards = some [] →
      Room k (A.deeper (envOfC x (defScope st) s.heap.objs.size f cdv)) → sp xs H Q E →
      ∃ t, PSs (cxOf CX0 P w K mg base N x (defScope st) f cdv A out s H E).nox (defBody st) t ∧
        t { nx := fun _ H' => Q .non H', rt := Q } (start N xs) H) :
    ∃ fd : FuncData, (∀ (s : Shared) (u : Value), BindsTo s fd ⟨[u], []⟩ [(y, u)]) ∧
      ∀ base : Heap, K.In base → base.Ns mainGlobals mg → FnG P w K mg base CX0 (k + 1) fa fd [y] sp := by
  obtain ⟨f, fd, F, m, b⟩ := D.ex
  obtain rfl : f = fa := by
    rw [m] at hf
    cases hf
    rfl
  exact ⟨fd, fun s u => .of_eq (b [u] rfl), fun base h1 h2 => okG F S len (hbody base h1 h2 f)⟩

section
variable {X : Cx} {x : Str} {pos : Pos}
theorem pe_gv {v : V} (hg : Gl X x) (h : ∃ u, X.mg x = some u ∧ RelV v u) (hd : (x == ("__debug__" : Str)) = false := by decide) : PE X (.Name x pos) (tC v) :=
  let ⟨_, hm, r⟩ := h
  pe_glob hg hm r hd
theorem pe_ty (n : String) (hg : Gl X x) (hm : X.mg x = none) (hv : bootBuiltins x = some (.type n)) (hn : x ≠ "__name__" := by decide) (hd : (x == ("__debug__" : Str)) = false := by decide) : PE X (.Name x pos) (tC (.ty n)) :=
  pe_bltn hg hm hv rfl hn hd
end
/-! ## Heaps: what is new, what is rolled -/
theorem same_new {H : Hp} {p : Addr} {o : HO} (h : H p = none) : Same H (upd H p o) := fun b u e => by
  rw [upd_ne (ne_of_none e h)]
  exact e
mutual
theorem Dp.grow {K : PySem.W.Frag} {H H' : Hp} (s : Same H H') : ∀ {x : V} {d : PyData}, Dp K H x d → Dp K H' x d
  | _, _, .non => .non
  | _, _, .bl b => .bl b
  | _, _, .int i => .int i
  | _, _, .str x => .str x
  | _, _, .lst h a => .lst (s.seq h) (DpAll.grow s a)
  | _, _, .tup h a => .tup (by
      rcases h with (h | ⟨o, h⟩) | h
      · exact .inl (.inl (s _ _ h))
      · exact .inl (.inr ⟨o, s _ _ h⟩)
      · exact .inr h) (DpAll.grow s a)
theorem DpAll.grow {K : PySem.W.Frag} {H H' : Hp} (s : Same H H') : ∀ {xs : List V} {ds : List PyData}, DpAll K H xs ds → DpAll K H' xs ds
  | _, _, .nil => .nil
  | _, _, .cons a b => .cons (Dp.grow s a) (DpAll.grow s b)
end
/-- the heap without what stands at d -/
def hide (d : Addr) (H : Hp) : Hp := fun b => if b = d then none else H b
theorem hide_ne {d b : Addr} {H : Hp} (h : b ≠ d) : hide d H b = H b := if_neg h
theorem hide_at {d : Addr} {H : Hp} : hide d H d = none := if_pos rfl
theorem hide_le {d : Addr} {H : Hp} : Same (hide d H) H := fun b o e => by
  by_cases h : b = d
  · subst h
    rw [hide_at] at e
    cases e
  · rw [hide_ne h] at e
    exact e
/-- the dice at d: three numbers -/
def DiceAt (H : Hp) (d : Addr) : Prop := ∃ l s c : Int, H d = some (.lst [.int l, .int s, .int c])
/-- from H to H': the dice at d may have been rolled, what else stood stands -/
structure Mv (d : Addr) (H H' : Hp) : Prop where
  same : Same (hide d H) (hide d H')
  dice : DiceAt H' d
theorem Mv.refl {d : Addr} {H : Hp} (h : DiceAt H d) : Mv d H H := ⟨Same.refl _, h⟩
theorem Mv.trans {d : Addr} {H H1 H2 : Hp} (a : Mv d H H1) (b : Mv d H1 H2) : Mv d H H2 := ⟨a.same.trans b.same, b.dice⟩
theorem Mv.get {d : Addr} {H H' : Hp} (a : Mv d H H') {b : Addr} {o : HO} (n : b ≠ d) (h : H b = some o) : H' b = some o := by
  have := a.same b o (by rw [hide_ne n]; exact h)
  rw [hide_ne n] at this
  exact this
theorem Mv.free {d : Addr} {H H' : Hp} (a : Mv d H H') {p : Addr} (h : H' p = none) : H p = none := by
  by_cases e : p = d
  · subst e
    obtain ⟨l, s, c, q⟩ := a.dice
    rw [q] at h
    cases h
  · match q : H p with
    | none => rfl
    | some o =>
      rw [a.get e q] at h
      cases h
theorem DiceAt.ne {d p : Addr} {H : Hp} (h : DiceAt H d) (n : H p = none) : p ≠ d := fun e => by
  obtain ⟨l, s, c, q⟩ := h
  rw [e, q] at n
  cases n
theorem hide_new {d p : Addr} {H : Hp} {o : HO} (n : p ≠ d) : hide d (upd H p o) = upd (hide d H) p o := by
  funext b
  by_cases h1 : b = d
  · subst h1
    rw [hide_at, upd_ne n.symm, hide_at]
  · rw [hide_ne h1]
    by_cases h2 : b = p
    · subst h2
      rw [upd_same, upd_same]
    · rw [upd_ne h2, upd_ne h2, hide_ne h1]
theorem Mv.new {d p : Addr} {H H' : Hp} {o : HO} (a : Mv d H H') (n : H' p = none) : Mv d H (upd H' p o) := by
  have ne := a.dice.ne n
  refine ⟨fun b u e => ?_, ?_⟩
  · rw [hide_new ne]
    refine same_new ?_ b u (a.same b u e)
    rw [hide_ne ne]
    exact n
  · obtain ⟨l, s, c, q⟩ := a.dice
    exact ⟨l, s, c, by rw [upd_ne ne.symm]; exact q⟩
/-- an own list (new since H) changed -/
theorem Mv.set {d p : Addr} {H H' : Hp} {o : HO} (a : Mv d H H') (n : H p = none) (ne : p ≠ d) : Mv d H (upd H' p o) := by
  refine ⟨fun b u e => ?_, ?_⟩
  · rw [hide_new ne]
    have nb : b ≠ p := fun q => by
      rw [q, hide_ne ne, n] at e
      cases e
    rw [upd_ne nb]
    exact a.same b u e
  · obtain ⟨l, s, c, q⟩ := a.dice
    exact ⟨l, s, c, by rw [upd_ne ne.symm]; exact q⟩
theorem same_new2 {H : Hp} {p : Addr} {o u : HO} (h : H p = none) : Same H (upd (upd H p o) p u) := by
  rw [upd_upd]
  exact same_new h
theorem Mv.new2 {d p : Addr} {H H' : Hp} {o u : HO} (a : Mv d H H') (n : H' p = none) : Mv d H (upd (upd H' p o) p u) := by
  rw [upd_upd]
  exact a.new n
theorem Mv.rolled {d : Addr} {H H' : Hp} {l s c : Int} (a : Mv d H H') : Mv d H (upd H' d (.lst [.int l, .int s, .int c])) := by
  refine ⟨fun b u e => ?_, l, s, c, upd_same⟩
  have q := a.same b u e
  by_cases h : b = d
  · subst h
    rw [hide_at] at q
    cases q
  · rw [hide_ne h] at q ⊢
    rw [upd_ne h]
    exact q
theorem Mv.sql {K : PySem.W.Frag} {d a : Addr} {H H' : Hp} {xs : List V} (m : Mv d H H') (n : a ≠ d) (h : SqL K H a xs) : SqL K H' a xs := by
  rcases h with (h | ⟨o, h⟩) | h
  · exact .inl (.inl (m.get n h))
  · exact .inl (.inr ⟨o, m.get n h⟩)
  · exact .inr h
theorem Mv.dp {K : PySem.W.Frag} {d : Addr} {H H' : Hp} {x : V} {dat : PyData} (m : Mv d H H') (h : Dp K (hide d H) x dat) : Dp K (hide d H') x dat := Dp.grow m.same h
theorem Dp.seen {K : PySem.W.Frag} {d : Addr} {H : Hp} {x : V} {dat : PyData} (h : Dp K (hide d H) x dat) : Dp K H x dat := Dp.grow hide_le h

theorem mul60 : CMulW (10 ^ Int.toNat 60) (10 ^ Int.toNat 60) := by
  unfold CMulW
  decide +kernel
theorem pos60 : (0 : Int) < 10 ^ Int.toNat 60 * 10 ^ Int.toNat 60 := by decide +kernel
theorem mul45 : CMulW (10 ^ Int.toNat 45) (10 ^ Int.toNat 45) := by
  unfold CMulW
  decide +kernel
/-! ## the promises of the dice -/
def spDice (K : PySem.W.Frag) : Sp := fun vs H Q _ => ∃ (a : Addr) (ns : List Int) (i : Nat), vs = [.ref a, .int (i : Int)] ∧ SqL K H a (ns.map V.int) ∧ ns.length ≤ 1000 ∧
  ∀ (p : Addr) (l s c : Int), H p = none → Q (.ref p) (upd H p (.lst [.int l, .int s, .int c]))
def spRoll : Sp := fun vs H Q _ => ∃ (d : Addr) (t : Int), vs = [.ref d, .int t] ∧ DiceAt H d ∧ 0 < t ∧ t.natAbs.log2 < 9000 ∧
  ∀ (r : Int) (H' : Hp), 0 ≤ r → r < t → Mv d H H' → (∀ b, H b = none → H' b = none) → Q (.int r) H'
def spPick (K : PySem.W.Frag) : Sp := fun vs H Q _ => ∃ (d a : Addr) (xs : List V), vs = [.ref d, .ref a] ∧ DiceAt H d ∧ SqL K H a xs ∧ a ≠ d ∧ 0 < xs.length ∧ xs.length ≤ 1000 ∧
  ∀ (i : Nat) (x : V) (H' : Hp), xs[i]? = some x → Mv d H H' → (∀ b, H b = none → H' b = none) → Q x H'
theorem DpAll.map {K : PySem.W.Frag} {H : Hp} {α : Type} (f : α → V) (g : α → PyData) : ∀ (xs : List α), (∀ x ∈ xs, Dp K H (f x) (g x)) → DpAll K H (xs.map f) (xs.map g)
  | [], _ => .nil
  | x :: r, h => .cons (h x List.mem_cons_self) (DpAll.map f g r fun y hy => h y (List.mem_cons_of_mem _ hy))
theorem canAll {α : Type} (g : α → PyData) : ∀ (xs : List α), (∀ x ∈ xs, (g x).canLay0 = true) → PyData.canLayAll0 (xs.map g) = true
  | [], _ => by simp [PyData.canLayAll0]
  | x :: r, h => by
    simp only [List.map_cons, PyData.canLayAll0, h x List.mem_cons_self, canAll g r fun y hy => h y (List.mem_cons_of_mem _ hy), Bool.and_self]
theorem depthAll0 {α : Type} (n : Nat) (g : α → PyData) : ∀ (xs : List α), (∀ x ∈ xs, (g x).depth ≤ n) → PyData.depthAll (xs.map g) ≤ n
  | [], _ => by simp [PyData.depthAll]
  | x :: r, h => by
    have h1 := h x List.mem_cons_self
    have h2 := depthAll0 n g r fun y hy => h y (List.mem_cons_of_mem _ hy)
    simp only [List.map_cons, PyData.depthAll]
    omega

/-! ## readings by statements: what an expression's reading hands on is said in one place -/
section
variable {te : TE} {tt : TT} {i : Nat} {t1 t2 rest : TS} {D : Ends} {σ : L2.St} {H : Hp}
theorem go_nx {t : TS} {r : VK} {b c : L2.St → Hp → Prop} (h : t D σ H) : Ends.nx ⟨t D, r, b, c⟩ σ H := h
theorem a_set (R : V → Hp → Prop) (h : ∀ Q' : VK, (∀ v H', R v H' → Q' v H') → te σ H Q') (k : ∀ v H', R v H' → rest D (σ.set i (some v)) H') :
    tSeq (tAsg te (gName i)) rest D σ H := h _ k
theorem a_set1 (R : V → Hp → Prop) (h : ∀ Q' : VK, (∀ v H', R v H' → Q' v H') → te σ H Q') (k : ∀ v H', R v H' → D.nx (σ.set i (some v)) H') :
    tAsg te (gName i) D σ H := h _ k
theorem a_ret (R : V → Hp → Prop) (h : ∀ Q' : VK, (∀ v H', R v H' → Q' v H') → te σ H Q') (k : ∀ v H', R v H' → D.rt v H') : tRet te D σ H := h _ k
theorem a_if (R : Bool → Hp → Prop) (h : ∀ Q' : Bool → Hp → Prop, (∀ b H', R b H' → Q' b H') → tt σ H Q') (k1 : ∀ H', R true H' → t1 { D with nx := rest D } σ H') (k2 : ∀ H', R false H' → t2 { D with nx := rest D } σ H') :
    tSeq (tIfS tt t1 t2) rest D σ H := h _ fun b H' r => by
  cases b with
  | true => exact iteT (k1 H' r)
  | false => exact iteF (k2 H' r)
theorem a_if1 (R : Bool → Hp → Prop) (h : ∀ Q' : Bool → Hp → Prop, (∀ b H', R b H' → Q' b H') → tt σ H Q') (k1 : ∀ H', R true H' → t1 D σ H') (k2 : ∀ H', R false H' → t2 D σ H') :
    tIfS tt t1 t2 D σ H := h _ fun b H' r => by
  cases b with
  | true => exact iteT (k1 H' r)
  | false => exact iteF (k2 H' r)
end
end G

set_option Elab.async false
set_option linter.all false
set_option maxRecDepth 100000
set_option maxHeartbeats 2000000
namespace G
open PySem PySem.Spec PyProof.Rows L2
/-! ## values as data, dicts among them -/
def keyD : Key → PyData
  | .inl i => .int i
  | .inr z => .str z
mutual
inductive Dx (H : Hp) : V → PyData → Prop
  | non : Dx H .non .none
  | bl (b : Bool) : Dx H (.bl b) (.bool b)
  | int (i : Int) : Dx H (.int i) (.int i)
  | str (x : Str) : Dx H (.str x) (.str x)
  | lst {a : Addr} {xs : List V} {ds : List PyData} : H a = some (.lst xs) → DxAll H xs ds → Dx H (.ref a) (.list ds)
  | tup {a : Addr} {xs : List V} {ds : List PyData} : H a = some (.tup xs) → DxAll H xs ds → Dx H (.ref a) (.tuple ds)
  | dct {a : Addr} {kvs : List (Key × V)} {ps : List (PyData × PyData)} : H a = some (.dK kvs) → DxKv H kvs ps → Dx H (.ref a) (.dict ps)
inductive DxAll (H : Hp) : List V → List PyData → Prop
  | nil : DxAll H [] []
  | cons {v : V} {vs : List V} {d : PyData} {ds : List PyData} : Dx H v d → DxAll H vs ds → DxAll H (v :: vs) (d :: ds)
inductive DxKv (H : Hp) : List (Key × V) → List (PyData × PyData) → Prop
  | nil : DxKv H [] []
  | cons {k : Key} {v : V} {r : List (Key × V)} {d : PyData} {ps : List (PyData × PyData)} : Dx H v d → DxKv H r ps → DxKv H ((k, v) :: r) ((keyD k, d) :: ps)
end
mutual
theorem Dx.grow {H H' : Hp} (s : Same H H') : ∀ {x : V} {d : PyData}, Dx H x d → Dx H' x d
  | _, _, .non => .non
  | _, _, .bl b => .bl b
  | _, _, .int i => .int i
  | _, _, .str x => .str x
  | _, _, .lst h a => .lst (s _ _ h) (DxAll.grow s a)
  | _, _, .tup h a => .tup (s _ _ h) (DxAll.grow s a)
  | _, _, .dct h a => .dct (s _ _ h) (DxKv.grow s a)
theorem DxAll.grow {H H' : Hp} (s : Same H H') : ∀ {xs : List V} {ds : List PyData}, DxAll H xs ds → DxAll H' xs ds
  | _, _, .nil => .nil
  | _, _, .cons a b => .cons (Dx.grow s a) (DxAll.grow s b)
theorem DxKv.grow {H H' : Hp} (s : Same H H') : ∀ {xs : List (Key × V)} {ds : List (PyData × PyData)}, DxKv H xs ds → DxKv H' xs ds
  | _, _, .nil => .nil
  | _, _, .cons a b => .cons (Dx.grow s a) (DxKv.grow s b)
end
mutual
theorem Dx.dp {K : PySem.W.Frag} {H : Hp} : ∀ {x : V} {d : PyData}, Dx H x d → d.hasDict = false → Dp K H x d
  | _, _, .non, _ => .non
  | _, _, .bl b, _ => .bl b
  | _, _, .int i, _ => .int i
  | _, _, .str x, _ => .str x
  | _, _, .lst h a, n => .lst (SqL.of h) (DxAll.dp a (by simpa [PyData.hasDict] using n))
  | _, _, .tup h a, n => .tup (SqT.of h) (DxAll.dp a (by simpa [PyData.hasDict] using n))
  | _, _, .dct h a, n => by simp [PyData.hasDict] at n
theorem DxAll.dp {K : PySem.W.Frag} {H : Hp} : ∀ {xs : List V} {ds : List PyData}, DxAll H xs ds → PyData.hasDictAll ds = false → DpAll K H xs ds
  | _, _, .nil, _ => .nil
  | _, _, .cons a b, n => by
    rw [PyData.hasDictAll, Bool.or_eq_false_iff] at n
    exact .cons (Dx.dp a n.1) (DxAll.dp b n.2)
end
theorem DxAll.len {H : Hp} : ∀ {xs : List V} {ds : List PyData}, DxAll H xs ds → xs.length = ds.length
  | _, _, .nil => rfl
  | _, _, .cons _ b => by rw [List.length_cons, List.length_cons, DxAll.len b]
theorem DxAll.at {H : Hp} : ∀ {xs : List V} {ds : List PyData}, DxAll H xs ds → ∀ (i : Nat) (d : PyData), ds[i]? = some d → ∃ x, xs[i]? = some x ∧ Dx H x d
  | _, _, .nil, _, _, e => by cases e
  | _, _, .cons a b, 0, d, e => by
    cases e
    exact ⟨_, rfl, a⟩
  | _, _, .cons a b, i + 1, d, e => DxAll.at b i d e
theorem DxAll.get {H : Hp} : ∀ {xs : List V} {ds : List PyData}, DxAll H xs ds → ∀ (i : Nat) (x : V), xs[i]? = some x → ∃ d, ds[i]? = some d ∧ Dx H x d
  | _, _, .nil, _, _, e => by cases e
  | _, _, .cons a b, 0, d, e => by
    cases e
    exact ⟨_, rfl, a⟩
  | _, _, .cons a b, i + 1, d, e => DxAll.get b i d e
theorem DxAll.append {H : Hp} : ∀ {xs ys : List V} {ds es : List PyData}, DxAll H xs ds → DxAll H ys es → DxAll H (xs ++ ys) (ds ++ es)
  | _, _, _, _, .nil, h => h
  | _, _, _, _, .cons a b, h => .cons a (DxAll.append b h)
theorem DxAll.take {H : Hp} : ∀ {xs : List V} {ds : List PyData} (n : Nat), DxAll H xs ds → DxAll H (xs.take n) (ds.take n)
  | _, _, 0, _ => .nil
  | _, _, _ + 1, .nil => .nil
  | _, _, n + 1, .cons a b => .cons a (DxAll.take n b)
theorem DxAll.drop {H : Hp} : ∀ {xs : List V} {ds : List PyData} (n : Nat), DxAll H xs ds → DxAll H (xs.drop n) (ds.drop n)
  | _, _, 0, h => h
  | _, _, _ + 1, .nil => .nil
  | _, _, n + 1, .cons a b => DxAll.drop n b
theorem DxAll.rep {H : Hp} {x : V} {d : PyData} (h : Dx H x d) : ∀ n, DxAll H (List.replicate n x) (List.replicate n d)
  | 0 => .nil
  | n + 1 => .cons h (DxAll.rep h n)
def tyName : PyData → String
  | .none => "NoneType" | .bool _ => "bool" | .int _ => "int" | .str _ => "str" | .list _ => "list" | .tuple _ => "tuple" | .dict _ => "dict"
theorem Dx.ty {K : PySem.W.Frag} {H : Hp} {x : V} {d : PyData} (h : Dx H x d) : TyX K H x (.type (tyName d)) := by
  cases h with
  | non => exact .base .non
  | bl b => exact .base (.bl b)
  | int i => exact .base (.int i)
  | str x => exact .base (.str x)
  | lst h _ => exact .base (.lst h)
  | tup h _ => exact .base (.tup h)
  | dct h _ => exact .base (.dK h)
theorem Same.put {H H' : Hp} {p : Addr} {o : HO} (s : Same H H') (n : H p = none) : Same H (upd H' p o) := fun b u e => by
  rw [upd_ne (ne_of_none e n)]
  exact s b u e
/-- a judge: what it says hangs on the value's data alone -/
def spJ (f : PyData → Bool) : Sp := fun vs H Q _ => ∃ (x : V) (d : PyData), vs = [x] ∧ Dx H x d ∧ ∀ H', Same H H' → Q (.bl (f d)) H'
theorem Mv.ofSame {d : Addr} {H H1 H2 : Hp} (a : Mv d H H1) (s : Same H1 H2) : Mv d H H2 := by
  refine ⟨fun b u e => ?_, ?_⟩
  · have q := a.same b u e
    by_cases h : b = d
    · subst h
      rw [hide_at] at q
      cases q
    · rw [hide_ne h] at q ⊢
      exact s _ _ q
  · obtain ⟨l, t, c, q⟩ := a.dice
    exact ⟨l, t, c, s _ _ q⟩
theorem Mv.dx {d : Addr} {H H' : Hp} {x : V} {dat : PyData} (m : Mv d H H') (h : Dx (hide d H) x dat) : Dx (hide d H') x dat := Dx.grow m.same h
theorem Dx.seen {d : Addr} {H : Hp} {x : V} {dat : PyData} (h : Dx (hide d H) x dat) : Dx H x dat := Dx.grow hide_le h

/-! ## the program's judges of forms and rows, as functions of data -/
abbrev BIG : Int := 1000000000000000000000000000000000000000000000000000000000000
def smallB (i : Int) : Bool := decide (-BIG < i) && decide (i < BIG)
def intB : PyData → Bool
  | .int i => smallB i
  | _ => false
def pairB : PyData → Bool
  | .tuple [a, b] => intB a && intB b
  | _ => false
def sideB : PyData → Bool
  | .int i => decide (0 ≤ i) && decide (i ≤ 7)
  | _ => false
def formB : PyData → Bool
  | .tuple [a, b] => sideB a && sideB b
  | _ => false
def formsB : PyData → Bool
  | .tuple ds => decide (ds.length ≤ 200) && ds.all formB
  | _ => false
def zeroD : PyData := .tuple [.int 0, .int 0]
def rowB : PyData → Bool
  | .tuple ds => formsB (.tuple ds) && (ds.isEmpty || !PyData.eqv (ds.getLastD .none) zeroD)
  | _ => false

section
variable {X : Cx}
/-- min and max of a tuple of two numbers -/
def rBest (f : Int → Int → Int) : List V → Hp → VK → Prop := fun vs H Q => ∃ (a : Addr) (i j : Int), vs = [.ref a] ∧ H a = some (.tup [.int i, .int j]) ∧ Q (.int (f i j)) H
open PySem.W in
theorem cr_max2T (hc : X.calm = true) (hu : X.A.units + 64 < cLine) : CallR X (.builtin "max") (rBest max) := by
  intro pins s σ H vs us Q I r h
  obtain ⟨a, i, j, rfl, ha, q⟩ := h
  rw [Vals.ref1 r]
  obtain ⟨its, rv, hl, _⟩ := I.tuple (SqT.of (K := X.K) ha)
  obtain ⟨u1, u2, rfl, r1, r2⟩ := vals2 rv
  obtain ⟨t1, rfl⟩ := (show ∃ t, u1 = Value.int i t from r1)
  obtain ⟨t2, rfl⟩ := (show ∃ t, u2 = Value.int j t from r2)
  refine max_tuple_data (x := .int i) (xs := [.int j]) (I.ok.hd hc) hl (.cons (.int i t1) (.cons (.int j t2) .nil)) ?_ ?_ fun k v h' tk bs hv rd kp => ?_
  · exact ⟨fun x hx y hy => by
      rcases List.mem_cons.mp hx with rfl | hx <;> rcases List.mem_cons.mp hy with rfl | hy
      · rfl
      · rw [List.mem_singleton.mp hy]; rfl
      · rw [List.mem_singleton.mp hx]; rfl
      · rw [List.mem_singleton.mp hy, List.mem_singleton.mp hx]; rfl, fun x hx z => by
      rcases List.mem_cons.mp hx with rfl | hx
      · cases z
      · rw [List.mem_singleton.mp hx] at z
        cases z⟩
  · have e : PyData.depthAll [.int i, .int j] = 0 := by simp [PyData.depthAll, PyData.depth]
    rw [e]
    omega
  · have e : maxD (.int i) [.int j] = .int (max i j) := maxD_ints i [j]
    rw [e] at rd
    cases rd with
    | int _ t => exact ⟨.int _, H, I.kept kp, ⟨t, rfl⟩, q⟩
open PySem.W in
theorem cr_min2T (hc : X.calm = true) (hu : X.A.units + 64 < cLine) : CallR X (.builtin "min") (rBest min) := by
  intro pins s σ H vs us Q I r h
  obtain ⟨a, i, j, rfl, ha, q⟩ := h
  rw [Vals.ref1 r]
  obtain ⟨its, rv, hl, _⟩ := I.tuple (SqT.of (K := X.K) ha)
  obtain ⟨u1, u2, rfl, r1, r2⟩ := vals2 rv
  obtain ⟨t1, rfl⟩ := (show ∃ t, u1 = Value.int i t from r1)
  obtain ⟨t2, rfl⟩ := (show ∃ t, u2 = Value.int j t from r2)
  refine min_tuple_data (x := .int i) (xs := [.int j]) (I.ok.hd hc) hl (.cons (.int i t1) (.cons (.int j t2) .nil)) ?_ ?_ fun k v h' tk bs hv rd kp => ?_
  · exact ⟨fun x hx y hy => by
      rcases List.mem_cons.mp hx with rfl | hx <;> rcases List.mem_cons.mp hy with rfl | hy
      · rfl
      · rw [List.mem_singleton.mp hy]; rfl
      · rw [List.mem_singleton.mp hx]; rfl
      · rw [List.mem_singleton.mp hy, List.mem_singleton.mp hx]; rfl, fun x hx z => by
      rcases List.mem_cons.mp hx with rfl | hx
      · cases z
      · rw [List.mem_singleton.mp hx] at z
        cases z⟩
  · have e : PyData.depthAll [.int i, .int j] = 0 := by simp [PyData.depthAll, PyData.depth]
    rw [e]
    omega
  · have e : minD (.int i) [.int j] = .int (min i j) := minD_ints i [j]
    rw [e] at rd
    cases rd with
    | int _ t => exact ⟨.int _, H, I.kept kp, ⟨t, rfl⟩, q⟩
end
/-! ## tuples put together, cut and repeated, over data -/
theorem fresh_same {d p : Addr} {H : Hp} {o : HO} (hd : DiceAt H d) (n : H p = none) : Same (hide d H) (hide d (upd H p o)) := ((Mv.refl hd).new n).same
theorem OpR.to {X : Cx} {f : Value → Value → Sem Value} {r r' : R2} (h : OpR X f r) (i : ∀ x y H Q, r' x y H Q → r x y H Q) : OpR X f r' :=
  fun pins s σ H x y v u Q I rx ry q => h pins s σ H x y v u Q I rx ry (i _ _ _ _ q)
theorem Dx.tupOf {H : Hp} {x : V} {ds : List PyData} (h : Dx H x (.tuple ds)) : ∃ a xs, x = .ref a ∧ H a = some (.tup xs) ∧ DxAll H xs ds := by
  cases h with
  | tup h1 h2 => exact ⟨_, _, rfl, h1, h2⟩
def rCatD : R2 := fun x y H Q => ∃ (d : Addr) (ds es : List PyData), DiceAt H d ∧ Dx (hide d H) x (.tuple ds) ∧ Dx (hide d H) y (.tuple es) ∧ ds.length + es.length ≤ 100000 ∧
  ∀ v H', Mv d H H' → Dx (hide d H') v (.tuple (ds ++ es)) → Q v H'
theorem op_catD {X : Cx} : OpR X (binaryOp .Add) rCatD := by
  refine OpR.to op_catA fun x y H Q h => ?_
  obtain ⟨d, ds, es, hd, hx, hy, hl, k⟩ := h
  obtain ⟨a, xs, rfl, ha, hxs⟩ := hx.tupOf
  obtain ⟨b, ys, rfl, hb, hys⟩ := hy.tupOf
  have l1 := hxs.len
  have l2 := hys.len
  refine ⟨a, b, xs, ys, rfl, rfl, SqT.of (hide_le _ _ ha), SqT.of (hide_le _ _ hb), Nat.le_trans (show xs.length + ys.length ≤ 100000 by omega) (by decide), fun e => ?_, fun _ e => ?_, fun _ _ p np => ?_⟩
  · subst e
    cases hxs
    exact k _ _ (Mv.refl hd) hy
  · subst e
    cases hys
    refine k _ _ (Mv.refl hd) ?_
    rw [List.append_nil]
    exact hx
  · refine k _ _ ((Mv.refl hd).new np) (.tup (by rw [hide_ne (hd.ne np)]; exact upd_same) (DxAll.grow (fresh_same hd np) (hxs.append hys)))
/-- the part of a tuple that a slice takes -/
def cutD (ds : List PyData) (lo hi : Option Int) : List PyData := (ds.drop (HT.sIx ds.length 0 lo)).take (HT.sIx ds.length ds.length hi - HT.sIx ds.length 0 lo)
def rSlD : V → Option Int → Option Int → Hp → VK → Prop := fun x lo hi H Q => ∃ (d : Addr) (ds : List PyData), DiceAt H d ∧ Dx (hide d H) x (.tuple ds) ∧
  ∀ v H', Mv d H H' → Dx (hide d H') v (.tuple (cutD ds lo hi)) → Q v H'
theorem sl_tupD {X : Cx} : SlR X rSlD := by
  intro pins s σ H x v vl vu lo hi sl Q I rx hs pl pu h
  obtain ⟨d, ds, hd, hx, k⟩ := h
  obtain ⟨a, xs, rfl, ha, hxs⟩ := hx.tupOf
  have l1 := hxs.len
  refine sl_tupA pins s σ H (.ref a) v vl vu lo hi sl Q I rx hs pl pu ⟨a, xs, rfl, SqT.of (hide_le _ _ ha), fun e => ?_, fun _ p np => ?_⟩
  · refine k _ _ (Mv.refl hd) ?_
    have e2 : cutD ds lo hi = ds := by
      unfold cutD
      rw [← l1, e.1, e.2]
      simp [l1]
    rw [e2]
    exact hx
  · refine k _ _ ((Mv.refl hd).new np) (.tup (by rw [hide_ne (hd.ne np)]; exact upd_same) (DxAll.grow (fresh_same hd np) ?_))
    have e2 : cutV xs lo hi = (xs.drop (HT.sIx ds.length 0 lo)).take (HT.sIx ds.length ds.length hi - HT.sIx ds.length 0 lo) := by
      unfold cutV
      rw [l1]
    rw [e2]
    exact (hxs.drop _).take _
def rRepD : R2 := fun x y H Q => ∃ (d : Addr) (k : Int) (ds : List PyData), y = .int k ∧ DiceAt H d ∧ Dx (hide d H) x (.tuple ds) ∧ ds ≠ [] ∧ 2 ≤ k ∧ k ≤ 1000 ∧ ds.length ≤ 1000 ∧
  ∀ v H', Mv d H H' → Dx (hide d H') v (.tuple (List.replicate k.toNat ds).flatten) → Q v H'
theorem DxAll.flat {H : Hp} {xs : List V} {ds : List PyData} (h : DxAll H xs ds) : ∀ n, DxAll H (List.replicate n xs).flatten (List.replicate n ds).flatten
  | 0 => .nil
  | n + 1 => by
    rw [List.replicate_succ, List.replicate_succ, List.flatten_cons, List.flatten_cons]
    exact h.append (DxAll.flat h n)
theorem op_repD {X : Cx} : OpR X (binaryOp .Mult) rRepD := by
  refine OpR.to op_repT fun x y H Q h => ?_
  obtain ⟨d, n, ds, rfl, hd, hx, h0, h2, h3, h4, k⟩ := h
  obtain ⟨a, xs, rfl, ha, hxs⟩ := hx.tupOf
  have l1 := hxs.len
  refine ⟨a, n, xs, rfl, rfl, SqT.of (hide_le _ _ ha), fun e => ?_, h2, h3, by omega, fun p np => ?_⟩
  · subst e
    cases hxs
    exact h0 rfl
  · exact k _ _ ((Mv.refl hd).new np) (.tup (by rw [hide_ne (hd.ne np)]; exact upd_same) (DxAll.grow (fresh_same hd np) (hxs.flat n.toNat)))
/-- a value picked out of a list of known data -/
theorem picked {d : Addr} {H H' : Hp} {xs : List V} {ds : List PyData} {i : Nat} {x : V} (h : DxAll (hide d H) xs ds) (m : Mv d H H') (e : xs[i]? = some x) : ∃ dat, dat ∈ ds ∧ Dx (hide d H') x dat := by
  obtain ⟨dat, h1, h2⟩ := h.get i x e
  exact ⟨dat, List.mem_of_getElem? h1, h2.grow m.same⟩
end G

set_option Elab.async false
set_option linter.all false
set_option maxRecDepth 100000
set_option maxHeartbeats 4000000
namespace G
open PySem PySem.Spec PyProof.Rows L2 HT
/-! ## a tuple read backwards: t[::-1] -/
theorem all_places {α : Type} : ∀ l : List α, (List.range l.length).filterMap (fun k => l[k]?) = l
  | [] => rfl
  | x :: r => by
    have ih := all_places r
    rw [List.length_cons, List.range_succ_eq_map, List.filterMap_cons]
    show x :: List.filterMap (fun k => (x :: r)[k]?) (List.map Nat.succ (List.range r.length)) = x :: r
    rw [List.filterMap_map]
    exact congrArg (x :: ·) ih
theorem fm_congr {α β : Type} {f g : α → Option β} : ∀ l : List α, (∀ x ∈ l, f x = g x) → l.filterMap f = l.filterMap g
  | [], _ => rfl
  | x :: r, h => by
    rw [List.filterMap_cons, List.filterMap_cons, h x List.mem_cons_self, fm_congr r fun y hy => h y (List.mem_cons_of_mem _ hy)]
theorem back_items (xs : Array Value) : ((List.range xs.size).filterMap fun (k : Nat) => xs[(((xs.size : Int) - 1) + (k : Int) * (-1)).toNat]?).toArray = xs.toList.reverse.toArray := by
  congr 1
  have e := all_places xs.toList.reverse
  rw [List.length_reverse, Array.length_toList] at e
  rw [← e]
  refine fm_congr _ fun k hk => ?_
  have hk' : k < xs.size := List.mem_range.mp hk
  rw [show (((xs.size : Int) - 1) + (k : Int) * (-1)).toNat = xs.size - 1 - k by omega]
  rw [← Array.getElem?_toList, List.getElem?_reverse (by rw [Array.length_toList]; exact hk'), Array.length_toList]
section
variable {prog : Program} {w : World} {A : Around} {E : Value → Shared → Prop} {s : Shared}
theorem applied_back {sl : Addr} {vl vu vs : Value} {n : Nat} {Q : Int × Int × Nat → Shared → Prop} (hs : s.heap.IsSliceOf sl vl vu vs) (pl : IsPart vl none) (pu : IsPart vu none) (ps : IsPart vs (some (-1)))
    (h : Q ((n : Int) - 1, -1, n) s) : wpAny (model prog w) A (Builtin.Slice.sliceApplied (.ref sl) (pure (n : Int))) Q E s := by
  obtain ⟨so, so1, so2, so3⟩ := id hs
  unfold Builtin.Slice.sliceApplied Builtin.Slice.sliceFields
  refine wpAny_bind (wpAny_bind (wpAny_field so1 so3 (x := vl) rfl (wpAny_bind (wpAny_field so1 so3 (x := vu) rfl (wpAny_bind (wpAny_field so1 so3 (x := vs) rfl (wpAny_pure ?_)))))))
  refine wpAny_bind (slicePart_ ps ?_)
  show wpAny _ _ (if ((-1 : Int) == 0) = true then _ else _) _ _ s
  rw [if_neg (by decide)]
  refine wpAny_bind (slicePart_ pl (wpAny_bind (slicePart_ pu (wpAny_bind (wpAny_pure ?_)))))
  have e1 : Builtin.Slice.sliceAdjust none none (-1) (n : Int) = ((n : Int) - 1, -1) := rfl
  have e2 : Builtin.Slice.slicePlaces ((n : Int) - 1) (-1) (-1) = n := by
    unfold Builtin.Slice.slicePlaces
    rw [if_neg (by decide)]
    by_cases q : (n : Int) - 1 > -1
    · rw [if_pos q]
      have : ((n : Int) - 1 - -1 - 1) / - -1 = (n : Int) - 1 - -1 - 1 := by
        rw [Int.neg_neg, Int.ediv_one]
      rw [this]
      omega
    · rw [if_neg q]
      omega
  show wpAny _ _ (match Builtin.Slice.sliceAdjust none none (-1) (n : Int) with | (lo, hi) => pure (lo, (-1 : Int), Builtin.Slice.slicePlaces lo hi (-1))) _ _ s
  rw [e1]
  show wpAny _ _ (pure ((n : Int) - 1, (-1 : Int), Builtin.Slice.slicePlaces ((n : Int) - 1) (-1) (-1))) _ _ s
  rw [e2]
  exact wpAny_pure h
theorem item_back {t sl : Addr} {items : Array Value} {vl vu vs : Value} {Q : Value → Shared → Prop} (ht : IsTup s.heap t items) (hs : s.heap.IsSliceOf sl vl vu vs) (pl : IsPart vl none) (pu : IsPart vu none) (ps : IsPart vs (some (-1)))
    (h : Q (.ref s.heap.objs.size) { s with heap := s.heap.push { cls := .type "tuple", data := .seq items.toList.reverse.toArray } }) (hsz : items.size ≤ sizeLine) : wpAny (model prog w) A (getItem (.ref t) (.ref sl)) Q E s := by
  have fits : sizeOk (.seq items.toList.reverse.toArray) := by
    show items.toList.reverse.toArray.size ≤ sizeLine
    rw [List.size_toArray, List.length_reverse, Array.length_toList]
    exact hsz
  obtain ⟨so, so1, so2, so3⟩ := id hs
  have kind : s.TypeIs (.ref sl) "slice" := ⟨so, so1, so2⟩
  unfold getItem
  try with_reducible refine wpAny_holding ?_
  first | refine wpAny_bind (wpAny_pure ?_) | skip
  refine wpAny_bind (wpAny_sequenceKey ht.typeIs (by decide) ?_)
  refine wpAny_bind (wpAny_callSpecial?_slot (name := Str.ofString "__getitem__") ht.typeIs PyProof.Rows.slot_tuple_getitem (wpAny_call_entry PyProof.Rows.slot_tuple_getitem ht.typeIs entry_tuple_getitem ?_ (args_tuple_getitem _ _)))
  show wpAny _ _ (Builtin.Tuple.tupleItemsOf (.ref t) >>= _) _ _ s
  refine wpAny_bind (tupleItemsOf_ ht (wpAny_bind (wpAny_typeOf kind ?_)))
  rw [if_pos (by decide)]
  refine wpAny_bind (applied_back hs pl pu ps ?_)
  have part : ¬ ((((items.size : Int) - 1) == 0 && (-1 : Int) == 1 && items.size == items.size) = true) := by
    intro q
    rw [Bool.and_eq_true, Bool.and_eq_true] at q
    exact absurd q.1.2 (by decide)
  show wpAny _ _ (if (((items.size : Int) - 1) == 0 && (-1 : Int) == 1 && items.size == items.size) = true then _ else _) _ _ s
  rw [if_neg part, back_items]
  first
    | exact wpAny_bind (m := Builtin.Tuple.tupleExact _) (wpAny_newObj_type (wpAny_pure ⟨_, rfl, wpAny_pure h⟩) fits)
    | exact wpAny_bind (m := Builtin.Tuple.tupleExact _) (wpAny_newObj_type (wpAny_bind (wpAny_pure (wpAny_pure ⟨_, rfl, wpAny_pure h⟩))) fits)
    | exact wpAny_bind (wpAny_bind (m := Builtin.Tuple.tupleExact _) (wpAny_newObj_type (wpAny_pure (wpAny_pure ⟨_, rfl, wpAny_pure h⟩)) fits))
    | exact wpAny_bind (wpAny_bind (m := Builtin.Tuple.tupleExact _) (wpAny_newObj_type (wpAny_pure ⟨_, rfl, wpAny_pure h⟩) fits))
end
def tRevT (K : PySem.W.Frag) (te : TE) : TE := fun σ H Q => te σ H fun x H1 => ∃ a xs, x = .ref a ∧ SqT K H1 a xs ∧ ∀ p, H1 p = none → Q (.ref p) (upd H1 p (.tup xs.reverse))
theorem pe_revT {X : Cx} {e : Expr} {te : TE} {k : Nat} {p1 p2 p3 pos : Pos} (he : PE X e te) : PE X (.Subscript e (.Slice none none (some (.UnaryOp .USub (.Constant (.int 1) k p1) p2)) p3) pos) (tRevT X.K te) := by
  constructor
  intro pins s σ H Q I h
  refine Subscript_ (thn (he.run pins s σ H _ I h) fun v s1 hv => ?_)
  obtain ⟨x, H1, I1, r1, a, xs, rfl, hx, q⟩ := hv
  cases r1
  have stp : PO X (some (.UnaryOp .USub (.Constant (.int 1) k p1) p2)) (tPart (tUn (rU fun i => .int (-i)) (tC (.int 1)))) := po_some (pe_un un_neg pe_int)
  refine wpAny_Slice (thn (po_none.run pins s1 σ H1 (fun o G => o = none ∧ G = H1) I1 ⟨rfl, rfl⟩) fun vl s2 hl => ?_)
  obtain ⟨l, H2, I2, pl, rfl, rfl⟩ := hl
  refine thn (po_none.run pins s2 σ H2 (fun o G => o = none ∧ G = H2) I2 ⟨rfl, rfl⟩) fun vu s3 hu => ?_
  obtain ⟨u, H3, I3, pu, rfl, rfl⟩ := hu
  refine thn (stp.run pins s3 σ H3 (fun o G => o = some (-1) ∧ G = H3) I3 ⟨1, rfl, -1, rfl, rfl, rfl⟩) fun vs s4 ho => ?_
  obtain ⟨o, H4, I4, ps, rfl, rfl⟩ := ho
  have I5 : Inv X pins σ H4 { s4 with heap := s4.heap.push { cls := .type "slice", data := .fields #[vl, vu, vs] } } := I4.kept (t' := s4.toks) fun b ob z => Heap.get?_push_of_some _ z
  obtain ⟨its, r, ht, hz⟩ := I5.tuple hx
  have hlen := r.length
  show wpAny (model X.prog X.w) X.A (subscriptTail e (.Slice none none (some (.UnaryOp .USub (.Constant (.int 1) k p1) p2)) p3) (.ref a) (.ref s4.heap.objs.size)) (EP X pins σ Q) X.xe { s4 with heap := s4.heap.push { cls := .type "slice", data := .fields #[vl, vu, vs] } }
  refine tail_any (ops := [.ref a, .ref s4.heap.objs.size]) ht.typeIs (PyProof.Rows.slot_tuple_getitem.lookup) ?_ (by with_unfolding_all rfl)
  refine item_back ht (Heap.IsSliceOf.new _ vl vu vs) pl pu ps ?_ (by rw [List.size_toArray]; omega)
  refine ⟨.ref _, _, I5.laid (t' := s4.toks) (o := .tup xs.reverse) (fun b ob z => Heap.get?_push_of_some _ z) (Nat.le_refl _) ?_, rfl, q _ (I5.hok.fresh (Nat.le_refl _))⟩
  refine ⟨by rw [List.length_reverse]; exact hz, its.reverse, r.reverse, _, Heap.get?_push_size _ rfl, rfl, 0, ?_⟩
  simp
end G

set_option Elab.async false
set_option linter.all false
set_option maxRecDepth 100000
set_option maxHeartbeats 4000000
namespace G
open PySem PySem.Spec PyProof.Rows L2
/-! ## Promises of defs that may raise (guards empty) -/
theorem okGX {P : Program} {w : World} {K : PySem.W.Frag} {mg : Str → Option Value} {base : Heap} {x qual : Str} {st : Stmt} {f : Addr} {fd : FuncData}
    {N ps : List Str} {k : Nat} {sp : Sp} (F : Fun K x qual st f fd) (S : FnScope N ps (defScope st)) (len : ∀ xs H Q E, sp xs H Q E → xs.length = ps.length)
    (hbody : ∀ (cdv : Value) (A : Around) (out : List Env) (s : Shared) (H : Hp) (xs : List V) (Q : VK) (E : XK), A.guards = some [] →
      Room k (A.deeper (envOfC qual (defScope st) s.heap.objs.size f cdv)) → sp xs H Q E →
      ∃ t, PSs (cxOf (L2.CX P w) P w K mg base N qual (defScope st) f cdv A out s H E) (defBody st) t ∧
        t { nx := fun _ H' => Q .non H', rt := Q } (start N xs) H) :
    FnG P w K mg base (L2.CX P w) (k + 1) f fd ps sp := by
  obtain ⟨oc, od, kV, doc, pm, an, cdv, ct, osl, rfl, lk, hcd⟩ := F.ex
  constructor
  · exact len
  intro A out s H args us xs Q E gA hr e0 hb r hsp
  have old : ∀ b o, base.get? b = some o → s.heap.get? b = some o := fun b o q => (e0.bs b o q).1
  have KX : K.In s.heap := e0.mod.kin.keeps old
  have lim : s.heap.NoLimit := e0.mod.nolimit.keeps old
  refine codeAny_call_function hr.depth (KX _ _ lk) rfl S.co S.gen rfl (PySem.W.codeRec_of KX hcd) (hb _ _ _ _ ?_)
  refine wpAny_newFunctionEnv_cells S.kind (fun y hy => ?_) fun env he s1 x1 => ?_
  · have q := S.par y.1 (List.of_mem_zip (a := y.1) (b := y.2) hy).1
    exact q.elim .inl fun q => .inr ⟨q, PySem.W.cellsFrom_some _ _ _ (.inl q)⟩
  · subst he
    refine ⟨lim.keeps x1.toInCall.keep, codeAny_func ?_⟩
    obtain ⟨t, ht, hq⟩ := hbody cdv A out s H xs Q E gA (hr.deeper _) hsp
    have I := inv_start (CX := L2.CX P w) (P := P) (w := w) (K := K) (mg := mg) (base := base) (N := N) (ps := ps) (E := E) S hr.hd e0 (len _ _ _ _ hsp) r x1
    refine wpAny_mono (ht.run [] s1 (start N xs) H _ I hq) (fun fl s2 hs => ?_) fun _ _ z => z
    match fl, hs with
    | .ret u, ⟨v, σ', H', J, rv, q⟩ => exact ⟨v, H', J.os, J.bare, J.base, J.hok, rv, q⟩
    | .next, ⟨σ', H', J, q⟩ => exact ⟨V.non, H', J.os, J.bare, J.base, J.hok, rfl, q⟩
    | .brk, ⟨_, _, _, q⟩ => exact q.elim
    | .cont, ⟨_, _, _, q⟩ => exact q.elim
structure CalX (P : Program) (w : World) (K : PySem.W.Frag) (mg : Str → Option Value) (base : Heap) (k : Nat) (x : Str) (ps : List Str) (sp : Sp) : Prop where
  ex : ∃ f fd, FnG P w K mg base (L2.CX P w) k f fd ps sp ∧ mg x = some (.ref f) ∧ PySem.W.keepIn K (.ref f) = true ∧ Binds K fd ps []
theorem calOkX {P : Program} {w : World} {K : PySem.W.Frag} {mg : Str → Option Value} {base : Heap} {x : Str} {st : Stmt} {N ps : List Str} {k : Nat} {sp : Sp}
    (D : DefAt K mg x st ps) (S : FnScope N ps (defScope st)) (len : ∀ xs H Q E, sp xs H Q E → xs.length = ps.length)
    (hbody : ∀ (f : Addr) (cdv : Value) (A : Around) (out : List Env) (s : Shared) (H : Hp) (xs : List V) (Q : VK) (E : XK), A.guards = some [] →
      Room k (A.deeper (envOfC x (defScope st) s.heap.objs.size f cdv)) → sp xs H Q E →
      ∃ t, PSs (cxOf (L2.CX P w) P w K mg base N x (defScope st) f cdv A out s H E) (defBody st) t ∧
        t { nx := fun _ H' => Q .non H', rt := Q } (start N xs) H) : CalX P w K mg base (k + 1) x ps sp := by
  obtain ⟨f, fd, F, m, b⟩ := D.ex
  exact ⟨f, fd, okGX F S len (hbody f), m, F.kp, Binds.all b⟩
section
variable {X : Cx} {CX : CXT} {k j : Nat} {f : Addr} {fd : FuncData} {ps : List Str} {sp : Sp} {E : L2.St → XK} {x : Str} {p pos : Pos} {e : Expr} {es : List Expr} {t : TA}
theorem runGS {pins : List (Addr × Obj)} {σ : L2.St} {H : Hp} {s : Shared} {Q : VK} {us : List Value} {xs : List V}
    (F : FnG X.prog X.w X.K X.mg X.base CX k f fd ps sp) (hgd : X.A.guards = some []) (hr : Room k X.A) (hb : Binds X.K fd ps []) (hx : PassesAt CX X σ (E σ))
    (I : Inv X pins σ H s) (r : Vals xs us) (h : sp xs H Q (E σ)) : wpAny (model X.prog X.w) X.A (call (.ref f) us) (EP X pins σ Q) X.xe s := by
  have sz : us.length = ps.length := r.length.symm.trans (F.len _ _ _ _ h)
  have body := F.go X.A X.stack s H ⟨us, []⟩ us xs Q (E σ) hgd hr I.env0 (by have := hb s us I.kIn (by rw [List.append_nil]; exact sz); rwa [List.append_nil] at this) r h
  refine wpAny_call (codeAny_mono body fun res t hq => ?_)
  match res, hq with
  | .error e, hq => exact hx pins H s e t I hq
  | .ok (.ret u), hq => exact I.after hq
  | .ok .next, hq => exact hq.elim
  | .ok .brk, hq => exact hq.elim
  | .ok .cont, hq => exact hq.elim
theorem pe_gS (F : FnG X.prog X.w X.K X.mg X.base CX k f fd ps sp)
    (hgd : X.A.guards = some []) (hr : Room k X.A) (hg : Gl X x) (hm : X.mg x = some (.ref f)) (hk : PySem.W.keepIn X.K (.ref f) = true)
    (hb : Binds X.K fd ps []) (hx : ∀ σ, PassesAt CX X σ (E σ)) (ha : PA X (e :: es) t)
    (hdb : (x == ("__debug__" : Str)) = false := by decide)
    (he : starEach (e :: es) X.env = (false, eval e X.env) :: starEach es X.env := by rfl)
    (hpl : (backTo pos (starEach es X.env)).any (·.1) = false := by rfl) :
    PE X (.Call (.Name x p) (e :: es) [] pos) (tCallS sp E t) :=
  ⟨fun pins s σ H Q I h => wpAny_Call_Name_kw (ld_glob I hg hm
    (PySem.W.callWith_K (h₀ := X.base) I.ok.mod.kin hk
      (thn (ha.run pos pins s σ H _ I h) fun us s1 ⟨xs, H1, I1, r, q⟩ => ⟨I1.kIn, runGS F hgd hr hb (hx σ) I1 r q⟩) he hpl) hdb)⟩
/-- a call of a def that may raise; what it lets out goes on to W -/
theorem pe_kx {W : WX} (c : CalX X.prog X.w X.K X.mg X.base k x ps sp) (tk : Takes X W) (hgd : X.A.guards = some []) (hr : Room j X.A) (hk : k ≤ j) (hg : Gl X x) (ha : PA X (e :: es) t)
    (hdb : (x == ("__debug__" : Str)) = false := by decide)
    (he : starEach (e :: es) X.env = (false, eval e X.env) :: starEach es X.env := by rfl)
    (hpl : (backTo pos (starEach es X.env)).any (·.1) = false := by rfl) :
    PE X (.Call (.Name x p) (e :: es) [] pos) (tCallS sp (WE W) t) := by
  obtain ⟨f, fd, F, m, kp, b⟩ := c.ex
  exact pe_gS F hgd (hr.mono hk) hg m kp b (fun σ => passAt tk σ) ha hdb he hpl
end
/-- a class of the text that is an exception over a built-in one, without an own __init__ -/
structure ErrAt (K : PySem.W.Frag) (mg : Str → Option Value) (x : Str) (C : Addr) (bm : List Value) (nid : String) : Prop where
  at_ : mg x = some (.ref C)
  exc : PySem.W.excIn K C bm nid = true
  keep : PySem.W.keepIn K (.ref C) = true
  base : PySem.W.subIn K (.ref C) (.type "BaseException") = some true
  ty : PySem.W.typeIn K (.ref C) = some (.type "type")
abbrev veL : List Value := [.type "ValueError", .type "Exception", .type "BaseException", .type "object"]
end G

set_option Elab.async false
set_option linter.all false
set_option maxRecDepth 100000
set_option maxHeartbeats 4000000
namespace G
open PySem PySem.W PySem.Calls PyProof.Rows
section
variable {prog : Program} {w : World} {A : Around} {E : Value → Shared → Prop} {R : Result → Shared → Prop} {s : Shared} {K : Frag} {B : String} {bmB : List Value}
/-- a local name of a def without cells -/
theorem ld_own {M : Model} {s : Shared} {name : Str} {scope : Scope} {L a : Addr} {cd : Value} {m : Str → Option Value} {x : Str} {pos : Pos} {v : Value} {Q : Value → Shared → Prop} {A : Around} {E : Value → Shared → Prop} (hn : s.heap.Ns L m) (hv : m x = some v) (h : Q v s)
    (hk : scope.kind = .function := by rfl) (hl : (envOfC name scope L a cd).kindOf x = some .local := by rfl) (hd : (x == ("__debug__" : Str)) = false := by decide) :
    wpAny M A (eval (.Name x pos) (envOfC name scope L a cd)) Q E s := wpAny_Name (wpAny_loadName_local hk hl hn hv h) hd
/-- the first field that is stored in a fresh exception of any base -/
theorem first_store {name : Str} {tk : Tok} {v : Value} {x C t : Addr} (SF : StoreFacts B bmB "object.__setattr__" "object") (X : K.In s.heap) (hx : s.heap.get? x = some (excObj C t none .none)) (ov : excOver K C bmB = true) (tn : takerIn K C name = some none) (hd : hasDictIn K C = true)
    (hq : ∀ h' tk' dx, (∀ b o, b ≠ x → s.heap.get? b = some o → h'.get? b = some o) → s.heap.objs.size ≤ dx → dx ≠ x → h'.get? x = some (excObj C t (some dx) .none) →
      h'.Ns1 dx (fun y => if y = name then some v else none) → R (.ok (.ret .none)) { s with heap := h', toks := tk' }) :
    codeAny (model prog w) A (.call (.builtin "object.__setattr__") ⟨[.ref x, .str name tk, v], []⟩) R s := by
  have low : x < s.heap.objs.size := Heap.lt_size hx
  refine osa_openX (od := none) SF X ⟨hx, rfl, rfl, trivial⟩ ov tn fun b => ?_
  obtain ⟨cd, hc, hd'⟩ := any_some hd
  refine wpAny_bind (wpAny_pure (wpAny_bind (instanceDict_exc hx (looks_clsIn X hc) hd' ?_)))
  have ne : x ≠ s.heap.objs.size := Nat.ne_of_lt low
  have hp : (s.heap.push (dictOf [] 0)).get? x = some (excObj C t none .none) := Heap.get?_push_of_some _ hx
  refine PySem.HandSPX.store_in_new (hp := (s.heap.push (dictOf [] 0)).update x fun o => { o with dict := some s.heap.objs.size }) ⟨_, #[], _, (Heap.get?_update_ne _ _ _ _ ne.symm).trans (Heap.get?_push_size _ rfl), rfl, fun e he => absurd he (by simp), fun _ => rfl⟩ fun h' tk' n sb => ?_
  refine hq h' tk' s.heap.objs.size (fun y o hy e => ?_) (Nat.le_refl _) ne.symm ?_ n
  · exact (sb.2 y (Nat.ne_of_lt (Heap.lt_size e))).trans ((Heap.get?_update_ne _ _ _ _ hy).trans (Heap.get?_push_of_some _ e))
  · exact (sb.2 x ne).trans (Heap.get?_update_self _ hp rfl)
end
end G

set_option Elab.async false
set_option linter.all false
set_option maxRecDepth 100000
set_option maxHeartbeats 4000000
namespace G
open PySem PySem.Spec PyProof.Rows L2
/-! ## try with clauses of both kinds: `except A:` and `except B as e:` -/
/-- behind a suite that had the error's name in slot i -/
def gone (i : Nat) (D : Ends) : Ends := { nx := fun σ H => D.nx (σ.set i none) H, rt := D.rt, bk := fun σ H => D.bk (σ.set i none) H, ct := fun σ H => D.ct (σ.set i none) H }
abbrev Clause := Value × Option Nat × (Addr → Value → Option Addr → TS)
def wMix (K : PySem.W.Frag) (Wout : WX) (D : Ends) : List Clause → WX
  | [] => Wout
  | (c, n, ts) :: r => fun cls d σ H => ∃ b, PySem.W.exmOne K cls c = some b ∧
      (b = true → ∀ a, H a = none → match n with | none => ts a cls d D σ H | some i => i < σ.length → ts a cls d (gone i D) (σ.set i (some (.ref a))) H) ∧ (b = false → wMix K Wout D r cls d σ H)
inductive MixOk (X : Cx) : List ExceptHandler → List Clause → Prop
  | nil : MixOk X [] []
  | plain {x : Str} {c : Value} {ts : Addr → Value → Option Addr → TS} {b0 : Stmt} {bs : List Stmt} {np hp : Pos} {hds : List ExceptHandler} {l : List Clause} (hc : Names X x c)
      (su : ∀ (a : Addr) (oe : Obj) (cls : Value) (d : Option Addr) (pn : List (Addr × Obj)), Zc cls d oe → (∃ vs, oe.data = .fields vs) → X.base.get? a = none → PSs (X.suite a ((a, oe) :: pn)) (b0 :: bs) (ts a cls d)) (r : MixOk X hds l) :
      MixOk X (.ExceptHandler (some (.Name x np)) none (b0 :: bs) hp :: hds) ((c, none, ts) :: l)
  | named {x n : Str} {i : Nat} {c : Value} {ts : Addr → Value → Option Addr → TS} {b0 : Stmt} {bs : List Stmt} {np hp : Pos} {hds : List ExceptHandler} {l : List Clause} (hc : Names X x c) (hN : X.N.Nodup) (hi : X.N[i]? = some n) (hl : X.env.kindOf n = some .local)
      (su : ∀ (a : Addr) (oe : Obj) (cls : Value) (d : Option Addr) (pn : List (Addr × Obj)), Zc cls d oe → (∃ vs, oe.data = .fields vs) → X.base.get? a = none → PSs (X.suite a ((a, oe) :: pn)) (b0 :: bs) (ts a cls d)) (r : MixOk X hds l) :
      MixOk X (.ExceptHandler (some (.Name x np)) (some n) (b0 :: bs) hp :: hds) ((c, some i, ts) :: l)
section
variable {X : Cx} {body : List Stmt} {h0 : ExceptHandler} {hds : List ExceptHandler} {l : List Clause} {pos : Pos} {tb : WX → TS} {Wout : WX}
theorem ps_mix (hs : X.stack = X.env :: X.outer) (hf : X.env.frame = some X.env.locals) (tk : Takes X Wout)
    (hb : ∀ (W : WX) (pn : List (Addr × Obj)) (xe : Value → Shared → Prop), Takes (X.tr pn xe) W → PassesOwn (model X.prog X.w) X.A X.env xe → PSs (X.tr pn xe) body (tb W))
    (hh : MixOk X (h0 :: hds) l) : PS X (.Try body (h0 :: hds) [] [] pos) (fun D σ H => tb (wMix X.K Wout D l) D σ H) := by
  constructor
  intro pins s σ H D I h
  have ok := I.ok
  have frames : X.A.frames = some (X.env :: X.outer) := ok.frames.trans (congrArg some hs)
  -- what meets an error that the body lets out
  let meets : Value → Shared → Prop := fun e s1 => wpAny (model X.prog X.w) X.A (noteFrame e X.env) (fun _ s2 => wpAny (model X.prog X.w) X.A (setFlight e none) (fun _ s3 => wpAny (model X.prog X.w) X.A (handleBy e X.env (h0 :: hds)) (SP X pins D) X.xe s3) X.xe s2) X.xe s1
  have catches : Takes (X.tr (X.pn ++ pins) meets) (wMix X.K Wout D l) := by
    rintro _ t ⟨a, B, sI, pins', σ', H', cls, d, rfl, J', nb, up, sky, na, os, ag, w⟩
    have J : Inv X pins σ' H' sI := J'.ofTry ok
    refine Sky.land Zc.steady frames hf (hs ▸ sky : Sky B (X.env :: X.outer) a (Zc cls d) X.env.locals t.heap) fun h3 fl up3 => ?_
    have J3 : Inv X pins σ' H' { t with heap := h3 } := J.landed nb fl.1 (up.trans up3) os ag
    obtain ⟨oe, vs, eo, zo, do_⟩ := fl.there
    have nbase : X.base.get? a = none := by
      cases q : X.base.get? a with
      | none => rfl
      | some ob =>
        have q1 := J'.bk a ob q
        have q2 : a ∉ frs X.stack := fun hm => by
          have z := (J'.stack.mem hm).1
          rw [show (X.tr (X.pn ++ pins) meets).base = X.base from rfl, q] at z
          cases z
        have q3 := nb a ob q1 q2
        rw [fl.2.1] at q3
        cases q3
    have away : a ∉ frs (X.env :: X.outer) := fun hm => by
      obtain ⟨_, o, e, nf⟩ := fl.2.2.1.mem hm
      rw [eo] at e
      cases e
      exact nf _ do_
    have nL : a ≠ X.env.locals := fun z => away (List.mem_filterMap.mpr ⟨X.env, List.mem_cons_self, hf.trans (congrArg some z.symm)⟩)
    have nF : a ∉ X.fs := fun hm => by
      obtain ⟨e, he, q⟩ := List.mem_filterMap.mp hm
      exact away (List.mem_filterMap.mpr ⟨e, List.mem_cons_of_mem _ he, q⟩)
    have S3 := J3.suite eo do_ na nL nF
    have isA : PySem.W.Looks (model X.prog X.w) h3 (typeOf (.ref a)) cls := fun A Q E s k q => wpAny_typeOf_ref (k _ _ eo) (zo.1.symm ▸ q)
    -- a clause's class is looked up
    have look : ∀ {x : Str} {c : Value} {np : Pos} {Q E : Value → Shared → Prop}, Names X x c → Q c { t with heap := h3 } → wpAny (model X.prog X.w) (X.A.mark (some (.ref a))) (eval (.Name x np) X.env) Q E { t with heap := h3 } := by
      rintro x c np Q E ⟨gx, nx, mx | ⟨mx, vx, ex⟩⟩ q
      · exact ld_glob (X := X.suite a ((a, oe) :: (X.pn ++ pins))) S3 gx mx q nx
      · exact ld_blt (X := X.suite a ((a, oe) :: (X.pn ++ pins))) S3 gx mx vx q ex nx
    have go : ∀ {hs' : List ExceptHandler} {l' : List Clause}, MixOk X hs' l' → wMix X.K Wout D l' cls d σ' H' → wpAny (model X.prog X.w) X.A (handleBy (.ref a) X.env hs') (SP X pins D) X.xe { t with heap := h3 } := by
      intro hs' l' m
      induction m with
      | nil =>
        intro w
        have flight := fl
        obtain ⟨_, _, _, oe2, vs2, T, _, _, e2, _, d2, i1, _⟩ := flight
        have out : wpAny (model X.prog X.w) X.A (setFlight (.ref a) X.env.frame) (fun _ s4 => wpAny (model X.prog X.w) X.A (throw (.ref a) : Sem Flow) (SP X pins D) X.xe s4) X.xe { t with heap := h3 } := by
          rw [hf]
          exact HandSPX.setFlight_upZ fl fun h4 held up4 => wpAny_throw (tk _ _ ⟨a, B, sI, pins, σ', H', cls, d, rfl, J, nb, (up.trans up3).trans up4, .inr (.inr (hs.symm ▸ held)), na, os, ag, w⟩)
        refine wpAny_handleBy_nil ?_
        unfold PySem.passOn
        refine wpAny_bind (wpAny_field e2 d2 i1 ?_)
        rw [if_neg (by simp : ¬ ((Value.ref T == Value.none) = true))]
        first
          | exact wpAny_bind out
          | exact wpAny_bind (wpAny_pure (wpAny_bind out))
      | plain hc su r ih =>
        rintro ⟨b, hb1, yes, no⟩
        refine wpAny_handleBy_cons (codeAny_handlers_test (look hc ((PySem.W.exm_one (M := model X.prog X.w) J3.kIn isA hb1).here ?_))) (fun q => nomatch q)
        match b, hb1, yes, no with
        | false, _, _, no => exact ih (no rfl)
        | true, _, yes, _ =>
          refine codeAny_handlers_suite (HandSPX.lands_againZ fl fun h4 fl4 up4 => ?_)
          have J4 : Inv X pins σ' H' { t with heap := h4 } := J.landed nb fl4.1 ((up.trans up3).trans up4) os ag
          obtain ⟨oe4, vs4, e4, z4, d4⟩ := fl4.there
          refine wpAny_mono ((su a oe4 cls d (X.pn ++ pins) z4 ⟨_, d4⟩ nbase).run [] _ _ H' _ (J4.suite e4 d4 na nL nF) (yes rfl a na)) (fun f s6 q => ?_) (fun _ _ z => z.elim)
          match f, q with
          | .next, ⟨σ6, H6, S6, q6⟩ => exact ⟨_, _, S6.unsuite ok, q6⟩
          | .brk, ⟨σ6, H6, S6, q6⟩ => exact ⟨_, _, S6.unsuite ok, q6⟩
          | .cont, ⟨σ6, H6, S6, q6⟩ => exact ⟨_, _, S6.unsuite ok, q6⟩
          | .ret u, ⟨v6, σ6, H6, S6, r6, q6⟩ => exact ⟨_, _, _, S6.unsuite ok, r6, q6⟩
      | @named x n i c ts b0 bs np hp hds2 l2 hc hN hi hl su r ih =>
        rintro ⟨b, hb1, yes, no⟩
        refine wpAny_handleBy_cons (codeAny_handlers_test (look hc ((PySem.W.exm_one (M := model X.prog X.w) J3.kIn isA hb1).here ?_))) (fun q => nomatch q)
        match b, hb1, yes, no with
        | false, _, _, no => exact ih (no rfl)
        | true, _, yes, _ =>
          refine codeAny_handlers_suite_as (HandSPX.lands_againZ fl fun h4 fl4 up4 => ?_)
          have J4 : Inv X pins σ' H' { t with heap := h4 } := J.landed nb fl4.1 ((up.trans up3).trans up4) os ag
          obtain ⟨oe4, vs4, e4, z4, d4⟩ := fl4.there
          refine store_ok (X := X.suite a ((a, oe4) :: (X.pn ++ pins))) (v := .ref a) (J4.suite e4 d4 na nL nF) hN hi (.inl hl) rfl (fun s5 S5 => ?_) (.inr hl)
          refine wpAny_mono ((su a oe4 cls d (X.pn ++ pins) z4 ⟨_, d4⟩ nbase).run [] s5 _ H' _ S5 (yes rfl a na (by rw [J.len]; exact (List.getElem?_eq_some_iff.mp hi).1))) (fun f s6 q => ?_) (fun _ _ z => z.elim)
          have fin : ∀ {σ6 : L2.St} {H6 : Hp} {Q : Shared → Prop}, Inv (X.suite a ((a, oe4) :: (X.pn ++ pins))) [] σ6 H6 s6 → (∀ s7, Inv X pins (σ6.set i none) H6 s7 → Q s7) →
              wpAny (model X.prog X.w) X.A (do bindName X.env n .none; unbindBehindTheSuite X.env n hp) (fun _ s7 => Q s7) X.xe s6 := fun {σ6 H6 Q} S6 k => gone_ok (S6.unsuite ok) hN hi hl k
          match f, q with
          | .next, ⟨σ6, H6, S6, q6⟩ => exact fin S6 fun s7 J7 => ⟨_, _, J7, q6⟩
          | .brk, ⟨σ6, H6, S6, q6⟩ => exact fin S6 fun s7 J7 => ⟨_, _, J7, q6⟩
          | .cont, ⟨σ6, H6, S6, q6⟩ => exact fin S6 fun s7 J7 => ⟨_, _, J7, q6⟩
          | .ret u, ⟨v6, σ6, H6, S6, r6, q6⟩ => exact fin S6 fun s7 J7 => ⟨_, _, _, J7, r6, q6⟩
    exact go hh w
  refine wpAny_Try_except (wpAny_mono ((hb (wMix X.K Wout D l) (X.pn ++ pins) meets catches PassesOwn.looking).run [] s σ H D (I.toTry _) h) (fun f s1 q => ?_) (fun e s1 z => z))
  match f, q with
  | .next, ⟨σ1, H1, J1, q1⟩ => exact wpAny_execs_nil ⟨σ1, H1, J1.ofTry ok, q1⟩
  | .brk, ⟨σ1, H1, J1, q1⟩ => exact ⟨σ1, H1, J1.ofTry ok, q1⟩
  | .cont, ⟨σ1, H1, J1, q1⟩ => exact ⟨σ1, H1, J1.ofTry ok, q1⟩
  | .ret u, ⟨v, σ1, H1, J1, r, q1⟩ => exact ⟨v, σ1, H1, J1.ofTry ok, r, q1⟩
end
end G

set_option Elab.async false
set_option linter.all false
set_option maxRecDepth 100000
set_option maxHeartbeats 4000000
namespace G
open PySem PySem.Spec PyProof.Rows L2
/-! ## Promises with a switch: gq = true asks for empty guards (texts of containers), gq = false asks nothing (so a lambda may call) -/
structure FnQ (gq : Bool) (P : Program) (w : World) (K : PySem.W.Frag) (mg : Str → Option Value) (base : Heap)
    (CX : CXT) (k : Nat) (f : Addr) (fd : FuncData) (ps : List Str) (sp : Sp) : Prop where
  len : ∀ xs H Q E, sp xs H Q E → xs.length = ps.length
  go : ∀ (A : Around) (out : List Env) (s : Shared) (H : Hp) (args : Args) (us : List Value) (xs : List V) (Q : VK) (E : XK),
    (gq = true → A.guards = some []) → Room k A → Env0 P w K mg base A out s H → BindsTo s fd args (ps.zip us) → Vals xs us → sp xs H Q E →
    codeAny (model P w) A (.call (.ref f) args) (CR CX out P w H s Q E) s
theorem FnQ.g {gq P w K mg base CX k f fd ps sp} (F : FnQ gq P w K mg base CX k f fd ps sp) : FnG P w K mg base CX k f fd ps sp :=
  ⟨F.len, fun A out s H args us xs Q E hg => F.go A out s H args us xs Q E fun _ => hg⟩
theorem FnQ.ok {P w K mg base CX k f fd ps sp} (F : FnQ false P w K mg base CX k f fd ps sp) : FnOk P w K mg base CX k f fd ps sp :=
  ⟨F.len, fun A out s H args us xs Q E => F.go A out s H args us xs Q E fun z => Bool.noConfusion z⟩
theorem FnQ.mono {gq P w K mg base CX j k f fd ps sp} (F : FnQ gq P w K mg base CX j f fd ps sp) (h : j ≤ k) : FnQ gq P w K mg base CX k f fd ps sp :=
  ⟨F.len, fun A out s H args us xs Q E hg hr => F.go A out s H args us xs Q E hg (hr.mono h)⟩
section
variable {gq : Bool} {X : Cx} {CX : CXT} {k j : Nat} {f : Addr} {fd : FuncData} {ps : List Str} {sp : Sp} {E : L2.St → XK} {x : Str} {p pos : Pos} {e : Expr} {es : List Expr} {t : TA}
theorem runQ {pins : List (Addr × Obj)} {σ : L2.St} {H : Hp} {s : Shared} {Q : VK} {us : List Value} {xs : List V}
    (F : FnQ gq X.prog X.w X.K X.mg X.base CX k f fd ps sp) (hgd : gq = true → X.A.guards = some []) (hr : Room k X.A) (hb : Binds X.K fd ps []) (hx : PassesAt CX X σ (E σ))
    (I : Inv X pins σ H s) (r : Vals xs us) (h : sp xs H Q (E σ)) : wpAny (model X.prog X.w) X.A (call (.ref f) us) (EP X pins σ Q) X.xe s := by
  have sz : us.length = ps.length := r.length.symm.trans (F.len _ _ _ _ h)
  have body := F.go X.A X.stack s H ⟨us, []⟩ us xs Q (E σ) hgd hr I.env0 (by have := hb s us I.kIn (by rw [List.append_nil]; exact sz); rwa [List.append_nil] at this) r h
  refine wpAny_call (codeAny_mono body fun res t hq => ?_)
  match res, hq with
  | .error e, hq => exact hx pins H s e t I hq
  | .ok (.ret u), hq => exact I.after hq
  | .ok .next, hq => exact hq.elim
  | .ok .brk, hq => exact hq.elim
  | .ok .cont, hq => exact hq.elim
theorem pe_q (F : FnQ gq X.prog X.w X.K X.mg X.base CX k f fd ps sp)
    (hgd : gq = true → X.A.guards = some []) (hr : Room k X.A) (hg : Gl X x) (hm : X.mg x = some (.ref f)) (hk : PySem.W.keepIn X.K (.ref f) = true)
    (hb : Binds X.K fd ps []) (hx : ∀ σ, PassesAt CX X σ (E σ)) (ha : PA X (e :: es) t)
    (hdb : (x == ("__debug__" : Str)) = false := by decide)
    (he : starEach (e :: es) X.env = (false, eval e X.env) :: starEach es X.env := by rfl)
    (hpl : (backTo pos (starEach es X.env)).any (·.1) = false := by rfl) :
    PE X (.Call (.Name x p) (e :: es) [] pos) (tCallS sp E t) :=
  ⟨fun pins s σ H Q I h => wpAny_Call_Name_kw (ld_glob I hg hm
    (PySem.W.callWith_K (h₀ := X.base) I.ok.mod.kin hk
      (thn (ha.run pos pins s σ H _ I h) fun us s1 ⟨xs, H1, I1, r, q⟩ => ⟨I1.kIn, runQ F hgd hr hb (hx σ) I1 r q⟩) he hpl) hdb)⟩
end
/-- a def that raises nothing -/
structure CalQ (gq : Bool) (P : Program) (w : World) (K : PySem.W.Frag) (mg : Str → Option Value) (base : Heap) (k : Nat) (x : Str) (ps : List Str) (sp : Sp) : Prop where
  ex : ∃ f fd, FnQ gq P w K mg base CX0 k f fd ps sp ∧ mg x = some (.ref f) ∧ PySem.W.keepIn K (.ref f) = true ∧ Binds K fd ps []
/-- a def that may raise -/
structure CalXQ (gq : Bool) (P : Program) (w : World) (K : PySem.W.Frag) (mg : Str → Option Value) (base : Heap) (k : Nat) (x : Str) (ps : List Str) (sp : Sp) : Prop where
  ex : ∃ f fd, FnQ gq P w K mg base (L2.CX P w) k f fd ps sp ∧ mg x = some (.ref f) ∧ PySem.W.keepIn K (.ref f) = true ∧ Binds K fd ps []
theorem CalQ.g {gq P w K mg base k x ps sp} (c : CalQ gq P w K mg base k x ps sp) : CalG P w K mg base k x ps sp :=
  let ⟨f, fd, F, r⟩ := c.ex
  ⟨f, fd, F.g, r⟩
theorem CalXQ.x {gq P w K mg base k x ps sp} (c : CalXQ gq P w K mg base k x ps sp) : CalX P w K mg base k x ps sp :=
  let ⟨f, fd, F, r⟩ := c.ex
  ⟨f, fd, F.g, r⟩
theorem okQ {gq : Bool} {CX : CXT} {P : Program} {w : World} {K : PySem.W.Frag} {mg : Str → Option Value} {base : Heap} {x qual : Str} {st : Stmt} {f : Addr} {fd : FuncData}
    {N ps : List Str} {k : Nat} {sp : Sp} (F : Fun K x qual st f fd) (S : FnScope N ps (defScope st)) (len : ∀ xs H Q E, sp xs H Q E → xs.length = ps.length)
    (hbody : ∀ (cdv : Value) (A : Around) (out : List Env) (s : Shared) (H : Hp) (xs : List V) (Q : VK) (E : XK), (gq = true → A.guards = some []) →
      Room k (A.deeper (envOfC qual (defScope st) s.heap.objs.size f cdv)) → sp xs H Q E →
      ∃ t, PSs (cxOf CX P w K mg base N qual (defScope st) f cdv A out s H E) (defBody st) t ∧
        t { nx := fun _ H' => Q .non H', rt := Q } (start N xs) H) :
    FnQ gq P w K mg base CX (k + 1) f fd ps sp := by
  obtain ⟨oc, od, kV, doc, pm, an, cdv, ct, osl, rfl, lk, hcd⟩ := F.ex
  constructor
  · exact len
  intro A out s H args us xs Q E gA hr e0 hb r hsp
  have old : ∀ b o, base.get? b = some o → s.heap.get? b = some o := fun b o q => (e0.bs b o q).1
  have KX : K.In s.heap := e0.mod.kin.keeps old
  have lim : s.heap.NoLimit := e0.mod.nolimit.keeps old
  refine codeAny_call_function hr.depth (KX _ _ lk) rfl S.co S.gen rfl (PySem.W.codeRec_of KX hcd) (hb _ _ _ _ ?_)
  refine wpAny_newFunctionEnv_cells S.kind (fun y hy => ?_) fun env he s1 x1 => ?_
  · have q := S.par y.1 (List.of_mem_zip (a := y.1) (b := y.2) hy).1
    exact q.elim .inl fun q => .inr ⟨q, PySem.W.cellsFrom_some _ _ _ (.inl q)⟩
  · subst he
    refine ⟨lim.keeps x1.toInCall.keep, codeAny_func ?_⟩
    obtain ⟨t, ht, hq⟩ := hbody cdv A out s H xs Q E gA (hr.deeper _) hsp
    have I := inv_start (CX := CX) (P := P) (w := w) (K := K) (mg := mg) (base := base) (N := N) (ps := ps) (E := E) S hr.hd e0 (len _ _ _ _ hsp) r x1
    refine wpAny_mono (ht.run [] s1 (start N xs) H _ I hq) (fun fl s2 hs => ?_) fun _ _ z => z
    match fl, hs with
    | .ret u, ⟨v, σ', H', J, rv, q⟩ => exact ⟨v, H', J.os, J.bare, J.base, J.hok, rv, q⟩
    | .next, ⟨σ', H', J, q⟩ => exact ⟨V.non, H', J.os, J.bare, J.base, J.hok, rfl, q⟩
    | .brk, ⟨_, _, _, q⟩ => exact q.elim
    | .cont, ⟨_, _, _, q⟩ => exact q.elim
theorem calOkQ {gq : Bool} {P : Program} {w : World} {K : PySem.W.Frag} {mg : Str → Option Value} {base : Heap} {x : Str} {st : Stmt} {N ps : List Str} {k : Nat} {sp : Sp}
    (D : DefAt K mg x st ps) (S : FnScope N ps (defScope st)) (len : ∀ xs H Q E, sp xs H Q E → xs.length = ps.length)
    (hbody : ∀ (f : Addr) (cdv : Value) (A : Around) (out : List Env) (s : Shared) (H : Hp) (xs : List V) (Q : VK) (E : XK), (gq = true → A.guards = some []) →
      Room k (A.deeper (envOfC x (defScope st) s.heap.objs.size f cdv)) → sp xs H Q E →
      ∃ t, PSs (cxOf CX0 P w K mg base N x (defScope st) f cdv A out s H E).nox (defBody st) t ∧
        t { nx := fun _ H' => Q .non H', rt := Q } (start N xs) H) : CalQ gq P w K mg base (k + 1) x ps sp := by
  obtain ⟨f, fd, F, m, b⟩ := D.ex
  refine ⟨f, fd, okQ F S len (fun cdv A out s H xs Q E g r h => ?_), m, F.kp, Binds.all b⟩
  obtain ⟨t, ht, q⟩ := hbody f cdv A out s H xs Q E g r h
  exact ⟨t, ht.nox, q⟩
theorem calOkXQ {gq : Bool} {P : Program} {w : World} {K : PySem.W.Frag} {mg : Str → Option Value} {base : Heap} {x : Str} {st : Stmt} {N ps : List Str} {k : Nat} {sp : Sp}
    (D : DefAt K mg x st ps) (S : FnScope N ps (defScope st)) (len : ∀ xs H Q E, sp xs H Q E → xs.length = ps.length)
    (hbody : ∀ (f : Addr) (cdv : Value) (A : Around) (out : List Env) (s : Shared) (H : Hp) (xs : List V) (Q : VK) (E : XK), (gq = true → A.guards = some []) →
      Room k (A.deeper (envOfC x (defScope st) s.heap.objs.size f cdv)) → sp xs H Q E →
      ∃ t, PSs (cxOf (L2.CX P w) P w K mg base N x (defScope st) f cdv A out s H E) (defBody st) t ∧
        t { nx := fun _ H' => Q .non H', rt := Q } (start N xs) H) : CalXQ gq P w K mg base (k + 1) x ps sp := by
  obtain ⟨f, fd, F, m, b⟩ := D.ex
  exact ⟨f, fd, okQ F S len (hbody f), m, F.kp, Binds.all b⟩
section
variable {gq : Bool} {X : Cx} {k j : Nat} {ps : List Str} {sp : Sp} {x : Str} {p pos : Pos} {e : Expr} {es : List Expr} {t : TA}
theorem pe_kq (c : CalQ gq X.prog X.w X.K X.mg X.base k x ps sp) (hgd : gq = true → X.A.guards = some []) (hr : Room j X.A) (hk : k ≤ j) (hg : Gl X x) (ha : PA X (e :: es) t)
    (hdb : (x == ("__debug__" : Str)) = false := by decide)
    (he : starEach (e :: es) X.env = (false, eval e X.env) :: starEach es X.env := by rfl)
    (hpl : (backTo pos (starEach es X.env)).any (·.1) = false := by rfl) :
    PE X (.Call (.Name x p) (e :: es) [] pos) (tCallS sp (fun _ => E0) t) := by
  obtain ⟨f, fd, F, m, kp, b⟩ := c.ex
  exact pe_q F hgd (hr.mono hk) hg m kp b (fun σ pins H s e s' I c => c.elim) ha hdb he hpl
theorem pe_kxq {W : WX} (c : CalXQ gq X.prog X.w X.K X.mg X.base k x ps sp) (tk : Takes X W) (hgd : gq = true → X.A.guards = some []) (hr : Room j X.A) (hk : k ≤ j) (hg : Gl X x) (ha : PA X (e :: es) t)
    (hdb : (x == ("__debug__" : Str)) = false := by decide)
    (he : starEach (e :: es) X.env = (false, eval e X.env) :: starEach es X.env := by rfl)
    (hpl : (backTo pos (starEach es X.env)).any (·.1) = false := by rfl) :
    PE X (.Call (.Name x p) (e :: es) [] pos) (tCallS sp (WE W) t) := by
  obtain ⟨f, fd, F, m, kp, b⟩ := c.ex
  exact pe_q F hgd (hr.mono hk) hg m kp b (fun σ => passAt tk σ) ha hdb he hpl
end
end G

set_option Elab.async false
set_option linter.all false
set_option maxRecDepth 100000
set_option maxHeartbeats 4000000
namespace G
open PySem PySem.Spec PyProof.Rows L2
/-! ## all but the tables of code objects stays -/
mutual
theorem Dx.ext {H H' : Hp} (s : LamX.ExtN H H') : ∀ {x : V} {d : PyData}, Dx H x d → Dx H' x d
  | _, _, .non => .non
  | _, _, .bl b => .bl b
  | _, _, .int i => .int i
  | _, _, .str x => .str x
  | _, _, .lst h a => .lst (s _ _ h fun _ z => by cases z) (DxAll.ext s a)
  | _, _, .tup h a => .tup (s _ _ h fun _ z => by cases z) (DxAll.ext s a)
  | _, _, .dct h a => .dct (s _ _ h fun _ z => by cases z) (DxKv.ext s a)
theorem DxAll.ext {H H' : Hp} (s : LamX.ExtN H H') : ∀ {xs : List V} {ds : List PyData}, DxAll H xs ds → DxAll H' xs ds
  | _, _, .nil => .nil
  | _, _, .cons a b => .cons (Dx.ext s a) (DxAll.ext s b)
theorem DxKv.ext {H H' : Hp} (s : LamX.ExtN H H') : ∀ {xs : List (Key × V)} {ds : List (PyData × PyData)}, DxKv H xs ds → DxKv H' xs ds
  | _, _, .nil => .nil
  | _, _, .cons a b => .cons (Dx.ext s a) (DxKv.ext s b)
end
theorem ext_of_same {H H' : Hp} (s : Same H H') : LamX.ExtN H H' := fun b o h _ => s b o h
theorem ext_hide {d : Addr} {H H' : Hp} (e : LamX.ExtN H H') : LamX.ExtN (hide d H) (hide d H') := fun b o h n => by
  by_cases q : b = d
  · subst q
    rw [hide_at] at h
    cases h
  · rw [hide_ne q] at h ⊢
    exact e b o h n
theorem dice_ext {d : Addr} {H H' : Hp} (dd : DiceAt H d) (e : LamX.ExtN H H') : DiceAt H' d :=
  let ⟨l, s, c, h⟩ := dd
  ⟨l, s, c, e _ _ h fun _ z => by cases z⟩
theorem tabs_mv {T : List (Addr × Str)} {d : Addr} {H H' : Hp} (t : LamX.Tabs T H) (dd : DiceAt H d) (m : Mv d H H') : LamX.Tabs T H' := fun p hp => by
  obtain ⟨l, s, c, hd⟩ := dd
  obtain ⟨ps, h1, h2, h3⟩ := t p hp
  have ne1 : p.1 ≠ d := fun e => by
    rw [e, hd] at h1
    cases h1
  refine ⟨ps, m.get ne1 h1, h2, fun pos cv hc => ?_⟩
  obtain ⟨c0, e1, e2⟩ := h3 pos cv hc
  refine ⟨c0, e1, m.get (fun e => ?_) e2⟩
  rw [e, hd] at e2
  unfold LamX.CodeO at e2
  cases e2
theorem tabs_put {T : List (Addr × Str)} {p : Addr} {H : Hp} {xs : List V} {o : HO} (t : LamX.Tabs T H) (hp : H p = some (.lst xs)) : LamX.Tabs T (upd H p o) := fun q hq => by
  obtain ⟨ps, h1, h2, h3⟩ := t q hq
  have ne1 : q.1 ≠ p := fun e => by
    rw [e, hp] at h1
    cases h1
  refine ⟨ps, by rw [upd_ne ne1]; exact h1, h2, fun pos cv hc => ?_⟩
  obtain ⟨c0, e1, e2⟩ := h3 pos cv hc
  refine ⟨c0, e1, ?_⟩
  rw [upd_ne (fun e => ?_)]
  · exact e2
  · rw [e, hp] at e2
    unfold LamX.CodeO at e2
    cases e2
structure MvT (T : List (Addr × Str)) (d : Addr) (H H' : Hp) : Prop where
  ext : LamX.ExtN (hide d H) (hide d H')
  dice : DiceAt H' d
  tabs : LamX.Tabs T H'
theorem MvT.refl {T : List (Addr × Str)} {d : Addr} {H : Hp} (dd : DiceAt H d) (t : LamX.Tabs T H) : MvT T d H H := ⟨LamX.ExtN.refl _, dd, t⟩
theorem MvT.trans {T : List (Addr × Str)} {d : Addr} {H H1 H2 : Hp} (a : MvT T d H H1) (b : MvT T d H1 H2) : MvT T d H H2 := ⟨a.ext.trans b.ext, b.dice, b.tabs⟩
theorem MvT.mv {T : List (Addr × Str)} {d : Addr} {H H1 H2 : Hp} (a : MvT T d H H1) (b : Mv d H1 H2) : MvT T d H H2 := ⟨a.ext.trans (ext_of_same b.same), b.dice, tabs_mv a.tabs a.dice b⟩
theorem MvT.same {T : List (Addr × Str)} {d : Addr} {H H1 H2 : Hp} (a : MvT T d H H1) (b : Same H1 H2) : MvT T d H H2 := a.mv ((Mv.refl a.dice).ofSame b)
theorem MvT.lam {T : List (Addr × Str)} {d : Addr} {H H1 H2 : Hp} (a : MvT T d H H1) (e : LamX.ExtN H1 H2) (t : LamX.Tabs T H2) : MvT T d H H2 := ⟨a.ext.trans (ext_hide e), dice_ext a.dice e, t⟩
theorem MvT.dx {T : List (Addr × Str)} {d : Addr} {H H' : Hp} {x : V} {dat : PyData} (m : MvT T d H H') (h : Dx (hide d H) x dat) : Dx (hide d H') x dat := Dx.ext m.ext h
theorem MvT.new {T : List (Addr × Str)} {d p : Addr} {H H' : Hp} {o : HO} (a : MvT T d H H') (n : H' p = none) : MvT T d H (upd H' p o) := a.same (same_new n)
theorem MvT.put {T : List (Addr × Str)} {d p : Addr} {H H' : Hp} {xs : List V} {o : HO} (a : MvT T d H H') (n : H p = none) (ne : p ≠ d) (hp : H' p = some (.lst xs)) : MvT T d H (upd H' p o) := by
  refine ⟨fun b u e k => ?_, ?_, tabs_put a.tabs hp⟩
  · have nb : b ≠ p := fun q => by
      rw [q, hide_ne ne, n] at e
      cases e
    have q := a.ext b u e k
    by_cases h : b = d
    · subst h
      rw [hide_at] at q
      cases q
    · rw [hide_ne h] at q ⊢
      rw [upd_ne nb]
      exact q
  · obtain ⟨l, s, c, q⟩ := a.dice
    exact ⟨l, s, c, by rw [upd_ne ne.symm]; exact q⟩
/-- what is a list, kept through the making of a lambda -/
theorem ext_lst {H H' : Hp} {p : Addr} {xs : List V} (e : LamX.ExtN H H') (h : H p = some (.lst xs)) : H' p = some (.lst xs) := e _ _ h fun _ z => by cases z
/-! ## the empty dict: its text, and that no number is equal to it -/
def ShwX (d : PyData) : Prop := Shw d ∨ d = .dict []
section
variable {X : Cx}
theorem dx_empty {pins : List (Addr × Obj)} {σ : L2.St} {H : Hp} {s : Shared} {x : V} {u : Value} (I : Inv X pins σ H s) (h : Dx H x (.dict [])) (r : RelV x u) :
    ∃ a o n, u = .ref a ∧ (a == sysModules) = false ∧ s.heap.get? a = some o ∧ o.cls = .type "dict" ∧ o.data = .dict #[] n := by
  cases h with
  | dct ha hk =>
    cases hk
    obtain ⟨_, hs, vs, kv, D⟩ := I.hok _ _ ha
    cases (show u = Value.ref _ from r)
    have ev : vs = [] := by
      cases kv
      rfl
    subst ev
    obtain ⟨o, es, n, ho, hx, hd, _, hp, _⟩ := D
    refine ⟨_, o, n, rfl, hs, ho, hx.1, ?_⟩
    rw [hd]
    have e2 : es.toList = [] := by
      cases q : es.toList with
      | nil => rfl
      | cons z r =>
        rw [q] at hp
        cases hp
    have : es = #[] := by
      cases es
      simpa using e2
    rw [this]
def rReprX : List V → Hp → VK → Prop := fun xs H Q => ∃ (x : V) (d : PyData), xs = [x] ∧ Dx H x d ∧ ShwX d ∧ Q (.str d.shown) H
theorem call_reprX (hgd : X.A.guards = some []) (hu : X.A.units + 64 < cLine) : CallR X (.builtin "repr") rReprX := by
  intro pins s σ H xs us Q I r h
  obtain ⟨x, d, rfl, hx, hw, q⟩ := h
  rcases hw with hw | rfl
  · exact call_repr hgd hu pins s σ H _ us Q I r ⟨x, d, rfl, hx.dp hw.noDict, hw, q⟩
  · obtain ⟨u, rfl, ru⟩ := vals1 r
    obtain ⟨a, o, n, rfl, hs, ho, hc, hd⟩ := dx_empty I hx ru
    have rd : Reads s.heap (.ref a) (.dict []) (a :: [] ++ []) := .dict ho hc hd .nil .nil
    refine repr_of_reads' rd (by simp [PyData.showable, PyData.showableKv]) (fun _ z => ?_) hgd (by simp [PyData.depth, PyData.depthKv]; omega) (fun _ _ e => e) (fun h' t tk kp => ⟨.str _, H, I.kept kp, ⟨t, rfl⟩, q⟩) (by decide +kernel)
    simp at z
    rw [z] at hs
    simp at hs
end
end G
namespace PySem.SeqAt
open MeetsSeq
open AutoSeq1 (wpAny_loadPart')
theorem int_eq_declines_dict (b : Int) (u : Tok) (l : Addr) (es : Array DictEntry) (n : Nat) (dd : Option Addr) (sl : Array (Option Value)) :
    Meets (Builtin.«int.__eq__» ⟨[.int b u, .ref l], []⟩) (fun _ R s => s.heap.get? l = some { cls := .type "dict", dict := dd, data := .dict es n, slots := sl } ∧ R (.ok (.ret .notImplemented)) s) :=
  .of_wp fun prog w A R s h => by obtain ⟨hp, g, d, tk, os⟩ := s; obtain ⟨hl, h⟩ := h; wp_walk using wpAny_loadPart' hl, wpAny_load hl; exact ⟨_, rfl, h⟩
theorem dict_eq_declines_int (l : Addr) (es : Array DictEntry) (n : Nat) (dd : Option Addr) (sl : Array (Option Value)) (b : Int) (u : Tok) :
    Meets (Builtin.«dict.__eq__» ⟨[.ref l, .int b u], []⟩) (fun _ R s => s.heap.get? l = some { cls := .type "dict", dict := dd, data := .dict es n, slots := sl } ∧ R (.ok (.ret .notImplemented)) s) :=
  .of_wp fun prog w A R s h => by obtain ⟨hp, g, d, tk, os⟩ := s; obtain ⟨hl, h⟩ := h; have f1 := F.sub_int_dict; wp_walk using wpAny_loadPart' hl; exact ⟨_, rfl, h⟩
section
variable {A : Around} {s : Shared}
theorem RcAt.int_dict {l : Addr} {o : Obj} {es : Array DictEntry} {n : Nat} (b : Int) (u : Tok) (ho : s.heap.get? l = some o) (hc : o.cls = .type "dict") (hd : o.data = .dict es n) (hu : A.units < cLine) : RcAt A s (.int b u) (.ref l) false := fun prog w E Q h => by
  obtain ⟨cls, dd, data, sl⟩ := o
  simp only at hc hd
  subst hc hd
  exact rc_eq_decline_or (k := false) (typeIs_int s b u) ⟨_, ho, rfl⟩ (by decide) F.sub_dict_int F.slot_int_eq F.slot_dict_eq_refl
    (fun _ hq => call_meets F.slot_int_eq (typeIs_int s b u) F.entry_int_eq (F.args_int_eq_2 _ _) (int_eq_declines_dict b u l es n dd sl) ⟨ho, hq⟩)
    (fun _ hq => call_meets F.slot_dict_eq_refl ⟨_, ho, rfl⟩ F.entry_dict_eq (F.args_dict_eq_2 _ _) (dict_eq_declines_int l es n dd sl b u) ⟨ho, hq⟩)
    (fun _ hq => wpAny_of_eq (rfl : isSame (.int b u) (.ref l) = pure false) hq) (.inr hu) h
theorem EqAt.int_dict {l : Addr} {o : Obj} {es : Array DictEntry} {n : Nat} (b : Int) (u : Tok) (ho : s.heap.get? l = some o) (hc : o.cls = .type "dict") (hd : o.data = .dict es n) (hu : A.units < cLine) : EqAt A s (.int b u) (.ref l) false := fun prog w E Q h => by
  unfold eqBool
  refine wpAny_holding ?_
  refine wpAny_ite_split (fun hab => absurd (eq_of_beq hab) nofun) (fun _ => ?_)
  exact wpAny_bind (RcAt.int_dict b u ho hc hd hu prog w E _ (wpAny_truthy_bool h))
end
end PySem.SeqAt
namespace G
open PySem PySem.Spec PyProof.Rows L2
section
variable {X : Cx}
/-- x in (i, j) for data of any kind, the empty dict among them -/
def rInTwo (K : PySem.W.Frag) : R2 := fun x y H Q => ∃ (a : Addr) (i j : Int) (d : PyData), y = .ref a ∧ H a = some (.tup [.int i, .int j]) ∧ Dx H x d ∧ ((d.hasDict = false ∧ SeqAt.shaped d = true) ∨ d = .dict []) ∧
  Q (.bl (([.int i, .int j] : List PyData).any fun z => PyData.eqv z d)) H
theorem op_inTwo (hu : X.A.units + 65 < cLine) : OpR X (compareOp .In) (rInTwo X.K) := by
  intro pins s σ H x y v u Q I rx ry h
  obtain ⟨a, i, j, d, rfl, ha, hx, hd, q⟩ := h
  have hT : Dp X.K H (.ref a) (.tuple [.int i, .int j]) := .tup (SqT.of ha) (.cons (.int i) (.cons (.int j) .nil))
  rcases hd with ⟨nd, sd⟩ | rfl
  · obtain ⟨as, r1⟩ := Dp.reads I d x v (hx.dp nd) rx
    obtain ⟨bs, r2⟩ := Dp.reads I _ _ u hT ry
    refine SeqAt.in_tuple_reads r2 r1 (by simp [PyData.canLayAll0, PyData.canLay0]) (SeqAt.canLay_of_shaped sd) ?_ ⟨.bl _, H, I, rfl, q⟩
    simp only [PyData.depthAll, PyData.depth]
    omega
  · obtain ⟨b, o, n, rfl, _, ho, hc, hdt⟩ := dx_empty I hx rx
    obtain ⟨as, r2⟩ := Dp.reads I _ _ u hT ry
    cases r2 with
    | tuple h1 h2 h3 h4 =>
      refine SeqAt.in_tupleAt (fun _ => false) ⟨_, h1, h2, _, h3⟩ (fun w hw => ?_) ⟨.bl _, H, I, rfl, ?_⟩
      · have hw' : w ∈ _ := (Array.mem_toList_iff ..).mpr hw
        have : ∃ k t, w = Value.int k t := by
          revert hw' h4
          generalize Array.toList _ = l
          intro h4 hw'
          cases h4 with
          | cons a1 r1 =>
            cases r1 with
            | cons a2 r2 =>
              cases r2
              cases a1
              cases a2
              rcases List.mem_cons.mp hw' with e | e
              · exact ⟨_, _, e⟩
              · rcases List.mem_cons.mp e with e | e
                · exact ⟨_, _, e⟩
                · cases e
        obtain ⟨k, t, rfl⟩ := this
        exact SeqAt.EqAt.int_dict k t ho hc hdt (by show X.A.units + 1 < cLine; omega)
      · have e1 : (([.int i, .int j] : List PyData).any fun z => PyData.eqv z (.dict [])) = false := by simp [PyData.eqv]
        rw [e1] at q
        rw [show Array.any _ (fun _ => false) = false by simp]
        exact q
end
/-! ## a def whose code object is known, for the lambdas in it -/
structure DefAtC (K : PySem.W.Frag) (mg : Str → Option Value) (x : Str) (st : Stmt) (ps : List Str) (c : Addr) : Prop where
  ex : ∃ (f : Addr) (oc : Value) (od an : Option Addr) (osl : Array (Option Value)) (kV doc pm ct : Value),
    K.lookup f = some ⟨oc, od, .func (PySem.W.fnOf x x (defArgs st) (defBody st) (defScope st) .none kV doc pm an (.ref c) ct), osl⟩ ∧ PySem.W.codeIn K (.ref c) x = true ∧ PySem.W.keepIn K (.ref f) = true ∧ mg x = some (.ref f) ∧
    ∀ us : List Value, us.length = ps.length → bindArgs (PySem.W.fnOf x x (defArgs st) (defBody st) (defScope st) .none kV doc pm an (.ref c) ct) ⟨us, []⟩ = pure (ps.zip us)
theorem defAtC {K : PySem.W.Frag} {h : Heap} {mg : Str → Option Value} {x : Str} {st : Stmt} {ps : List Str} {f c : Addr} {oc : Value} {od an : Option Addr} {osl : Array (Option Value)}
    {kV doc pm ct : Value} (KX : K.In h) (gl : h.Ns mainGlobals mg)
    (hb : ∀ us : List Value, us.length = ps.length → bindArgs (PySem.W.fnOf x x (defArgs st) (defBody st) (defScope st) .none kV doc pm an (.ref c) ct) ⟨us, []⟩ = pure (ps.zip us))
    (a : PySem.W.nsIn K mainGlobals x = some (some (.ref f)))
    (l : K.lookup f = some ⟨oc, od, .func (PySem.W.fnOf x x (defArgs st) (defBody st) (defScope st) .none kV doc pm an (.ref c) ct), osl⟩)
    (cd : PySem.W.codeIn K (.ref c) x = true) (k : PySem.W.keepIn K (.ref f) = true) : DefAtC K mg x st ps c :=
  ⟨f, oc, od, an, osl, kV, doc, pm, ct, l, cd, k, PySem.W.mg_of KX gl a, hb⟩
theorem okGC {P : Program} {w : World} {K : PySem.W.Frag} {mg : Str → Option Value} {base : Heap} {x qual : Str} {st : Stmt} {f c : Addr}
    {oc : Value} {od an : Option Addr} {osl : Array (Option Value)} {kV doc pm ct : Value}
    {N ps : List Str} {k : Nat} {sp : Sp} (lk : K.lookup f = some ⟨oc, od, .func (PySem.W.fnOf x qual (defArgs st) (defBody st) (defScope st) .none kV doc pm an (.ref c) ct), osl⟩) (hcd : PySem.W.codeIn K (.ref c) qual = true)
    (S : FnScope N ps (defScope st)) (len : ∀ xs H Q E, sp xs H Q E → xs.length = ps.length)
    (hbody : ∀ (A : Around) (out : List Env) (s : Shared) (H : Hp) (xs : List V) (Q : VK) (E : XK), A.guards = some [] →
      Room k (A.deeper (envOfC qual (defScope st) s.heap.objs.size f (.ref c))) → sp xs H Q E →
      ∃ t, PSs (cxOf CX0 P w K mg base N qual (defScope st) f (.ref c) A out s H E).nox (defBody st) t ∧
        t { nx := fun _ H' => Q .non H', rt := Q } (start N xs) H) :
    FnG P w K mg base CX0 (k + 1) f (PySem.W.fnOf x qual (defArgs st) (defBody st) (defScope st) .none kV doc pm an (.ref c) ct) ps sp := by
  constructor
  · exact len
  intro A out s H args us xs Q E gA hr e0 hb r hsp
  have old : ∀ b o, base.get? b = some o → s.heap.get? b = some o := fun b o q => (e0.bs b o q).1
  have KX : K.In s.heap := e0.mod.kin.keeps old
  have lim : s.heap.NoLimit := e0.mod.nolimit.keeps old
  refine codeAny_call_function hr.depth (KX _ _ lk) rfl S.co S.gen rfl (PySem.W.codeRec_of KX hcd) (hb _ _ _ _ ?_)
  refine wpAny_newFunctionEnv_cells S.kind (fun y hy => ?_) fun env he s1 x1 => ?_
  · have q := S.par y.1 (List.of_mem_zip (a := y.1) (b := y.2) hy).1
    exact q.elim .inl fun q => .inr ⟨q, PySem.W.cellsFrom_some _ _ _ (.inl q)⟩
  · subst he
    refine ⟨lim.keeps x1.toInCall.keep, codeAny_func ?_⟩
    obtain ⟨t, ht, hq⟩ := hbody A out s H xs Q E gA (hr.deeper _) hsp
    have I := inv_start (CX := CX0) (P := P) (w := w) (K := K) (mg := mg) (base := base) (N := N) (ps := ps) (E := E) S hr.hd e0 (len _ _ _ _ hsp) r x1
    refine wpAny_mono (ht.nox.run [] s1 (start N xs) H _ I hq) (fun fl s2 hs => ?_) fun _ _ z => z
    match fl, hs with
    | .ret u, ⟨v, σ', H', J, rv, q⟩ => exact ⟨v, H', J.os, J.bare, J.base, J.hok, rv, q⟩
    | .next, ⟨σ', H', J, q⟩ => exact ⟨V.non, H', J.os, J.bare, J.base, J.hok, rfl, q⟩
    | .brk, ⟨_, _, _, q⟩ => exact q.elim
    | .cont, ⟨_, _, _, q⟩ => exact q.elim
theorem calOkC {P : Program} {w : World} {K : PySem.W.Frag} {mg : Str → Option Value} {base : Heap} {x : Str} {st : Stmt} {N ps : List Str} {k : Nat} {sp : Sp} {c : Addr}
    (D : DefAtC K mg x st ps c) (S : FnScope N ps (defScope st)) (len : ∀ xs H Q E, sp xs H Q E → xs.length = ps.length)
    (hbody : ∀ (f : Addr) (A : Around) (out : List Env) (s : Shared) (H : Hp) (xs : List V) (Q : VK) (E : XK), A.guards = some [] →
      Room k (A.deeper (envOfC x (defScope st) s.heap.objs.size f (.ref c))) → sp xs H Q E →
      ∃ t, PSs (cxOf CX0 P w K mg base N x (defScope st) f (.ref c) A out s H E).nox (defBody st) t ∧
        t { nx := fun _ H' => Q .non H', rt := Q } (start N xs) H) : CalG P w K mg base (k + 1) x ps sp := by
  obtain ⟨f, oc, od, an, osl, kV, doc, pm, ct, l, cd, kp, m, b⟩ := D.ex
  exact ⟨f, _, okGC l cd S len (hbody f), m, kp, Binds.all b⟩
/-- the law's own def, at the address that the row names; the tables of code objects are known -/
theorem lawOkT {P : Program} {w : World} {K : PySem.W.Frag} {mg : Str → Option Value} {x y : Str} {st : Stmt} {N : List Str} {k : Nat} {sp : Sp} {fa : Addr} {cs : List (Addr × Addr)}
    (hf : mg x = some (.ref fa)) (D : DefAt K mg x st [y]) (S : FnScope N [y] (defScope st)) (len : ∀ xs H Q E, sp xs H Q E → xs.length = [y].length)
    (hbody : ∀ base : Heap, K.In base → base.Ns mainGlobals mg → (∀ p ∈ cs, LamX.TabB base mg p.1 p.2) → ∀ (f : Addr) (cdv : Value) (A : Around) (out : List Env) (s : Shared) (H : Hp) (xs : List V) (Q : VK) (E : XK), A.guards = some [] →
      Room k (A.deeper (envOfC x (defScope st) s.heap.objs.size f cdv)) → sp xs H Q E →
      ∃ t, PSs (cxOf CX0 P w K mg base N x (defScope st) f cdv A out s H E).nox (defBody st) t ∧
        t { nx := fun _ H' => Q .non H', rt := Q } (start N xs) H) :
    ∃ fd : FuncData, (∀ (s : Shared) (u : Value), BindsTo s fd ⟨[u], []⟩ [(y, u)]) ∧
      ∀ base : Heap, K.In base → base.Ns mainGlobals mg → (∀ p ∈ cs, LamX.TabB base mg p.1 p.2) → FnG P w K mg base CX0 (k + 1) fa fd [y] sp := by
  obtain ⟨f, fd, F, m, b⟩ := D.ex
  obtain rfl : f = fa := by
    rw [m] at hf
    cases hf
    rfl
  exact ⟨fd, fun s u => .of_eq (b [u] rfl), fun base h1 h2 h3 => okG F S len (hbody base h1 h2 h3 f)⟩
theorem lst_in {d p : Addr} {H : Hp} {ds : List PyData} (h : Dx (hide d H) (.ref p) (.list ds)) : ∃ xs, H p = some (.lst xs) ∧ p ≠ d ∧ DxAll (hide d H) xs ds := by
  cases h with
  | lst h1 h2 =>
    refine ⟨_, hide_le _ _ h1, fun e => ?_, h2⟩
    rw [e, hide_at] at h1
    cases h1
theorem newT {T : List (Addr × Str)} {d p : Addr} {H H' : Hp} {xs : List V} {ds : List PyData} (m : MvT T d H H') (n : H' p = none) (a : DxAll (hide d H') xs ds) :
    MvT T d H (upd H' p (.tup xs)) ∧ Dx (hide d (upd H' p (.tup xs))) (.ref p) (.tuple ds) ∧ ∀ {x : V} {dat : PyData}, Dx (hide d H') x dat → Dx (hide d (upd H' p (.tup xs))) x dat :=
  ⟨m.new n, .tup (by rw [hide_ne (m.dice.ne n)]; exact upd_same) (a.grow (fresh_same m.dice n)), fun h => h.grow (fresh_same m.dice n)⟩
theorem newL {T : List (Addr × Str)} {d p : Addr} {H H' : Hp} {xs : List V} {ds : List PyData} (m : MvT T d H H') (n : H' p = none) (a : DxAll (hide d H') xs ds) :
    MvT T d H (upd H' p (.lst xs)) ∧ Dx (hide d (upd H' p (.lst xs))) (.ref p) (.list ds) ∧ ∀ {x : V} {dat : PyData}, Dx (hide d H') x dat → Dx (hide d (upd H' p (.lst xs))) x dat :=
  ⟨m.new n, .lst (by rw [hide_ne (m.dice.ne n)]; exact upd_same) (a.grow (fresh_same m.dice n)), fun h => h.grow (fresh_same m.dice n)⟩
theorem newD {T : List (Addr × Str)} {d p : Addr} {H H' : Hp} (m : MvT T d H H') (n : H' p = none) :
    MvT T d H (upd H' p (.dK [])) ∧ Dx (hide d (upd H' p (.dK []))) (.ref p) (.dict []) ∧ ∀ {x : V} {dat : PyData}, Dx (hide d H') x dat → Dx (hide d (upd H' p (.dK []))) x dat :=
  ⟨m.new n, .dct (by rw [hide_ne (m.dice.ne n)]; exact upd_same) .nil, fun h => h.grow (fresh_same m.dice n)⟩
/-- nothing but a table stood at p -/
def NewAt (H : Hp) (p : Addr) : Prop := ∀ o, H p = some o → ∃ ps, o = .tbl ps
theorem MvT.newAt {T : List (Addr × Str)} {d p : Addr} {H H' : Hp} (a : MvT T d H H') (n : H' p = none) : NewAt H p := fun o ho => by
  have ne := a.dice.ne n
  refine Classical.byContradiction fun z => ?_
  have q := a.ext p o (by rw [hide_ne ne]; exact ho) fun ps e => z ⟨ps, e⟩
  rw [hide_ne ne, n] at q
  cases q
theorem MvT.put2 {T : List (Addr × Str)} {d p : Addr} {H H' : Hp} {xs : List V} {o : HO} (a : MvT T d H H') (n : NewAt H p) (ne : p ≠ d) (hp : H' p = some (.lst xs)) : MvT T d H (upd H' p o) := by
  refine ⟨fun b u e k => ?_, ?_, tabs_put a.tabs hp⟩
  · have nb : b ≠ p := fun q => by
      rw [q, hide_ne ne] at e
      obtain ⟨ps, z⟩ := n u e
      exact k ps z
    have q := a.ext b u e k
    by_cases h : b = d
    · subst h
      rw [hide_at] at q
      cases q
    · rw [hide_ne h] at q ⊢
      rw [upd_ne nb]
      exact q
  · obtain ⟨l, s, c, q⟩ := a.dice
    exact ⟨l, s, c, by rw [upd_ne ne.symm]; exact q⟩
theorem strsX {H : Hp} {p : Addr} (ws : List Str) (h : H p = some (.lst (ws.map V.str))) (K : PySem.W.Frag) : Dp K H (.ref p) (.list (ws.map .str)) := by
  refine .lst (SqL.of h) ?_
  clear h
  induction ws with
  | nil => exact .nil
  | cons b r ih => exact .cons (.str b) ih
theorem shaped_strs (ws : List Str) (h : ∀ w ∈ ws, PyData.strOk w = true) : SeqAt.shaped (.list (ws.map .str)) = true := by
  show (PyData.canLay0 (.list _) && decide (PyData.depth (.list _) ≤ 64)) = true
  rw [Bool.and_eq_true_iff]
  refine ⟨by simp only [PyData.canLay0]; exact canAll _ _ fun b hb => by simp [PyData.canLay0, h b hb], decide_eq_true ?_⟩
  have := depthAll0 0 PyData.str ws fun b _ => by simp [PyData.depth]
  simp only [PyData.depth]
  omega
theorem eqv_strs (ws : List Str) : PyData.eqv (.list (ws.map .str)) (.list (ws.map .str)) = true := by
  simp only [PyData.eqv]
  induction ws with
  | nil => simp [PyData.eqvAll]
  | cons b r ih => simp [PyData.eqvAll, PyData.eqv, ih]
theorem hu65 {k : Nat} {A : Around} (hr : Room k A) : A.units + 65 < cLine := by
  have := hr.un
  omega
def firstW (ws : List Str) : Str := (ws.filter fun w => !decide (w = ("" : Str))).headD ("" : Str)
def spFirst : Sp := fun vs H Q _ => ∃ (a : Addr) (ws : List Str), vs = [.ref a] ∧ H a = some (.lst (ws.map V.str)) ∧ ws.length ≤ 100 ∧ (∀ w ∈ ws, PyData.strOk w = true) ∧ ∀ H', Same H H' → Q (.str (firstW ws)) H'
end G

set_option Elab.async false
set_option linter.all false
set_option maxRecDepth 100000
set_option maxHeartbeats 4000000
namespace G
open PySem PySem.Spec PyProof.Rows L2
/-! ## the end of a row whose law makes lambdas: tables of code objects are tracked -/
theorem endGT {l : PySem.W.OpenLaw} {n k : Nat} {q : Program} {loose : List Str} {XP : (Str → Option Value) → Heap → Prop} {YP : World → Heap → Prop} {d : DefRec}
    {K : Params → PySem.W.Frag} {x : Str}
    (hn : l.most = some n) (hn2 : n ≤ sizeLine) (hdf : d.params.defaults = []) (hr : Room k callerA)
    (hY : ∀ (w : World) (h : Heap), YP w h → (K w.params).In h)
    (F : ∀ (w : World) (mg : Str → Option Value) (fa : Addr) (h : Heap), (∀ (d2 : DefRec) (x : Str) (c P : Addr), (recsOf q).find? (fun e => e.name == x) = some d2 → PySem.W.tabIn (K w.params) x = some (c, P) → PySem.W.CodeHd h c P ∧ h.get? P = some { cls := .none, data := .fields #[] }) → (K w.params).In h → h.Ns mainGlobals mg → mg d.name = some (.ref fa) →
      ∃ (fd : FuncData) (cs : List (Addr × Addr)) (sp : Sp), (∀ p ∈ cs, h.get? p.2 = some { cls := .none, data := .fields #[] }) ∧ (∀ p ∈ cs, (K w.params).lookup p.2 = none) ∧ (∀ p ∈ cs, PySem.W.CodeHd h p.1 p.2) ∧
        (∀ (s : Shared) (u : Value), BindsTo s fd ⟨[u], []⟩ [(x, u)]) ∧
        (∀ (H : Hp) (a : Addr) (ns : List Int), ns.length ≤ n → (∀ p ∈ cs, H p.2 = some (.tbl #[])) → SqL (K w.params) H a (ns.map V.int) → sp [.ref a] H (fun v _ => v = .bl true) fun _ _ _ => False) ∧
        ∀ base : Heap, (K w.params).In base → base.Ns mainGlobals mg → (∀ p ∈ cs, LamX.TabB base mg p.1 p.2) → FnG l.prog w (K w.params) mg base CX0 k fa fd [x] sp) :
    PySem.W.WalkO q loose XP YP l.row.toRowW d [] (fun f vs => PySem.call f vs) := by
  refine Att.attach_call hn hdf fun w s0 s1 mg mb fa o pm cd doc a vs ns gr Y ho hd hcd hmg ha hi hl hgn => ?_
  have KX := hY w _ Y
  obtain ⟨fd, cs, sp, tb, tnot, tcode, hbind, hsp, F⟩ := F w mg fa _ (fun d2 x c P h1 h2 => PySem.W.tab_of gr.T KX h1 h2) KX gr.T.g hmg
  have rv := vals_ints hi
  have lenV := hi.length
  have nsz : ns.length ≤ sizeLine := Nat.le_trans hl hn2
  -- the tables' places
  have tabAt : ∀ b, b ∈ cs.map Prod.snd → s1.heap.get? b = some { cls := .none, data := .fields #[] } := fun b hb => by
    obtain ⟨p, hp, rfl⟩ := List.mem_map.mp hb
    exact tb p hp
  have inTab : ∀ p ∈ cs, p.2 ∈ cs.map Prod.snd := fun p hp => List.mem_map.mpr ⟨p, hp, rfl⟩
  have notA : a ∉ cs.map Prod.snd := fun z => by
    have q := tabAt a z
    rw [ha] at q
    exact nomatch (congrArg Obj.data (Option.some.inj q) : Data.seq vs.toArray _ = Data.fields #[])
  have main : ∀ T : Hp, (∀ p ∈ cs, T p.2 = some (.tbl #[])) → (∀ b, T b = none ∨ b ∈ cs.map Prod.snd ∨ ∃ ob xs, T b = some (.frz ob (.lst xs))) → SqL (K w.params) T a (ns.map V.int) → HOk l.prog w T s1.heap →
      (∀ b, T b ≠ none → b = a ∨ b ∈ cs.map Prod.snd) → (T a ≠ none → (K w.params).lookup a = none) →
      codeAny (model l.prog w) callerA (.call (.ref fa) ⟨[.ref a], []⟩)
        (fun r t => r = .ok (.ret (.bool true)) ∧ OldK s1.heap t.heap ∧ t.os = s1.os ∧ AllBare t.gens) s1 := by
    intro T tT only hS hok only_a notK
    -- what is no list and no table is not tracked
    have free : ∀ {b : Addr} {ob : Obj}, s1.heap.get? b = some ob → (∀ us m, ob.data ≠ .seq us m) → ob.data ≠ .fields #[] → T b = none := fun {b ob} e n1 n2 => by
      match q : T b with
      | none => rfl
      | some u =>
        rcases only_a b (by rw [q]; exact Option.some_ne_none _) with hb | hb
        · rw [hb, ha] at e
          cases e
          exact absurd rfl (n1 _ _)
        · rw [tabAt b hb] at e
          cases e
          exact absurd rfl n2
    have see : ∀ {b : Addr} {ob : Obj}, s1.heap.get? b = some ob → (∀ us m, ob.data ≠ .seq us m) → ob.data ≠ .fields #[] → (hidT s1.heap T).get? b = some ob := fun e n1 n2 => hidT_get e (free e n1 n2)
    have nsT : ∀ {b : Addr} {m : Str → Option Value}, s1.heap.Ns b m → (hidT s1.heap T).Ns b m := by
      rintro b m ⟨ob, es, ep, e, ed, r⟩
      exact ⟨ob, es, ep, see e (fun us m z => by rw [ed] at z; cases z) (fun z => by rw [ed] at z; cases z), ed, r⟩
    have inT : (K w.params).In (hidT s1.heap T) := by
      intro b ob e
      refine hidT_get (KX b ob e) ?_
      match q : T b with
      | none => rfl
      | some u =>
        rcases only_a b (by rw [q]; exact Option.some_ne_none _) with hb | hb
        · subst hb
          rw [notK (by rw [q]; exact Option.some_ne_none _)] at e
          cases e
        · obtain ⟨p, hp, rfl⟩ := List.mem_map.mp hb
          rw [tnot p hp] at e
          cases e
    have nolim : (hidT s1.heap T).NoLimit := by
      obtain ⟨mc, h1, h2⟩ := gr.T.nolimit
      exact ⟨mc, nsT h1, h2⟩
    have md : Mod (K w.params) mg (hidT s1.heap T) := ⟨inT, nsT gr.T.g, ⟨mb, nsT gr.T.b, gr.T.builtins⟩, nolim⟩
    have TB : ∀ p ∈ cs, LamX.TabB (hidT s1.heap T) mg p.1 p.2 := fun p hp => by
      refine ⟨?_, ?_, fun z => ?_⟩
      · obtain ⟨ob, us, file, tf, flags, tg, inF, text, tt, e, r1, r2, r3, rest⟩ := tcode p hp
        refine ⟨ob, us, file, tf, flags, tg, inF, text, tt, see e (fun vs m z => ?_) (fun z => ?_), r1, r2, r3, rest⟩
        · rw [r2] at z
          cases z
        · rw [r2] at z
          cases z
          simp at r3
      · obtain ⟨bm, ob, b1, b2, b3, b4, b5, b6⟩ := gr.T.bmain
        refine ⟨bm, ob, b1, b2, fun z => ?_, fun z => ?_, see b3 (fun vs m z => by rw [b6] at z; cases z) (fun z => by rw [b6] at z; cases z), b4, b5, b6⟩
        · obtain ⟨og, es, ep, e, ed, _⟩ := gr.T.g
          rw [z, e] at b3
          cases b3
          rw [ed] at b6
          cases b6
        · rw [z, tb p hp] at b3
          cases b3
          cases b6
      · obtain ⟨og, es, ep, e, ed, _⟩ := gr.T.g
        rw [z, tb p hp] at e
        cases e
        cases ed
    have e0 : Env0 l.prog w (K w.params) mg (hidT s1.heap T) callerA [] s1 T := by
      refine ⟨rfl, md, fun b ob e => of_hidT e, Nat.le_of_eq (hidT_size _ _), trivial, fun b hb => ?_, hok, .of_eq hgn⟩
      cases (show b ∈ ([] : List Addr) from hb)
    have run := (F _ inT (nsT gr.T.g) TB).go callerA [] s1 T ⟨[.ref a], []⟩ [.ref a] [.ref a] _ _ rfl hr e0 (hbind s1 (.ref a)) (.cons rfl .nil) (hsp T a ns hl tT hS)
    refine codeAny_mono run fun res t hq => ?_
    match res, hq with
    | .error e, hq => exact hq.elim
    | .ok .next, hq => exact hq.elim
    | .ok .brk, hq => exact hq.elim
    | .ok .cont, hq => exact hq.elim
    | .ok (.ret u), ⟨v, T', os, bare, un, hok', rr, qq⟩ =>
      obtain rfl : v = .bl true := qq
      obtain rfl : u = Value.bool true := rr
      have stay : ∀ b ob, b ∉ cs.map Prod.snd → s1.heap.get? b = some ob → t.heap.get? b = some ob := fun b ob nb e => by
        match q : T b with
        | none => exact un.keep b ob e q (fun z => nomatch (show b ∈ ([] : List Addr) from z)) (fun z => nomatch z)
        | some u =>
          rcases only b with z | z | ⟨fo, xs, z⟩
          · rw [q] at z
            cases z
          · exact absurd z nb
          · obtain ⟨e1, _⟩ := hok b _ z
            obtain ⟨e2, _⟩ := hok' b _ (un.frzs b fo _ z)
            rw [e] at e1
            cases e1
            exact e2
      have wax : ∀ p ∈ cs, ∃ more : Array Value, t.heap.get? p.2 = some { cls := .none, data := .fields more } := fun p hp => by
        obtain ⟨more, z⟩ := un.tbls p.2 #[] (tT p hp)
        exact ⟨_, hok' p.2 _ z⟩
      refine ⟨rfl, ⟨fun b ob e => ?_, fun b ob e => ?_⟩, os, bare⟩
      · by_cases hb : b ∈ cs.map Prod.snd
        · obtain ⟨p, hp, rfl⟩ := List.mem_map.mp hb
          obtain ⟨more, hm⟩ := wax p hp
          rw [tb p hp] at e
          cases e
          exact .inr (.inl ⟨((tcode p hp).tab (tb p hp)).isCodeTable, rfl, #[], more, rfl, by rw [Array.empty_append]; exact hm⟩)
        · exact .inl (stay b ob hb e)
      · by_cases hb : b ∈ cs.map Prod.snd
        · obtain ⟨p, hp, rfl⟩ := List.mem_map.mp hb
          obtain ⟨more, hm⟩ := wax p hp
          exact ⟨_, hm⟩
        · exact ⟨ob, stay b ob hb e⟩
  match hk : (K w.params).lookup a with
  | some ob =>
    have e := KX a ob hk
    rw [ha] at e
    cases e
    have atT : ∀ b, b ∈ cs.map Prod.snd → (if b ∈ cs.map Prod.snd then some (HO.tbl #[]) else none) = some (HO.tbl #[]) := fun b hb => if_pos hb
    have offT : ∀ b, b ∉ cs.map Prod.snd → (if b ∈ cs.map Prod.snd then some (HO.tbl #[]) else none) = none := fun b hb => if_neg hb
    refine main (fun b => if b ∈ cs.map Prod.snd then some (.tbl #[]) else none) (fun p hp => atT _ (inTab p hp)) (fun b => ?_) (.inr ⟨_, vs.toArray, _, hk, rfl, rfl, rfl, ?_, ?_⟩) (fun b u z => ?_) (fun b z => ?_) (fun z => absurd (offT a notA) z)
    · by_cases hb : b ∈ cs.map Prod.snd
      · exact .inr (.inl hb)
      · exact .inl (offT b hb)
    · rw [List.size_toArray, lenV]
      exact nsz
    · simpa using rv
    · by_cases hb : b ∈ cs.map Prod.snd
      · have z2 := (atT b hb).symm.trans z
        cases z2
        exact tabAt b hb
      · have z2 := (offT b hb).symm.trans z
        cases z2
    · by_cases hb : b ∈ cs.map Prod.snd
      · exact .inr hb
      · exact absurd (offT b hb) z
  | none =>
    let T : Hp := fun b => if b = a then some (.frz { cls := .type "list", data := .seq vs.toArray } (.lst (ns.map V.int))) else if b ∈ cs.map Prod.snd then some (.tbl #[]) else none
    have atA : T a = some (.frz { cls := .type "list", data := .seq vs.toArray } (.lst (ns.map V.int))) := if_pos rfl
    have atT : ∀ b, b ∈ cs.map Prod.snd → T b = some (.tbl #[]) := fun b hb => (if_neg (fun z : b = a => notA (z ▸ hb))).trans (if_pos hb)
    have offT : ∀ b, b ≠ a → b ∉ cs.map Prod.snd → T b = none := fun b h1 h2 => (if_neg h1).trans (if_neg h2)
    refine main T (fun p hp => atT _ (inTab p hp)) (fun b => ?_) (.inl (.inr ⟨{ cls := .type "list", data := .seq vs.toArray }, atA⟩)) (fun b u z => ?_) (fun b z => ?_) fun _ => hk
    · by_cases hb : b = a
      · exact .inr (.inr ⟨_, _, by rw [hb]; exact atA⟩)
      · by_cases h2 : b ∈ cs.map Prod.snd
        · exact .inr (.inl h2)
        · exact .inl (offT b hb h2)
    · by_cases hb : b = a
      · subst hb
        rw [atA] at z
        cases z
        exact ⟨ha, by rw [List.length_map]; exact nsz, vs, _, rv, ha⟩
      · by_cases h2 : b ∈ cs.map Prod.snd
        · rw [atT b h2] at z
          cases z
          exact tabAt b h2
        · rw [offT b hb h2] at z
          cases z
    · by_cases hb : b = a
      · exact .inl hb
      · by_cases h2 : b ∈ cs.map Prod.snd
        · exact .inr h2
        · exact absurd (offT b hb h2) z
theorem packT {P : Program} {w : World} {K : PySem.W.Frag} {mg : Str → Option Value} {k n : Nat} {fa : Addr} {x : Str} {cs : List (Addr × Addr)} {sp : Sp} {h : Heap}
    (tb : ∀ p ∈ cs, h.get? p.2 = some { cls := .none, data := .fields #[] }) (tn : ∀ p ∈ cs, K.lookup p.2 = none) (tc : ∀ p ∈ cs, PySem.W.CodeHd h p.1 p.2)
    (hsp : ∀ (H : Hp) (a : Addr) (ns : List Int), ns.length ≤ n → (∀ p ∈ cs, H p.2 = some (.tbl #[])) → SqL K H a (ns.map V.int) → sp [.ref a] H (fun v _ => v = .bl true) fun _ _ _ => False)
    (z : ∃ fd : FuncData, (∀ (s : Shared) (u : Value), BindsTo s fd ⟨[u], []⟩ [(x, u)]) ∧ ∀ base : Heap, K.In base → base.Ns mainGlobals mg → (∀ p ∈ cs, LamX.TabB base mg p.1 p.2) → FnG P w K mg base CX0 k fa fd [x] sp) :
    ∃ (fd : FuncData) (cs : List (Addr × Addr)) (sp : Sp), (∀ p ∈ cs, h.get? p.2 = some { cls := .none, data := .fields #[] }) ∧ (∀ p ∈ cs, K.lookup p.2 = none) ∧ (∀ p ∈ cs, PySem.W.CodeHd h p.1 p.2) ∧
        (∀ (s : Shared) (u : Value), BindsTo s fd ⟨[u], []⟩ [(x, u)]) ∧
        (∀ (H : Hp) (a : Addr) (ns : List Int), ns.length ≤ n → (∀ p ∈ cs, H p.2 = some (.tbl #[])) → SqL K H a (ns.map V.int) → sp [.ref a] H (fun v _ => v = .bl true) fun _ _ _ => False) ∧
        ∀ base : Heap, K.In base → base.Ns mainGlobals mg → (∀ p ∈ cs, LamX.TabB base mg p.1 p.2) → FnG P w K mg base CX0 k fa fd [x] sp :=
  let ⟨fd, hb, hF⟩ := z
  ⟨fd, cs, sp, tb, tn, tc, hb, hsp, hF⟩
end G

set_option Elab.async false
set_option linter.all false
set_option maxRecDepth 100000
set_option maxHeartbeats 2000000
/-! ## the error InvalidNumber of the text: over IndexError, its own __init__ keeps value (after the guide's skeleton 42, for any base) -/
namespace OwnInvalidNumber
open PySem PySem.W PySem.Calls PyProof.Rows PySem.HandSPX
def iA (p1 p2 : Pos) : Arguments := { posonlyargs := [], args := [{ arg := "self", annotation := none, pos := p1 }, { arg := "value", annotation := none, pos := p2 }], vararg := none, kwonlyargs := [], kw_defaults := [], kwarg := none, defaults := [] }
def iB (q1 q2 q3 q4 : Pos) : List Stmt := [.Assign [.Attribute (.Name "self" q1) "value" q2] (.Name "value" q3) q4]
def iS : Scope := { kind := .function, names := [(PySem.Str.ofString "self", .local), (PySem.Str.ofString "value", .local)], isGenerator := false, isCoroutine := false, more := [] }
abbrev bmB : List Value := [.type "IndexError", .type "LookupError", .type "Exception", .type "BaseException", .type "object"]
structure Txt (K : Frag) (mg : Str → Option Value) (C fI : Addr) : Prop where
  gC : mg "InvalidNumber" = some (.ref C)
  cls : ∃ nm q N bs bm sn sub ab col dd k0 k1 k2 k3 k5, K.lookup C = some (excClassObj nm q C N bs bm true sn sub ab col dd k0 k1 k2 k3 k5 "IndexError.__new__") ∧ excTail bmB bm = true
  ov : excOver K C bmB = true
  sa : findIn K (.ref C) "__setattr__" = some (some (.builtin "object.__setattr__"))
  ga : findIn K (.ref C) "__getattribute__" = some (some (.builtin "BaseException.__getattribute__"))
  gg : findIn K (.ref C) "__getattr__" = some none
  noN : findIn K (.ref C) "value" = some none
  tkN : takerIn K C "value" = some none
  iC : findIn K (.ref C) "__init__" = some (some (.ref fI))
  tC : typeIn K (.ref fI) = some (.type "function")
  kC : keepIn K (.ref C) = true
  exC : subIn K (.ref C) (.type "BaseException") = some true
  tyC : typeIn K (.ref C) = some (.type "type")
  hdC : hasDictIn K C = true
  te : exmOne K (.ref C) (.ref C) = some true
  fn : ∃ (oc : Value) (od : Option Addr) (doc pm : Value) (an : Option Addr) (cdv ct : Value) (osl : Array (Option Value)) (p1 p2 q1 q2 q3 q4 : Pos),
    K.lookup fI = some ⟨oc, od, .func (fnOf "__init__" "InvalidNumber.__init__" (iA p1 p2) (iB q1 q2 q3 q4) iS .none .none doc pm an cdv ct), osl⟩ ∧ codeIn K cdv "InvalidNumber.__init__" = true
theorem mk_txt {K : Frag} {h : Heap} {mg : Str → Option Value} {C fI : Addr} {nm q : Str} {N : Addr} {bs bm : List Value} {sn : List Str} {sub : List Value} {ab : Bool} {col : Option Bool} {dd : Option Addr} {k0 k1 k2 k3 k5 : Option Value}
    {oc : Value} {od : Option Addr} {doc pm : Value} {an : Option Addr} {cdv ct : Value} {osl : Array (Option Value)} {p1 p2 q1 q2 q3 q4 : Pos} (X : K.In h) (G : h.Ns mainGlobals mg)
    (gC : nsIn K mainGlobals "InvalidNumber" = some (some (.ref C))) (cls : K.lookup C = some (excClassObj nm q C N bs bm true sn sub ab col dd k0 k1 k2 k3 k5 "IndexError.__new__")) (tl : excTail bmB bm = true)
    (ov : excOver K C bmB = true) (sa : findIn K (.ref C) "__setattr__" = some (some (.builtin "object.__setattr__"))) (ga : findIn K (.ref C) "__getattribute__" = some (some (.builtin "BaseException.__getattribute__")))
    (gg : findIn K (.ref C) "__getattr__" = some none) (noN : findIn K (.ref C) "value" = some none) (tkN : takerIn K C "value" = some none) (iC : findIn K (.ref C) "__init__" = some (some (.ref fI)))
    (tC : typeIn K (.ref fI) = some (.type "function")) (kC : keepIn K (.ref C) = true) (exC : subIn K (.ref C) (.type "BaseException") = some true) (tyC : typeIn K (.ref C) = some (.type "type")) (hdC : hasDictIn K C = true) (te : exmOne K (.ref C) (.ref C) = some true)
    (fn : K.lookup fI = some ⟨oc, od, .func (fnOf "__init__" "InvalidNumber.__init__" (iA p1 p2) (iB q1 q2 q3 q4) iS .none .none doc pm an cdv ct), osl⟩) (cd : codeIn K cdv "InvalidNumber.__init__" = true) : Txt K mg C fI :=
  ⟨mg_of X G gC, ⟨_, _, _, _, _, _, _, _, _, _, _, _, _, _, _, cls, tl⟩, ov, sa, ga, gg, noN, tkN, iC, tC, kC, exC, tyC, hdC, te, ⟨_, _, _, _, _, _, _, _, _, _, _, _, _, _, fn, cd⟩⟩
structure InitEnd (h h' : Heap) (x C dx t1 : Addr) (v : Value) : Prop where
  keep : ∀ b o, b ≠ x → h.get? b = some o → h'.get? b = some o
  obj : h'.get? x = some { cls := .ref C, dict := some dx, data := .fields #[.ref t1, .none, .none, .none, .bool false, .none] }
  dbig : h.objs.size ≤ dx
  dne : dx ≠ x
  ns : h'.Ns1 dx (fun y => if y = "value" then some v else none)
structure Made (h h' : Heap) (e C d : Addr) (v : Value) : Prop where
  keep : ∀ b o, h.get? b = some o → h'.get? b = some o
  new : h.objs.size ≤ e
  obj : ∃ oe vs, h'.get? e = some oe ∧ oe.cls = .ref C ∧ oe.dict = some d ∧ oe.data = .fields vs ∧ vs[1]? = some .none
  dbig : h.objs.size ≤ d
  dne : d ≠ e
  ns : h'.Ns1 d (fun y => if y = "value" then some v else none)
section
variable {prog : Program} {w : World} {A : Around} {E : Value → Shared → Prop} {R : Result → Shared → Prop} {s : Shared} {K : Frag} {mg : Str → Option Value} {C fI : Addr}
theorem init_run (T : Txt K mg C fI) {x t0 : Addr} {v : Value} (X : K.In s.heap) (lim : s.heap.NoLimit) (hx : s.heap.get? x = some (excO C t0)) (room : A.depth < recursionLimit)
    (hq : ∀ h' tk dx, InitEnd s.heap h' x C dx t0 v → R (.ok (.ret .none)) { s with heap := h', toks := tk }) :
    codeAny (model prog w) A (.call (.ref fI) ⟨[.ref x, v], []⟩) R s := by
  obtain ⟨oc, od, doc, pm, an, cdv, ct, osl, p1, p2, q1, q2, q3, q4, ho, hcd⟩ := T.fn
  refine Att.call_fn (binds := [("self", .ref x), ("value", v)]) X lim ho hcd room (BindsTo.of_eq (by first | rfl | with_unfolding_all rfl)) (by first | rfl | decide | with_unfolding_all rfl) (fun s₁ IC => ?_) rfl rfl rfl
  obtain ⟨h₁, tk₁, rfl⟩ := IC.toInCall.same
  have kp : ∀ b o, s.heap.get? b = some o → h₁.get? b = some o := IC.toInCall.keep
  have hn := IC.toInCall.ns
  have X₁ : K.In h₁ := X.keeps kp
  have hx₁ := kp _ _ hx
  show wpAny _ _ (execs _ _) _ _ _
  refine wpAny_execs_cons (plainObj_wpAny_Assign_Attribute ?_)
  refine G.ld_own (v := v) hn (by first | rfl | with_unfolding_all rfl | kernel_rfl) (G.ld_own (v := .ref x) hn (by first | rfl | with_unfolding_all rfl | kernel_rfl) ?_)
  refine set_plain X₁ (ox := excO C t0) (od := none) ⟨hx₁, rfl, rfl, trivial⟩ T.sa ?_
  refine G.first_store PySem.F.store_IndexError X₁ hx₁ T.ov T.tkN T.hdC fun h₃ tk₃ dx k₃ dn dne hx₃ hn₃ => ?_
  show wpAny _ _ (execs _ _) _ _ _
  have z : s.heap.objs.size < h₁.objs.size := hn.lt
  exact wpAny_execs_nil (hq h₃ tk₃ dx ⟨fun b o hb e => k₃ b o hb (kp b o e), hx₃, Nat.le_of_lt (Nat.lt_of_lt_of_le z dn), dne, hn₃⟩)
theorem made (T : Txt K mg C fI) {v : Value} (X : K.In s.heap) (lim : s.heap.NoLimit) (room : A.depth + 1 < recursionLimit)
    (hq : ∀ h' tk e d, Made s.heap h' e C d v → R (.ok (.ret (.ref e))) { s with heap := h', toks := tk }) :
    codeAny (model prog w) A (.call (.ref C) ⟨[v], []⟩) R s := by
  obtain ⟨nm, q, N, bs, bm, sn, sub, ab, col, dd, k0, k1, k2, k3, k5, hC, hbm⟩ := T.cls
  obtain ⟨hp, g, dr, tk, os⟩ := s
  have kp : ∀ b o, hp.get? b = some o → ((hp.push (kdv_tup [v])).push (excO C hp.objs.size)).get? b = some o := fun b o e => Heap.get?_push_of_some _ (Heap.get?_push_of_some _ e)
  have hget : ((hp.push (kdv_tup [v])).push (excO C hp.objs.size)).get? (hp.objs.size + 1) = some (excO C hp.objs.size) := by heap_get
  refine call_own PySem.F.excBase_IndexError (fun Y => excTail_contains Y bm hbm) (X _ _ hC) (looks_findIn X T.iC) (fun self => bind_fn X self T.tC) (by rw [sizeLine_eq]; exact (by decide : 1 ≤ 16777216)) ?_
  refine init_run (s := ⟨(hp.push (kdv_tup [v])).push (excO C hp.objs.size), g, dr, tk, os⟩) T (X.keeps kp) (lim.keeps kp) hget (show A.depth + 1 < recursionLimit from room) fun h' tk' dx ⟨k', hx, dn, dne, hns⟩ => ?_
  have old : ∀ b o, hp.get? b = some o → h'.get? b = some o := fun b o e => k' b o (Nat.ne_of_lt (Nat.lt_succ_of_lt (Heap.lt_size e))) (kp b o e)
  have big : hp.objs.size ≤ dx := by
    have q := dn
    have e1 : ((hp.push (kdv_tup [v])).push (excO C hp.objs.size)).objs.size = hp.objs.size + 1 + 1 := by rw [Heap.size_push, Heap.size_push]
    have q2 : ((hp.push (kdv_tup [v])).push (excO C hp.objs.size)).objs.size ≤ dx := q
    rw [e1] at q2
    exact Nat.le_trans (Nat.le_trans (Nat.le_succ _) (Nat.le_succ _)) q2
  exact ⟨rfl, hq h' tk' (hp.objs.size + 1) dx ⟨old, Nat.le_succ _, ⟨_, _, hx, rfl, rfl, rfl, rfl⟩, big, dne, hns⟩⟩
end
end OwnInvalidNumber
namespace OwnInvalidNumber
open PySem PySem.Spec PyProof.Rows L2
theorem relO {v : V} {v' : Value} (r : RelV v v') (f : Str) : RelO (List.lookup f [(("value" : Str), v)]) (if f = "value" then some v' else none) := by
  by_cases hw : f = "value"
  · subst hw
    rw [if_pos rfl, show List.lookup ("value" : Str) [(("value" : Str), v)] = some v by simp [List.lookup]]
    exact r
  · rw [if_neg hw]
    have qw : (f == ("value" : Str)) = false := by simpa using hw
    rw [show List.lookup f [(("value" : Str), v)] = none by simp [List.lookup, qw]]
    trivial
section
variable {X : Cx} {C fI : Addr}
/-- InvalidNumber(e) -/
def tMk (C : Addr) (ta : TA) : L2.St → Hp → XK → Prop := fun σ H Q => ta σ H fun vs H1 => ∃ v, vs = [v] ∧ ∀ d, H1 d = none → Q (.ref C) (some d) (upd H1 d (.xd [(("value" : Str), v)]))
theorem pmk {a : Expr} {ta : TA} {p pos : Pos} {k : Nat} (T : OwnInvalidNumber.Txt X.K X.mg C fI) (hr : Room k X.A) (hg : Gl X "InvalidNumber") (ha : PA X [a] ta)
    (he : starEach (a :: []) X.env = (false, eval a X.env) :: starEach [] X.env := by rfl) (hpl : (backTo pos (starEach [] X.env)).any (·.1) = false := by rfl) :
    PMk X (.Call (.Name "InvalidNumber" p) [a] [] pos) (tMk C ta) := by
  intro pins s σ H Q I h
  refine wpAny_Call_Name_kw (ld_glob I hg T.gC ?_)
  refine PySem.W.callWith_K (h₀ := X.base) I.ok.mod.kin T.kC (thn (ha.run pos pins s σ H _ I h) fun us s1 ⟨vs, H1, I1, r1, v, ev, q1⟩ => ?_) he hpl
  subst ev
  refine ⟨I1.kIn, ?_⟩
  obtain ⟨v', rfl, rv⟩ := vals1 r1
  show wpAny _ _ (call (.ref C) [v']) _ _ _
  have lim := I1.nolimit
  obtain ⟨hp, g, dr, tk, os⟩ := s1
  refine wpAny_call (OwnInvalidNumber.made T I1.kIn lim (by have := hr.dp; omega) fun h' tk' e d M => ?_)
  show MkP X pins σ Q (.ref e) ⟨h', g, dr, tk', os⟩
  obtain ⟨oe, fv, hoe, hc, hd, hdat, h1⟩ := M.obj
  obtain ⟨G', g1, g2⟩ := restrict h' fun b => decide (b ≠ e)
  have gk : ∀ b, b ≠ e → G'.get? b = h'.get? b := fun b hb => g1 b (decide_eq_true hb)
  have ge : G'.get? e = none := g2 e (by simp)
  have old : ∀ b o, hp.get? b = some o → G'.get? b = some o := fun b o q => (gk b (Nat.ne_of_lt (Nat.lt_of_lt_of_le (Heap.lt_size q) M.new))).trans (M.keep b o q)
  have ob : ObjOk X.prog X.w (upd H1 d (.xd [(("value" : Str), v)])) G' d (.xd [(("value" : Str), v)]) := ⟨_, M.ns.at (fun o q => (gk d M.dne).trans q), fun f => relO rv f⟩
  have J : Inv X pins σ (upd H1 d (.xd [(("value" : Str), v)])) ⟨G', g, dr, tk', os⟩ := I1.laid (t' := tk') old M.dbig ob
  refine ⟨e, oe, fv, ⟨G', g, dr, tk', os⟩, _, .ref C, some d, rfl, J, fun b o q => ?_, ge, hoe, ⟨hc, hd⟩, hdat, h1, ?_, rfl, I1.bare, raises_own T.exC T.tyC, q1 d (I1.hok.fresh M.dbig)⟩
  · have q' : G'.get? b = some o := q
    by_cases hb : b = e
    · rw [hb, ge] at q'
      cases q'
    · exact (gk b hb).symm.trans q'
  · rw [upd_ne (Ne.symm M.dne)]
    exact I1.hok.fresh M.new

/-- n.value, n the exception that the suite holds at a -/
def tFld (C : Addr) (a : Addr) (cls : Value) (d : Option Addr) (te : TE) : TE := fun σ H Q => te σ H fun x H1 => x = .ref a ∧ cls = .ref C ∧ ∃ (dd : Addr) (v : V), d = some dd ∧ H1 dd = some (.xd [(("value" : Str), v)]) ∧ Q v H1
theorem pe_fld {a : Addr} {oe : Obj} {cls : Value} {d : Option Addr} {pn : List (Addr × Obj)} {e : Expr} {te : TE} {pos : Pos} (T : OwnInvalidNumber.Txt X.K X.mg C fI) (hz : Zc cls d oe) (hf : ∃ vs, oe.data = .fields vs) (he : PE (X.suite a ((a, oe) :: pn)) e te)
    (hb : attributeBase e "value" X.env (eval e X.env) = eval e X.env := by rfl) :
    PE (X.suite a ((a, oe) :: pn)) (.Attribute e "value" pos) (tFld C a cls d te) := by
  refine ⟨fun pins s σ H Q I h => ?_⟩
  refine attr_of hb (thn (he.run pins s σ H _ I h) fun u s1 ⟨x, H1, I1, rx, ex, ec, dd, v, ed, ea, q⟩ => ?_)
  subst ex ec ed
  obtain rfl : u = Value.ref a := rx
  obtain ⟨ha, _⟩ := I1.pin (a, oe) (List.mem_append_left _ List.mem_cons_self)
  obtain ⟨vs, hd⟩ := hf
  have hx : ObjOk X.prog X.w H1 s1.heap dd (.xd [(("value" : Str), v)]) := I1.hok dd _ ea
  obtain ⟨mA, hns, hr⟩ := hx
  obtain ⟨od, ho, hl⟩ := lookIn_ns hns
  have l : List.lookup ("value" : Str) [(("value" : Str), v)] = some v := by simp [List.lookup]
  obtain ⟨u, hu, ru⟩ := RelO.some_of (v := v) (o := mA "value") (by rw [← l]; exact hr "value")
  have J : PySem.W.InstAt s1.heap a oe C (some od) := ⟨ha, hz.1, by unfold PySem.W.notCls; rw [hd] <;> rfl, by rw [hz.2]; exact ho⟩
  exact PySem.HandSPX.exc_get I1.kIn J T.ga T.gg T.exC (PySem.W.findObj_own T.hdC T.noN rfl (by rw [hl, hu])) (handed_of ru) ⟨v, H1, I1.tok _, ru, q⟩
end
end OwnInvalidNumber

namespace G
open PySem PySem.Spec PyProof.Rows L2
def top (i : Nat) : Stmt := PySem.Challenge.pw_fingerbooks_k07_errors_of_forms.main.body.getD i (.Pass ⟨0, 0, 0, 0⟩)
abbrev s_is_integer : Stmt := top 7
abbrev N_is_integer : List Str := ["value"]
theorem sc_is_integer : FnScope N_is_integer ["value"] (defScope s_is_integer) := ⟨rfl, rfl, rfl, by decide +kernel, rfl, by decide +kernel, by decide +kernel⟩
abbrev s_is_count : Stmt := top 8
abbrev N_is_count : List Str := ["value"]
theorem sc_is_count : FnScope N_is_count ["value"] (defScope s_is_count) := ⟨rfl, rfl, rfl, by decide +kernel, rfl, by decide +kernel, by decide +kernel⟩
abbrev s_is_within : Stmt := top 9
abbrev N_is_within : List Str := ["value", "least", "greatest"]
theorem sc_is_within : FnScope N_is_within ["value", "least", "greatest"] (defScope s_is_within) := ⟨rfl, rfl, rfl, by decide +kernel, rfl, by decide +kernel, by decide +kernel⟩
abbrev s_is_pair : Stmt := top 13
abbrev N_is_pair : List Str := ["value"]
theorem sc_is_pair : FnScope N_is_pair ["value"] (defScope s_is_pair) := ⟨rfl, rfl, rfl, by decide +kernel, rfl, by decide +kernel, by decide +kernel⟩
abbrev s_is_pair_within : Stmt := top 14
abbrev N_is_pair_within : List Str := ["value", "least", "greatest"]
theorem sc_is_pair_within : FnScope N_is_pair_within ["value", "least", "greatest"] (defScope s_is_pair_within) := ⟨rfl, rfl, rfl, by decide +kernel, rfl, by decide +kernel, by decide +kernel⟩
abbrev s_is_form : Stmt := top 15
abbrev N_is_form : List Str := ["value"]
theorem sc_is_form : FnScope N_is_form ["value"] (defScope s_is_form) := ⟨rfl, rfl, rfl, by decide +kernel, rfl, by decide +kernel, by decide +kernel⟩
abbrev s_are_forms : Stmt := top 16
abbrev N_are_forms : List Str := ["value", "form"]
theorem sc_are_forms : FnScope N_are_forms ["value"] (defScope s_are_forms) := ⟨rfl, rfl, rfl, by decide +kernel, rfl, by decide +kernel, by decide +kernel⟩
abbrev s_is_row : Stmt := top 17
abbrev N_is_row : List Str := ["value"]
theorem sc_is_row : FnScope N_is_row ["value"] (defScope s_is_row) := ⟨rfl, rfl, rfl, by decide +kernel, rfl, by decide +kernel, by decide +kernel⟩
abbrev s_check_forms : Stmt := top 18
abbrev N_check_forms : List Str := ["forms"]
theorem sc_check_forms : FnScope N_check_forms ["forms"] (defScope s_check_forms) := ⟨rfl, rfl, rfl, by decide +kernel, rfl, by decide +kernel, by decide +kernel⟩
abbrev s_check_row : Stmt := top 19
abbrev N_check_row : List Str := ["row"]
theorem sc_check_row : FnScope N_check_row ["row"] (defScope s_check_row) := ⟨rfl, rfl, rfl, by decide +kernel, rfl, by decide +kernel, by decide +kernel⟩
abbrev s_check_arity : Stmt := top 20
abbrev N_check_arity : List Str := ["arity"]
theorem sc_check_arity : FnScope N_check_arity ["arity"] (defScope s_check_arity) := ⟨rfl, rfl, rfl, by decide +kernel, rfl, by decide +kernel, by decide +kernel⟩
abbrev s_write_pair : Stmt := top 21
abbrev N_write_pair : List Str := ["pair"]
theorem sc_write_pair : FnScope N_write_pair ["pair"] (defScope s_write_pair) := ⟨rfl, rfl, rfl, by decide +kernel, rfl, by decide +kernel, by decide +kernel⟩
abbrev s_write_row : Stmt := top 22
abbrev N_write_row : List Str := ["row", "left", "right"]
theorem sc_write_row : FnScope N_write_row ["row"] (defScope s_write_row) := ⟨rfl, rfl, rfl, by decide +kernel, rfl, by decide +kernel, by decide +kernel⟩
abbrev s_trimmed : Stmt := top 23
abbrev N_trimmed : List Str := ["forms"]
theorem sc_trimmed : FnScope N_trimmed ["forms"] (defScope s_trimmed) := ⟨rfl, rfl, rfl, by decide +kernel, rfl, by decide +kernel, by decide +kernel⟩
abbrev s_without_empty_end : Stmt := top 24
abbrev N_without_empty_end : List Str := ["forms", "levels"]
theorem sc_without_empty_end : FnScope N_without_empty_end ["forms"] (defScope s_without_empty_end) := ⟨rfl, rfl, rfl, by decide +kernel, rfl, by decide +kernel, by decide +kernel⟩
abbrev s_mirrored_row : Stmt := top 25
abbrev N_mirrored_row : List Str := ["row", "form"]
theorem sc_mirrored_row : FnScope N_mirrored_row ["row"] (defScope s_mirrored_row) := ⟨rfl, rfl, rfl, by decide +kernel, rfl, by decide +kernel, by decide +kernel⟩
abbrev s_mirrored_pair : Stmt := top 26
abbrev N_mirrored_pair : List Str := ["pair"]
theorem sc_mirrored_pair : FnScope N_mirrored_pair ["pair"] (defScope s_mirrored_pair) := ⟨rfl, rfl, rfl, by decide +kernel, rfl, by decide +kernel, by decide +kernel⟩
abbrev s_length_of : Stmt := top 27
abbrev N_length_of : List Str := ["arity", "row", "left", "right"]
theorem sc_length_of : FnScope N_length_of ["arity", "row"] (defScope s_length_of) := ⟨rfl, rfl, rfl, by decide +kernel, rfl, by decide +kernel, by decide +kernel⟩
abbrev s_sides_of : Stmt := top 28
abbrev N_sides_of : List Str := ["arity", "row"]
theorem sc_sides_of : FnScope N_sides_of ["arity", "row"] (defScope s_sides_of) := ⟨rfl, rfl, rfl, by decide +kernel, rfl, by decide +kernel, by decide +kernel⟩
abbrev s_sums_of : Stmt := top 29
abbrev N_sums_of : List Str := ["arity", "row", "left_sum", "right_sum", "left", "right"]
theorem sc_sums_of : FnScope N_sums_of ["arity", "row"] (defScope s_sums_of) := ⟨rfl, rfl, rfl, by decide +kernel, rfl, by decide +kernel, by decide +kernel⟩
abbrev s_levels_for : Stmt := top 30
abbrev N_levels_for : List Str := ["arity", "length"]
theorem sc_levels_for : FnScope N_levels_for ["arity", "length"] (defScope s_levels_for) := ⟨rfl, rfl, rfl, by decide +kernel, rfl, by decide +kernel, by decide +kernel⟩
abbrev s__least_levels : Stmt := top 31
abbrev N__least_levels : List Str := ["arity", "length", "levels", "room", "weight"]
theorem sc__least_levels : FnScope N__least_levels ["arity", "length"] (defScope s__least_levels) := ⟨rfl, rfl, rfl, by decide +kernel, rfl, by decide +kernel, by decide +kernel⟩
abbrev s__greatest_levels : Stmt := top 32
abbrev N__greatest_levels : List Str := ["arity", "length", "levels", "weight"]
theorem sc__greatest_levels : FnScope N__greatest_levels ["arity", "length"] (defScope s__greatest_levels) := ⟨rfl, rfl, rfl, by decide +kernel, rfl, by decide +kernel, by decide +kernel⟩
abbrev s__law_dice : Stmt := top 34
abbrev N__law_dice : List Str := ["_law_script", "_law_spot", "_law_cell", "_law_left"]
theorem sc__law_dice : FnScope N__law_dice ["_law_script", "_law_spot"] (defScope s__law_dice) := ⟨rfl, rfl, rfl, by decide +kernel, rfl, by decide +kernel, by decide +kernel⟩
abbrev s__law_roll : Stmt := top 35
abbrev N__law_roll : List Str := ["_law_dice_here", "_law_total", "_law_found", "_law_one", "_law_two"]
theorem sc__law_roll : FnScope N__law_roll ["_law_dice_here", "_law_total"] (defScope s__law_roll) := ⟨rfl, rfl, rfl, by decide +kernel, rfl, by decide +kernel, by decide +kernel⟩
abbrev s__law_pick : Stmt := top 36
abbrev N__law_pick : List Str := ["_law_dice_here", "_law_items"]
theorem sc__law_pick : FnScope N__law_pick ["_law_dice_here", "_law_items"] (defScope s__law_pick) := ⟨rfl, rfl, rfl, by decide +kernel, rfl, by decide +kernel, by decide +kernel⟩
abbrev s__law_met : Stmt := top 37
abbrev N__law_met : List Str := ["_law_call", "e"]
theorem sc__law_met : FnScope N__law_met ["_law_call"] (defScope s__law_met) := ⟨rfl, rfl, rfl, by decide +kernel, rfl, by decide +kernel, by decide +kernel⟩
abbrev s__law_first : Stmt := top 38
abbrev N__law_first : List Str := ["_law_words", "_law_found", "_law_word"]
theorem sc__law_first : FnScope N__law_first ["_law_words"] (defScope s__law_first) := ⟨rfl, rfl, rfl, by decide +kernel, rfl, by decide +kernel, by decide +kernel⟩
abbrev s__law_right : Stmt := top 39
abbrev N__law_right : List Str := ["_law_dice_here", "_law_odd", "_law_wrong", "_law_is_let", "_law_told", "_law_due", "_law_arity", "_law_length", "_law_pair", "_law_row"]
theorem sc__law_right : FnScope N__law_right ["_law_dice_here"] (defScope s__law_right) := ⟨rfl, rfl, rfl, by decide +kernel, rfl, by decide +kernel, by decide +kernel⟩
abbrev s__law_trims_right : Stmt := top 40
abbrev N__law_trims_right : List Str := ["_law_dice_here", "_law_odd", "_law_told", "_law_wrong"]
theorem sc__law_trims_right : FnScope N__law_trims_right ["_law_dice_here"] (defScope s__law_trims_right) := ⟨rfl, rfl, rfl, by decide +kernel, rfl, by decide +kernel, by decide +kernel⟩
abbrev s_law : Stmt := top 41
abbrev N_law : List Str := ["_law_script", "_law_spot", "_law_dice_here", "_law_turn"]
theorem sc_law : FnScope N_law ["_law_script"] (defScope s_law) := ⟨rfl, rfl, rfl, by decide +kernel, rfl, by decide +kernel, by decide +kernel⟩
structure Txt (K : PySem.W.Frag) (mg : Str → Option Value) : Prop where
  isinstance : mg "isinstance" = none
  int : mg "int" = none
  bool : mg "bool" = none
  tuple : mg "tuple" = none
  list : mg "list" = none
  len : mg "len" = none
  max : mg "max" = none
  min : mg "min" = none
  abs : mg "abs" = none
  all : mg "all" = none
  range : mg "range" = none
  repr : mg "repr" = none
  g_TOO_GREAT : ∃ u, mg "_TOO_GREAT" = some u ∧ RelV (.int BIG) u
  gMAX_SIDE : ∃ u, mg "MAX_SIDE" = some u ∧ RelV (.int 7) u
  gMAX_LEVELS : ∃ u, mg "MAX_LEVELS" = some u ∧ RelV (.int 200) u
/-! ## the dice -/
section
variable {P : Program} {w : World} {K : PySem.W.Frag} {mg : Str → Option Value} {base : Heap}
theorem c_dice (T : Txt K mg) (D : DefAt K mg "_law_dice" s__law_dice ["_law_script", "_law_spot"]) : CalG P w K mg base 1 "_law_dice" ["_law_script", "_law_spot"] (spDice K) := by
  refine calOk D sc__law_dice (fun xs H Q E h => ?_) (fun f cdv A out s H xs Q E hgd hr h => ?_)
  · obtain ⟨a, ns, i, rfl, _⟩ := h
    rfl
  · obtain ⟨a, ns, i, rfl, hS, hz, k⟩ := h
    have nd := sc__law_dice.nd
    refine ⟨_, (pss_cons (ps_set (i := 2) nd rfl (.inl rfl) (pe_ifExp (pt_cmpR op_lt (pv 1) (pe_callB call_len_seq (by rfl) T.len (by decide +kernel) (pa_cons (pv 0) pa_nil)) (nomark _)) (pe_callTy call_int1 (by rfl) T.int (by decide +kernel) (pa_cons (pe_ix ix_list (pv 0) (pv 1) (fun _ _ => rfl)) pa_nil)) (pe_op op_add (pe_op op_mul pe_int (pv 1)) pe_int)))
      (pss_cons (ps_set (i := 3) nd rfl (.inl rfl) (pe_op op_mod (pe_callB (call_max2 rfl) (by rfl) T.max (by decide +kernel) (pa_cons pe_int (pa_cons (pe_op op_sub (pe_callB call_abs (by rfl) T.abs (by decide +kernel) (pa_cons (pv 2) pa_nil)) (pe_op op_pow pe_int pe_int)) pa_nil))) (pe_op op_mulW (pe_op op_pow pe_int pe_int) (pe_op op_pow pe_int pe_int))))
      (pss_one (ps_ret (pe_lst (pa_cons (pv 3) (pa_cons (pe_op op_add (pe_op op_add (pe_op op_add (pe_op op_mul (pe_op op_mod (pe_callB call_abs (by rfl) T.abs (by decide +kernel) (pa_cons (pv 2) pa_nil)) pe_int) pe_int) (pe_op op_mul pe_int (pv 1))) (pe_op op_mul pe_int (pe_callTy call_int1 (by rfl) T.int (by decide +kernel) (pa_cons (pe_cmpR op_lt (pv 2) pe_int (nomark _)) pa_nil)))) pe_int) (pa_cons pe_int pa_nil)))))))), ?_⟩
    refine ⟨_, rfl, _, rfl, _, _, rfl, .inl hS, _, _, rfl, rfl, _, rfl, ite2 (fun hi => ?_) (fun hi => ?_)⟩
    · have hlt : i < ns.length := by
        have := of_decide_eq_true hi
        rw [List.length_map] at this
        omega
      have hat : (ns.map V.int)[i]? = some (.int ns[i]) := by
        rw [List.getElem?_map, List.getElem?_eq_getElem hlt]
        rfl
      refine ⟨_, rfl, _, rfl, _, _, _, _, rfl, rfl, hS, atI_nat hat, .inl ⟨_, rfl, ?_⟩⟩
      refine ⟨_, rfl, _, rfl, _, _, rfl, rfl, ⟨by decide, by decide, by decide⟩, _, _, rfl, rfl, _, _, rfl, _, _, rfl, rfl, ⟨by decide, by decide, by decide⟩, _, _, rfl, rfl, ⟨by decide, by decide, by decide⟩, _, _, rfl, rfl, mul60, _, _, rfl, rfl, pos60, ?_⟩
      refine ⟨_, rfl, _, rfl, _, rfl, _, _, rfl, rfl, (by show (0 : Int) < 1152921504606846961; decide), _, _, rfl, rfl, .inr ⟨by decide, by decide⟩, _, rfl, _, _, rfl, rfl, .inl ⟨by decide, by decide⟩, _, _, rfl, rfl, _, rfl, _, _, rfl, rfl, .inr ⟨_, rfl, _, _, rfl, rfl, .inl ⟨by decide, by decide⟩, _, _, rfl, rfl, _, _, rfl, rfl, (by show 3 ≤ sizeLine; decide), fun p1 n1 => ?_⟩⟩
      exact k _ _ _ _ n1
    · refine ⟨_, rfl, _, _, rfl, rfl, .inl ⟨by decide, by decide⟩, _, _, rfl, rfl, ?_⟩
      refine ⟨_, rfl, _, rfl, _, _, rfl, rfl, ⟨by decide, by decide, by decide⟩, _, _, rfl, rfl, _, _, rfl, _, _, rfl, rfl, ⟨by decide, by decide, by decide⟩, _, _, rfl, rfl, ⟨by decide, by decide, by decide⟩, _, _, rfl, rfl, mul60, _, _, rfl, rfl, pos60, ?_⟩
      refine ⟨_, rfl, _, rfl, _, rfl, _, _, rfl, rfl, (by show (0 : Int) < 1152921504606846961; decide), _, _, rfl, rfl, .inr ⟨by decide, by decide⟩, _, rfl, _, _, rfl, rfl, .inl ⟨by decide, by decide⟩, _, _, rfl, rfl, _, rfl, _, _, rfl, rfl, .inr ⟨_, rfl, _, _, rfl, rfl, .inl ⟨by decide, by decide⟩, _, _, rfl, rfl, _, _, rfl, rfl, (by show 3 ≤ sizeLine; decide), fun p1 n1 => ?_⟩⟩
      exact k _ _ _ _ n1
theorem c_roll (T : Txt K mg) (D : DefAt K mg "_law_roll" s__law_roll ["_law_dice_here", "_law_total"]) : CalG P w K mg base 1 "_law_roll" ["_law_dice_here", "_law_total"] spRoll := by
  refine calOk D sc__law_roll (fun xs H Q E h => ?_) (fun f cdv A out s H xs Q E hgd hr h => ?_)
  · obtain ⟨d, t, rfl, _⟩ := h
    rfl
  · obtain ⟨d, t, rfl, ⟨l, sd, c, hd⟩, ht, hlog, k⟩ := h
    have nd := sc__law_roll.nd
    have fr : ∀ (u : HO) (b : Addr), H b = none → upd H d u b = none := fun u b e => by
      rw [upd_ne (fun q => by rw [q, hd] at e; cases e)]
      exact e
    refine ⟨_, (pss_cons (ps_if (pt_cmpR op_gt (pe_ix ix_list (pv 0) pe_int (fun _ _ => rfl)) pe_int (nomark _)) (pss_cons (ps_set (i := 2) nd rfl (.inl rfl) (pe_op op_mod (pe_callTy call_int1 (by rfl) T.int (by decide +kernel) (pa_cons (pe_ix ix_list (pv 0) pe_int (fun _ _ => rfl)) pa_nil)) (pv 1)))
        (pss_cons (ps_asg (pe_op op_fdivW (pe_ix ix_list (pv 0) pe_int (fun _ _ => rfl)) (pv 1)) (pg_sub (pv 0) pe_int set_list))
        (pss_one (ps_ret (pv 2))))) pss_nil)
      (pss_cons (ps_asg (pe_op op_add (pe_ix ix_list (pv 0) pe_int (fun _ _ => rfl)) pe_int) (pg_sub (pv 0) pe_int set_list))
      (pss_cons (ps_set (i := 3) nd rfl (.inl rfl) (pe_op op_mod (pe_callTy call_int1 (by rfl) T.int (by decide +kernel) (pa_cons (pe_op op_add (pe_ix ix_list (pv 0) pe_int (fun _ _ => rfl)) (pe_op op_mul pe_int (pe_ix ix_list (pv 0) pe_int (fun _ _ => rfl)))) pa_nil)) pe_int))
      (pss_cons (ps_set (i := 4) nd rfl (.inl rfl) (pe_op op_add (pe_op op_mul (pe_op op_mod (pe_callTy call_int1 (by rfl) T.int (by decide +kernel) (pa_cons (pe_op op_add (pe_op op_mulW (pv 3) (pv 3)) (pe_op op_mul pe_int (pe_ix ix_list (pv 0) pe_int (fun _ _ => rfl)))) pa_nil)) pe_int) pe_int) (pv 3)))
      (pss_one (ps_ret (pe_op op_mod (pe_callTy call_int1 (by rfl) T.int (by decide +kernel) (pa_cons (pe_op op_fdivW (pv 4) pe_int) pa_nil)) (pv 1)))))))), ?_⟩
    refine ⟨_, rfl, _, _, _, _, rfl, rfl, SqL.of hd, atI_nat (j := 0) rfl, _, _, rfl, rfl, _, rfl, ite2 (fun hl => ?_) (fun hl => ?_)⟩
    · refine ⟨_, rfl, _, _, _, _, rfl, rfl, SqL.of hd, atI_nat (j := 0) rfl, .inl ⟨_, rfl, _, rfl, _, _, rfl, rfl, ht, ?_⟩⟩
      refine ⟨_, rfl, _, _, _, _, rfl, rfl, SqL.of hd, atI_nat (j := 0) rfl, _, rfl, _, _, rfl, rfl, ⟨ht, hlog⟩, _, rfl, _, _, _, 0, rfl, rfl, hd, rfl, ?_⟩
      refine ⟨_, rfl, ?_⟩
      exact k _ _ (Int.emod_nonneg _ (by omega)) (Int.emod_lt_of_pos _ ht) (Mv.refl ⟨l, sd, c, hd⟩).rolled (fr _)
    · refine ⟨_, rfl, _, _, _, _, rfl, rfl, SqL.of hd, atI_nat (j := 2) rfl, _, _, rfl, rfl, _, rfl, _, _, _, 2, rfl, rfl, hd, rfl, ?_⟩
      have h1 : upd H d (.lst [.int l, .int sd, .int (c + 1)]) d = some (.lst [.int l, .int sd, .int (c + 1)]) := upd_same
      refine ⟨_, rfl, _, _, _, _, rfl, rfl, SqL.of h1, atI_nat (j := 1) rfl, _, rfl, _, _, _, _, rfl, rfl, SqL.of h1, atI_nat (j := 2) rfl, _, _, rfl, rfl, .inl ⟨by decide, by decide⟩, _, _, rfl, rfl, .inl ⟨_, rfl, _, _, rfl, rfl, (by show (0 : Int) < 2305843009213693669; decide), ?_⟩⟩
      have hb := Int.emod_lt_of_pos (sd + 32452843 * (c + 1)) (show (0 : Int) < 2305843009213693669 by decide)
      have hn := Int.emod_nonneg (sd + 32452843 * (c + 1)) (show (2305843009213693669 : Int) ≠ 0 by decide)
      have hs : ((sd + 32452843 * (c + 1)) % 2305843009213693669).natAbs < 2 ^ 62 := by
        have e : (2 : Nat) ^ 62 = 4611686018427387904 := by decide
        omega
      refine ⟨_, rfl, _, rfl, _, _, rfl, rfl, wide_mul hs hs (by decide) (by decide) (by decide), _, rfl, _, _, _, _, rfl, rfl, SqL.of h1, atI_nat (j := 2) rfl, _, _, rfl, rfl, .inl ⟨by decide, by decide⟩, _, _, rfl, rfl, .inl ⟨_, rfl, _, _, rfl, rfl, (by show (0 : Int) < 1152921504606846869; decide), _, _, rfl, rfl, .inr ⟨by decide, by decide⟩, _, rfl, _, _, rfl, rfl, ?_⟩⟩
      refine ⟨_, rfl, _, _, rfl, rfl, ⟨by decide, by decide +kernel⟩, .inl ⟨_, rfl, _, rfl, _, _, rfl, rfl, ht, ?_⟩⟩
      exact k _ _ (Int.emod_nonneg _ (by omega)) (Int.emod_lt_of_pos _ ht) (Mv.refl ⟨l, sd, c, hd⟩).rolled (fr _)
theorem c_pick (T : Txt K mg) (C__law_roll : CalG P w K mg base 1 "_law_roll" ["_law_dice_here", "_law_total"] spRoll) (D : DefAt K mg "_law_pick" s__law_pick ["_law_dice_here", "_law_items"]) : CalG P w K mg base 2 "_law_pick" ["_law_dice_here", "_law_items"] (spPick K) := by
  refine calOk D sc__law_pick (fun xs H Q E h => ?_) (fun f cdv A out s H xs Q E hgd hr h => ?_)
  · obtain ⟨d, a, ys, rfl, _⟩ := h
    rfl
  · obtain ⟨d, a, ys, rfl, hd, hS, ne, h0, hz, k⟩ := h
    have nd := sc__law_pick.nd
    refine ⟨_, (pss_one (ps_ret (pe_ix ix_list (pv 1) (pe_k C__law_roll hgd hr (by decide) rfl (pa_cons (pv 0) (pa_cons (pe_callB call_len_seq (by rfl) T.len (by decide +kernel) (pa_cons (pv 1) pa_nil)) pa_nil))) (fun _ _ => rfl)))), ?_⟩
    have small : ((ys.length : Nat) : Int).natAbs.log2 < 9000 := by
      have e : ((ys.length : Nat) : Int).natAbs = ys.length := Int.natAbs_natCast _
      rw [e]
      exact Nat.lt_of_le_of_lt (Nat.log2_le_self _) (by omega)
    refine ⟨_, rfl, _, rfl, _, rfl, _, _, rfl, .inl hS, _, _, rfl, hd, (by omega), small, fun r1 H1 a1 b1 m1 f1 => ?_⟩
    obtain ⟨i, rfl⟩ : ∃ i : Nat, r1 = (i : Int) := ⟨r1.toNat, by omega⟩
    have hi : i < ys.length := by omega
    refine ⟨_, _, _, _, rfl, rfl, m1.sql ne hS, atI_nat (List.getElem?_eq_getElem hi), k _ _ _ (List.getElem?_eq_getElem hi) m1 f1⟩
end


/-! ## is_integer, is_pair, is_form, are_forms, is_row: judges over data -/
section
variable {gq : Bool} {P : Program} {w : World} {K : PySem.W.Frag} {mg : Str → Option Value} {base : Heap}
theorem c_is_integer (T : Txt K mg) (D : DefAt K mg "is_integer" s_is_integer ["value"]) : CalQ gq P w K mg base 1 "is_integer" ["value"] (spJ intB) := by
  refine calOkQ D sc_is_integer (fun xs H Q E h => ?_) (fun f cdv A out s H xs Q E hgd hr h => ?_)
  · obtain ⟨x, d, rfl, _⟩ := h
    rfl
  · obtain ⟨x, d, rfl, hx, k⟩ := h
    have nd := sc_is_integer.nd
    refine ⟨_, (pss_one (ps_ret (pe_and (pe_callB call_isi (by rfl) T.isinstance (by decide +kernel) (pa_cons (pv 0) (pa_cons (pe_ty "int" rfl T.int (by decide +kernel)) pa_nil))) (pe_and (pe_not (pe_callB call_isi (by rfl) T.isinstance (by decide +kernel) (pa_cons (pv 0) (pa_cons (pe_ty "bool" rfl T.bool (by decide +kernel)) pa_nil)))) (pe_one (pe_chain op_lt op_lt (pe_un un_neg (pe_gv rfl T.g_TOO_GREAT)) (pv 0) (pe_gv rfl T.g_TOO_GREAT))))))), ?_⟩
    cases hx with
    | int i =>
      have k' : Q (.bl (smallB i)) H := k H (Same.refl _)
      refine ⟨_, rfl, _, _, _, _, true, rfl, .ty _, .base (.int i), kit_ty (by decide +kernel), true, rfl, iteT ?_⟩
      refine ⟨_, rfl, _, _, _, _, false, rfl, .ty _, .base (.int i), kit_ty (by decide +kernel), false, rfl, true, rfl, iteT ?_⟩
      refine ⟨_, rfl, _, rfl, _, _, rfl, rfl, _, rfl, ite2 (fun h1 => ?_) (fun h1 => ?_)⟩
      · refine ⟨_, _, rfl, rfl, ?_⟩
        have e : smallB i = decide (i < BIG) := by
          unfold smallB
          rw [h1]
          rfl
        rw [e] at k'
        exact k'
      · have e : smallB i = false := by
          unfold smallB
          rw [Bool.eq_false_iff.mpr h1]
          rfl
        rw [e] at k'
        exact k'
    | bl b =>
      refine ⟨_, rfl, _, _, _, _, true, rfl, .ty _, .base (.bl b), kit_ty (by decide +kernel), true, rfl, iteT ?_⟩
      refine ⟨_, rfl, _, _, _, _, true, rfl, .ty _, .base (.bl b), kit_ty (by decide +kernel), true, rfl, false, rfl, iteF ?_⟩
      exact k H (Same.refl _)
    | non => exact ⟨_, rfl, _, _, _, _, false, rfl, .ty _, Dx.ty .non, kit_ty (by decide +kernel), false, rfl, iteF (k H (Same.refl _))⟩
    | str x => exact ⟨_, rfl, _, _, _, _, false, rfl, .ty _, Dx.ty (.str x), kit_ty (by show kitB "str" _ = _; decide +kernel), false, rfl, iteF (k H (Same.refl _))⟩
    | lst h1 h2 => exact ⟨_, rfl, _, _, _, _, false, rfl, .ty _, Dx.ty (.lst h1 h2), kit_ty (by show kitB "list" _ = _; decide +kernel), false, rfl, iteF (k H (Same.refl _))⟩
    | tup h1 h2 => exact ⟨_, rfl, _, _, _, _, false, rfl, .ty _, Dx.ty (.tup h1 h2), kit_ty (by show kitB "tuple" _ = _; decide +kernel), false, rfl, iteF (k H (Same.refl _))⟩
    | dct h1 h2 => exact ⟨_, rfl, _, _, _, _, false, rfl, .ty _, Dx.ty (.dct h1 h2), kit_ty (by show kitB "dict" _ = _; decide +kernel), false, rfl, iteF (k H (Same.refl _))⟩
theorem c_is_pair (T : Txt K mg) (C_is_integer : CalQ gq P w K mg base 1 "is_integer" ["value"] (spJ intB)) (D : DefAt K mg "is_pair" s_is_pair ["value"]) : CalQ gq P w K mg base 2 "is_pair" ["value"] (spJ pairB) := by
  refine calOkQ D sc_is_pair (fun xs H Q E h => ?_) (fun f cdv A out s H xs Q E hgd hr h => ?_)
  · obtain ⟨x, d, rfl, _⟩ := h
    rfl
  · obtain ⟨x, d, rfl, hx, k⟩ := h
    have nd := sc_is_pair.nd
    refine ⟨_, (pss_one (ps_ret (pe_and (pe_callB call_isi (by rfl) T.isinstance (by decide +kernel) (pa_cons (pv 0) (pa_cons (pe_ty "tuple" rfl T.tuple (by decide +kernel)) pa_nil))) (pe_and (pe_cmpR op_eq (pe_callB call_len_seq (by rfl) T.len (by decide +kernel) (pa_cons (pv 0) pa_nil)) pe_int (nomark _)) (pe_and (pe_kq C_is_integer hgd hr (by decide) rfl (pa_cons (pe_ix ix_tup (pv 0) pe_int (fun _ _ => rfl)) pa_nil)) (pe_one (pe_kq C_is_integer hgd hr (by decide) rfl (pa_cons (pe_ix ix_tup (pv 0) pe_int (fun _ _ => rfl)) pa_nil)))))))), ?_⟩
    cases hx with
    | tup h1 h2 =>
      rename_i a xs ds
      have hl := h2.len
      refine ⟨_, rfl, _, _, _, _, true, rfl, .ty _, Dx.ty (.tup h1 h2), kit_ty (by show kitB "tuple" _ = _; decide +kernel), true, rfl, iteT ?_⟩
      refine ⟨_, rfl, _, _, rfl, .inr (SqT.of h1), rfl, _, rfl, ite2 (fun q => ?_) (fun q => ?_)⟩
      · have two : xs.length = 2 := by
          have := V.int.inj (of_decide_eq_true q)
          omega
        cases h2 with
        | nil => cases two
        | cons y1 r1 =>
          cases r1 with
          | nil => cases two
          | cons y2 r2 =>
            cases r2 with
            | cons _ _ => simp at two
            | nil =>
              refine ⟨_, rfl, _, _, _, _, rfl, rfl, SqT.of h1, atI_nat (j := 0) rfl, _, _, rfl, y1, fun H1 s1 => ?_⟩
              refine ⟨_, rfl, ite2 (fun q1 => ?_) (fun q1 => ?_)⟩
              · refine ⟨_, rfl, _, _, _, _, rfl, rfl, SqT.of (s1 _ _ h1), atI_nat (j := 1) rfl, _, _, rfl, y2.grow s1, fun H2 s2 => ?_⟩
                have e := k H2 (s1.trans s2)
                simp only [pairB, q1, Bool.true_and] at e
                exact e
              · have e := k H1 s1
                simp only [pairB, Bool.eq_false_iff.mpr q1, Bool.false_and] at e
                exact e
      · have e := k H (Same.refl _)
        have nf : pairB (.tuple ds) = false := by
          match ds, hl with
          | [], _ => rfl
          | [_], _ => rfl
          | [_, _], hl => exact absurd (decide_eq_true (show V.int (xs.length : Int) = V.int 2 by rw [hl]; rfl)) q
          | _ :: _ :: _ :: _, _ => rfl
        rw [nf] at e
        exact e
    | int i => exact ⟨_, rfl, _, _, _, _, false, rfl, .ty _, Dx.ty (.int i), kit_ty (by show kitB "int" _ = _; decide +kernel), false, rfl, iteF (k H (Same.refl _))⟩
    | bl b => exact ⟨_, rfl, _, _, _, _, false, rfl, .ty _, Dx.ty (.bl b), kit_ty (by show kitB "bool" _ = _; decide +kernel), false, rfl, iteF (k H (Same.refl _))⟩
    | non => exact ⟨_, rfl, _, _, _, _, false, rfl, .ty _, Dx.ty .non, kit_ty (by decide +kernel), false, rfl, iteF (k H (Same.refl _))⟩
    | str x => exact ⟨_, rfl, _, _, _, _, false, rfl, .ty _, Dx.ty (.str x), kit_ty (by show kitB "str" _ = _; decide +kernel), false, rfl, iteF (k H (Same.refl _))⟩
    | lst h1 h2 => exact ⟨_, rfl, _, _, _, _, false, rfl, .ty _, Dx.ty (.lst h1 h2), kit_ty (by show kitB "list" _ = _; decide +kernel), false, rfl, iteF (k H (Same.refl _))⟩
    | dct h1 h2 => exact ⟨_, rfl, _, _, _, _, false, rfl, .ty _, Dx.ty (.dct h1 h2), kit_ty (by show kitB "dict" _ = _; decide +kernel), false, rfl, iteF (k H (Same.refl _))⟩
theorem form_pair {d : PyData} (h : formB d = true) : pairB d = true := by
  match d, h with
  | .tuple [.int a, .int b], h =>
    have h' : (decide (0 ≤ a) && decide (a ≤ 7)) = true ∧ (decide (0 ≤ b) && decide (b ≤ 7)) = true := by simpa [formB, sideB] using h
    have g : ∀ i : Int, (decide (0 ≤ i) && decide (i ≤ 7)) = true → smallB i = true := fun i q => by
      have q' : 0 ≤ i ∧ i ≤ 7 := by simpa using q
      unfold smallB BIG
      rw [decide_eq_true (by omega), decide_eq_true (by omega)]
      rfl
    show (smallB a && smallB b) = true
    rw [g a h'.1, g b h'.2]
    rfl
  | .tuple [.none, _], h => simp [formB, sideB] at h
  | .tuple [.bool _, _], h => simp [formB, sideB] at h
  | .tuple [.str _, _], h => simp [formB, sideB] at h
  | .tuple [.list _, _], h => simp [formB, sideB] at h
  | .tuple [.tuple _, _], h => simp [formB, sideB] at h
  | .tuple [.dict _, _], h => simp [formB, sideB] at h
  | .tuple [.int _, .none], h => simp [formB, sideB] at h
  | .tuple [.int _, .bool _], h => simp [formB, sideB] at h
  | .tuple [.int _, .str _], h => simp [formB, sideB] at h
  | .tuple [.int _, .list _], h => simp [formB, sideB] at h
  | .tuple [.int _, .tuple _], h => simp [formB, sideB] at h
  | .tuple [.int _, .dict _], h => simp [formB, sideB] at h
  | .tuple [], h => simp [formB] at h
  | .tuple [_], h => simp [formB] at h
  | .tuple (_ :: _ :: _ :: _), h => simp [formB] at h
  | .none, h => simp [formB] at h
  | .bool _, h => simp [formB] at h
  | .int _, h => simp [formB] at h
  | .str _, h => simp [formB] at h
  | .list _, h => simp [formB] at h
  | .dict _, h => simp [formB] at h
theorem pair_ints {d : PyData} (h : pairB d = true) : ∃ a b, d = .tuple [.int a, .int b] := by
  match d, h with
  | .tuple [a, b], h =>
    have h' : intB a = true ∧ intB b = true := by simpa [pairB] using h
    match a, b, h' with
    | .int i, .int j, _ => exact ⟨i, j, rfl⟩
    | .none, _, h => simp [intB] at h
    | .bool _, _, h => simp [intB] at h
    | .str _, _, h => simp [intB] at h
    | .list _, _, h => simp [intB] at h
    | .tuple _, _, h => simp [intB] at h
    | .dict _, _, h => simp [intB] at h
    | .int _, .none, h => simp [intB] at h
    | .int _, .bool _, h => simp [intB] at h
    | .int _, .str _, h => simp [intB] at h
    | .int _, .list _, h => simp [intB] at h
    | .int _, .tuple _, h => simp [intB] at h
    | .int _, .dict _, h => simp [intB] at h
  | .tuple [], h => simp [pairB] at h
  | .tuple [_], h => simp [pairB] at h
  | .tuple (_ :: _ :: _ :: _), h => simp [pairB] at h
  | .none, h => simp [pairB] at h
  | .bool _, h => simp [pairB] at h
  | .int _, h => simp [pairB] at h
  | .str _, h => simp [pairB] at h
  | .list _, h => simp [pairB] at h
  | .dict _, h => simp [pairB] at h
def within (d : PyData) (lo hi : Int) : Bool := intB d && match d with
  | .int i => decide (lo ≤ i) && decide (i ≤ hi)
  | _ => false
def spWithin : Sp := fun vs H Q _ => ∃ (x : V) (d : PyData) (lo hi : Int), vs = [x, .int lo, .int hi] ∧ Dx H x d ∧ ∀ H', Same H H' → Q (.bl (within d lo hi)) H'
theorem int_of {d : PyData} (h : intB d = true) : ∃ i, d = .int i := by
  match d, h with
  | .int i, _ => exact ⟨i, rfl⟩
  | .none, h => simp [intB] at h
  | .bool _, h => simp [intB] at h
  | .str _, h => simp [intB] at h
  | .list _, h => simp [intB] at h
  | .tuple _, h => simp [intB] at h
  | .dict _, h => simp [intB] at h
theorem c_is_within (T : Txt K mg) (C_is_integer : CalQ gq P w K mg base 1 "is_integer" ["value"] (spJ intB)) (D : DefAt K mg "is_within" s_is_within ["value", "least", "greatest"]) : CalQ gq P w K mg base 2 "is_within" ["value", "least", "greatest"] spWithin := by
  refine calOkQ D sc_is_within (fun xs H Q E h => ?_) (fun f cdv A out s H xs Q E hgd hr h => ?_)
  · obtain ⟨x, d, lo, hi, rfl, _⟩ := h
    rfl
  · obtain ⟨x, d, lo, hi, rfl, hx, k⟩ := h
    have nd := sc_is_within.nd
    refine ⟨_, (pss_one (ps_ret (pe_and (pe_kq C_is_integer hgd hr (by decide) rfl (pa_cons (pv 0) pa_nil)) (pe_one (pe_chain op_le op_le (pv 1) (pv 0) (pv 2)))))), ?_⟩
    refine ⟨_, rfl, _, _, rfl, hx, fun H1 s1 => ⟨_, rfl, ite2 (fun q => ?_) (fun q => ?_)⟩⟩
    · obtain ⟨i, rfl⟩ := int_of q
      cases hx
      have e := k H1 s1
      unfold within at e
      rw [q, Bool.true_and] at e
      replace e : Q (.bl (decide (lo ≤ i) && decide (i ≤ hi))) H1 := e
      refine ⟨_, rfl, _, rfl, _, _, rfl, rfl, _, rfl, ite2 (fun q1 => ?_) (fun q1 => ?_)⟩
      · refine ⟨_, rfl, _, _, rfl, rfl, ?_⟩
        rw [show decide (lo ≤ i) = true from q1, Bool.true_and] at e
        exact e
      · rw [show decide (lo ≤ i) = false from Bool.eq_false_iff.mpr q1, Bool.false_and] at e
        exact e
    · have e := k H1 s1
      unfold within at e
      rw [Bool.eq_false_iff.mpr q, Bool.false_and] at e
      exact e
def pairWithin (d : PyData) (lo hi : Int) : Bool := pairB d && match d with
  | .tuple [.int a, .int b] => decide (lo ≤ min a b) && decide (max a b ≤ hi)
  | _ => false
def spPairWithin : Sp := fun vs H Q _ => ∃ (x : V) (d : PyData) (lo hi : Int), vs = [x, .int lo, .int hi] ∧ Dx H x d ∧ ∀ H', Same H H' → Q (.bl (pairWithin d lo hi)) H'
theorem c_is_pair_within (T : Txt K mg) (C_is_pair : CalQ gq P w K mg base 2 "is_pair" ["value"] (spJ pairB)) (D : DefAt K mg "is_pair_within" s_is_pair_within ["value", "least", "greatest"]) : CalQ gq P w K mg base 3 "is_pair_within" ["value", "least", "greatest"] spPairWithin := by
  refine calOkQ D sc_is_pair_within (fun xs H Q E h => ?_) (fun f cdv A out s H xs Q E hgd hr h => ?_)
  · obtain ⟨x, d, lo, hi, rfl, _⟩ := h
    rfl
  · obtain ⟨x, d, lo, hi, rfl, hx, k⟩ := h
    have nd := sc_is_pair_within.nd
    refine ⟨_, (pss_one (ps_ret (pe_and (pe_kq C_is_pair hgd hr (by decide) rfl (pa_cons (pv 0) pa_nil)) (pe_and (pe_cmpR op_le (pv 1) (pe_callB (cr_min2T rfl hr.units) (by rfl) T.min (by decide +kernel) (pa_cons (pv 0) pa_nil)) (nomark _)) (pe_one (pe_cmpR op_le (pe_callB (cr_max2T rfl hr.units) (by rfl) T.max (by decide +kernel) (pa_cons (pv 0) pa_nil)) (pv 2) (nomark _))))))), ?_⟩
    refine ⟨_, rfl, _, _, rfl, hx, fun H1 s1 => ⟨_, rfl, ite2 (fun q => ?_) (fun q => ?_)⟩⟩
    · obtain ⟨a, b, rfl⟩ := pair_ints q
      have hx1 := hx.grow s1
      have e := k H1 s1
      unfold pairWithin at e
      rw [q, Bool.true_and] at e
      replace e : Q (.bl (decide (lo ≤ min a b) && decide (max a b ≤ hi))) H1 := e
      cases hx1 with
      | tup h1 h2 =>
        cases h2 with
        | cons y1 r1 =>
          cases r1 with
          | cons y2 r2 =>
            cases r2
            cases y1
            cases y2
            refine ⟨_, rfl, _, rfl, _, _, _, rfl, h1, _, _, rfl, rfl, _, rfl, ite2 (fun q1 => ?_) (fun q1 => ?_)⟩
            · refine ⟨_, rfl, _, _, _, rfl, h1, _, rfl, _, _, rfl, rfl, ?_⟩
              rw [show decide (lo ≤ min a b) = true from q1, Bool.true_and] at e
              exact e
            · rw [show decide (lo ≤ min a b) = false from Bool.eq_false_iff.mpr q1, Bool.false_and] at e
              exact e
    · have e := k H1 s1
      unfold pairWithin at e
      rw [Bool.eq_false_iff.mpr q, Bool.false_and] at e
      exact e
theorem within_form (d : PyData) : pairWithin d 0 7 = formB d := by
  unfold pairWithin
  cases h : formB d with
  | true =>
    obtain ⟨a, b, rfl⟩ := pair_ints (form_pair h)
    rw [form_pair h, Bool.true_and]
    simp only [formB, sideB, Bool.and_eq_true, decide_eq_true_eq] at h
    rw [Bool.and_eq_true, decide_eq_true_eq, decide_eq_true_eq]
    omega
  | false =>
    cases hp : pairB d with
    | false => rfl
    | true =>
      obtain ⟨a, b, rfl⟩ := pair_ints hp
      rw [Bool.true_and]
      simp only [formB, sideB] at h
      rw [Bool.eq_false_iff] at h ⊢
      intro z
      refine h ?_
      rw [Bool.and_eq_true, decide_eq_true_eq, decide_eq_true_eq] at z
      simp only [Bool.and_eq_true, decide_eq_true_eq]
      omega
theorem c_is_form (T : Txt K mg) (C_is_pair_within : CalQ gq P w K mg base 3 "is_pair_within" ["value", "least", "greatest"] spPairWithin) (D : DefAt K mg "is_form" s_is_form ["value"]) : CalQ gq P w K mg base 4 "is_form" ["value"] (spJ formB) := by
  refine calOkQ D sc_is_form (fun xs H Q E h => ?_) (fun f cdv A out s H xs Q E hgd hr h => ?_)
  · obtain ⟨x, d, rfl, _⟩ := h
    rfl
  · obtain ⟨x, d, rfl, hx, k⟩ := h
    have nd := sc_is_form.nd
    refine ⟨_, (pss_one (ps_ret (pe_kq C_is_pair_within hgd hr (by decide) rfl (pa_cons (pv 0) (pa_cons pe_int (pa_cons (pe_gv rfl T.gMAX_SIDE) pa_nil)))))), ?_⟩
    refine ⟨_, rfl, x, d, 0, 7, rfl, hx, fun H1 s1 => ?_⟩
    rw [within_form]
    exact k H1 s1
theorem c_are_forms (T : Txt K mg) (C_is_form : CalQ gq P w K mg base 4 "is_form" ["value"] (spJ formB)) (D : DefAt K mg "are_forms" s_are_forms ["value"]) : CalQ gq P w K mg base 5 "are_forms" ["value"] (spJ formsB) := by
  refine calOkQ D sc_are_forms (fun xs H Q E h => ?_) (fun f cdv A out s H xs Q E hgd hr h => ?_)
  · obtain ⟨x, d, rfl, _⟩ := h
    rfl
  · obtain ⟨x, d, rfl, hx, k⟩ := h
    have nd := sc_are_forms.nd
    refine ⟨_, (pss_one (ps_ret (pe_and (pe_callB call_isi (by rfl) T.isinstance (by decide +kernel) (pa_cons (pv 0) (pa_cons (pe_ty "tuple" rfl T.tuple (by decide +kernel)) pa_nil))) (pe_and (pe_cmpR op_le (pe_callB call_len_seq (by rfl) T.len (by decide +kernel) (pa_cons (pv 0) pa_nil)) (pe_gv rfl T.gMAX_LEVELS) (nomark _)) (pe_one (pe_callB (cr_all rfl) (by rfl) T.all (by decide +kernel) (pa_cons (pe_lc (own := [("form", 1)]) (g := gName 1) (by rfl) nd (pi_tup (pv 0)) (blkOk_by (own := [("form", 1)]) (N := N_are_forms) (sc := defScope s_are_forms) (by decide +kernel)) (fun _ _ _ _ _ => pg_name (i := 1) nd rfl (.inl rfl)) (fun _ _ _ _ _ => pts_nil) (fun _ _ _ _ _ => pe_kq C_is_form hgd hr (by decide) rfl (pa_cons (pv 1) pa_nil))) pa_nil))))))), ?_⟩
    cases hx with
    | tup h1 h2 =>
      rename_i a xs ds
      have hl := h2.len
      refine ⟨_, rfl, _, _, _, _, true, rfl, .ty _, Dx.ty (.tup h1 h2), kit_ty (by show kitB "tuple" _ = _; decide +kernel), true, rfl, iteT ?_⟩
      refine ⟨_, rfl, _, _, rfl, .inr (SqT.of h1), _, _, rfl, rfl, _, rfl, ite2 (fun q => ?_) (fun q => ?_)⟩
      · have few : xs.length ≤ 200 := by
          have := of_decide_eq_true q
          omega
        refine ⟨_, rfl, a, rfl, ⟨_, SqT.of h1⟩, fun Dl nD => ?_⟩
        refine lc_tup (K := K) (a := a) (xs := xs) (fun i H' => Same H H' ∧ H' Dl = some (.lst (((ds.take i).map formB).map V.bl))) ?_ ?_ ?_ ?_
        · exact ⟨same_new nD, upd_same⟩
        · rintro i H' _ ⟨s1, _⟩
          exact SqT.of (s1 _ _ h1)
        · rintro i x H' hi ⟨s1, hD⟩
          obtain ⟨d, hd, hx⟩ := h2.get i x hi
          refine ⟨rfl, ?_⟩
          refine ⟨_, rfl, _, d, rfl, hx.grow s1, fun H2 s2 => ?_⟩
          refine ⟨_, s2 _ _ hD, ?_, Same.put (s1.trans s2) nD, ?_⟩
          · rw [List.length_map, List.length_map, List.length_take]
            exact small1000 (by omega)
          · rw [upd_same, List.take_add_one, hd, List.map_append, List.map_append]
            rfl
        · rintro H' ⟨s1, hD⟩
          refine ⟨Dl, _, rfl, SqL.of hD, ?_⟩
          have e := k H' s1
          have ef : formsB (.tuple ds) = ((ds.take xs.length).map formB).all id := by
            rw [hl, List.take_length]
            simp only [formsB]
            rw [decide_eq_true (by omega), Bool.true_and, List.all_map]
            rfl
          rw [ef] at e
          exact e
      · have e := k H (Same.refl _)
        have nf : formsB (.tuple ds) = false := by
          simp only [formsB]
          rw [decide_eq_false (fun z => q (decide_eq_true (by omega))), Bool.false_and]
        rw [nf] at e
        exact e
    | int i => exact ⟨_, rfl, _, _, _, _, false, rfl, .ty _, Dx.ty (.int i), kit_ty (by show kitB "int" _ = _; decide +kernel), false, rfl, iteF (k H (Same.refl _))⟩
    | bl b => exact ⟨_, rfl, _, _, _, _, false, rfl, .ty _, Dx.ty (.bl b), kit_ty (by show kitB "bool" _ = _; decide +kernel), false, rfl, iteF (k H (Same.refl _))⟩
    | non => exact ⟨_, rfl, _, _, _, _, false, rfl, .ty _, Dx.ty .non, kit_ty (by decide +kernel), false, rfl, iteF (k H (Same.refl _))⟩
    | str x => exact ⟨_, rfl, _, _, _, _, false, rfl, .ty _, Dx.ty (.str x), kit_ty (by show kitB "str" _ = _; decide +kernel), false, rfl, iteF (k H (Same.refl _))⟩
    | lst h1 h2 => exact ⟨_, rfl, _, _, _, _, false, rfl, .ty _, Dx.ty (.lst h1 h2), kit_ty (by show kitB "list" _ = _; decide +kernel), false, rfl, iteF (k H (Same.refl _))⟩
    | dct h1 h2 => exact ⟨_, rfl, _, _, _, _, false, rfl, .ty _, Dx.ty (.dct h1 h2), kit_ty (by show kitB "dict" _ = _; decide +kernel), false, rfl, iteF (k H (Same.refl _))⟩
theorem forms_all {ds : List PyData} (h : formsB (.tuple ds) = true) : ds.length ≤ 200 ∧ ∀ d ∈ ds, formB d = true := by
  have h' : ds.length ≤ 200 ∧ ds.all formB = true := by
    simp only [formsB, Bool.and_eq_true, decide_eq_true_eq] at h
    exact h
  exact ⟨h'.1, fun d hd => List.all_eq_true.mp h'.2 d hd⟩
theorem form_ints {d : PyData} (h : formB d = true) : ∃ a b, d = .tuple [.int a, .int b] := pair_ints (form_pair h)
theorem form_plain {d : PyData} (h : formB d = true) : d.canLay0 = true ∧ d.depth ≤ 1 ∧ d.hasDict = false := by
  obtain ⟨a, b, rfl⟩ := form_ints h
  exact ⟨by simp [PyData.canLay0, PyData.canLayAll0], by simp [PyData.depth, PyData.depthAll], by simp [PyData.hasDict, PyData.hasDictAll]⟩
theorem dictAll0 : ∀ (xs : List PyData), (∀ x ∈ xs, x.hasDict = false) → PyData.hasDictAll xs = false
  | [], _ => by simp [PyData.hasDictAll]
  | x :: r, h => by
    rw [PyData.hasDictAll, h x List.mem_cons_self, dictAll0 r fun y hy => h y (List.mem_cons_of_mem _ hy)]
    rfl
theorem forms_plain {ds : List PyData} (h : ∀ d ∈ ds, formB d = true) : SeqAt.shaped (.tuple ds) = true ∧ (PyData.tuple ds).hasDict = false := by
  have q1 : PyData.canLayAll0 ds = true := by
    have := canAll id ds fun d hd => (form_plain (h d hd)).1
    rwa [List.map_id] at this
  have q2 : PyData.depthAll ds ≤ 1 := by
    have := depthAll0 1 id ds fun d hd => (form_plain (h d hd)).2.1
    rwa [List.map_id] at this
  refine ⟨?_, ?_⟩
  · show (PyData.canLay0 (.tuple ds) && decide (PyData.depth (.tuple ds) ≤ 64)) = true
    rw [Bool.and_eq_true_iff]
    exact ⟨by simp only [PyData.canLay0]; exact q1, decide_eq_true (by simp only [PyData.depth]; omega)⟩
  · simp only [PyData.hasDict]
    exact dictAll0 ds fun d hd => (form_plain (h d hd)).2.2
theorem c_is_row (T : Txt K mg) (C_are_forms : CalQ gq P w K mg base 5 "are_forms" ["value"] (spJ formsB)) (D : DefAt K mg "is_row" s_is_row ["value"]) : CalQ gq P w K mg base 6 "is_row" ["value"] (spJ rowB) := by
  refine calOkQ D sc_is_row (fun xs H Q E h => ?_) (fun f cdv A out s H xs Q E hgd hr h => ?_)
  · obtain ⟨x, d, rfl, _⟩ := h
    rfl
  · obtain ⟨x, d, rfl, hx, k⟩ := h
    have nd := sc_is_row.nd
    refine ⟨_, (pss_one (ps_ret (pe_and (pe_kq C_are_forms hgd hr (by decide) rfl (pa_cons (pv 0) pa_nil)) (pe_one (pe_or (pe_cmpR (op_eqD hr.units) (pv 0) (pe_tup pa_nil) (nomark _)) (pe_one (pe_cmpR (op_neD hr.units) (pe_ix ix_tup (pv 0) (pe_un un_neg pe_int) (fun _ _ => rfl)) (pe_tup (pa_cons pe_int (pa_cons pe_int pa_nil))) (nomark _)))))))), ?_⟩
    refine ⟨_, rfl, _, d, rfl, hx, fun H1 s1 => ⟨_, rfl, ite2 (fun q => ?_) (fun q => ?_)⟩⟩
    · obtain ⟨ds, rfl⟩ : ∃ ds, d = .tuple ds := by
        match d, q with
        | .tuple ds, _ => exact ⟨ds, rfl⟩
        | .none, q => simp [formsB] at q
        | .bool _, q => simp [formsB] at q
        | .int _, q => simp [formsB] at q
        | .str _, q => simp [formsB] at q
        | .list _, q => simp [formsB] at q
        | .dict _, q => simp [formsB] at q
      obtain ⟨few, allf⟩ := forms_all q
      obtain ⟨sh, nodict⟩ := forms_plain allf
      have e0 : rowB (.tuple ds) = (ds.isEmpty || !PyData.eqv (ds.getLastD .none) zeroD) := by
        simp only [rowB]
        rw [q, Bool.true_and]
      have hx1 := hx.grow s1
      refine ⟨_, rfl, (by show 0 ≤ sizeLine; decide), fun p np => ?_⟩
      refine ⟨.tuple ds, .tuple [], (hx1.grow (same_new np)).dp nodict, .tup (SqT.of upd_same) .nil, sh, (by decide +kernel), _, rfl, ite2 (fun q1 => ?_) (fun q1 => ?_)⟩
      · have e := k _ (s1.trans (same_new (o := .tup []) np))
        have em : ds = [] := by
          match ds, q1 with
          | [], _ => rfl
          | _ :: _, q1 => simp [PyData.eqv, PyData.eqvAll] at q1
        rw [e0, em] at e
        exact e
      · have ne : ds ≠ [] := fun z => by
          rw [z] at q1
          exact q1 (by decide +kernel)
        cases hx1 with
        | tup h1 h2 =>
          rename_i a ys
          have hl := h2.len
          obtain ⟨ys0, y, rfl⟩ : ∃ ys0 y, ys = ys0 ++ [y] := by
            rcases List.eq_nil_or_concat ys with z | ⟨i, y, z⟩
            · rw [z] at hl
              exact absurd (List.eq_nil_of_length_eq_zero hl.symm) ne
            · exact ⟨i, y, by rw [z, List.concat_eq_append]⟩
          obtain ⟨dy, hdy, hy⟩ := h2.get ys0.length y (by simp)
          have last : ds.getLastD .none = dy := by
            rw [List.getLastD_eq_getLast?, List.getLast?_eq_getElem?]
            have : ds.length - 1 = ys0.length := by
              rw [← hl, List.length_append]
              simp
            rw [this, hdy]
            rfl
          have fy : formB dy = true := allf dy (List.mem_of_getElem? hdy)
          obtain ⟨c1, c2, c3⟩ := form_plain fy
          refine ⟨_, rfl, _, rfl, _, _, _, _, rfl, rfl, SqT.of (same_new np _ _ h1), atI_last ys0 y, ?_⟩
          refine ⟨(by show 2 ≤ sizeLine; decide), fun p2 np2 => ?_⟩
          refine ⟨dy, zeroD, ((hy.grow (same_new np)).grow (same_new np2)).dp c3, .tup (SqT.of upd_same) (.cons (.int 0) (.cons (.int 0) .nil)), ?_, (by decide +kernel), ?_⟩
          · show (PyData.canLay0 dy && decide (PyData.depth dy ≤ 64)) = true
            rw [c1, decide_eq_true (by omega)]
            rfl
          · have e := k _ ((s1.trans (same_new (o := .tup []) np)).trans (same_new (o := .tup [.int 0, .int 0]) np2))
            have em : ds.isEmpty = false := by
              cases ds with
              | nil => exact absurd rfl ne
              | cons _ _ => rfl
            rw [e0, last, em, Bool.false_or] at e
            exact e
    · have e := k H1 s1
      have nf : rowB d = false := by
        match d, q with
        | .tuple ds, q =>
          simp only [rowB]
          rw [Bool.eq_false_iff.mpr q, Bool.false_and]
        | .none, _ => rfl
        | .bool _, _ => rfl
        | .int _, _ => rfl
        | .str _, _ => rfl
        | .list _, _ => rfl
        | .dict _, _ => rfl
      rw [nf] at e
      exact e
end

/-! ## the law's rows: lists of pairs of numbers -/
def formD (f : Int × Int) : PyData := .tuple [.int f.1, .int f.2]
def rowD (fs : List (Int × Int)) : PyData := .tuple (fs.map formD)
def cutF (fs : List (Int × Int)) : List (Int × Int) := (fs.reverse.dropWhile fun f => decide (f = (0, 0))).reverse
theorem cutF_nil : cutF [] = [] := rfl
theorem cutF_zero (fs : List (Int × Int)) : cutF (fs ++ [(0, 0)]) = cutF fs := by
  unfold cutF
  rw [List.reverse_append]
  simp
theorem cutF_last (fs : List (Int × Int)) {f : Int × Int} (h : f ≠ (0, 0)) : cutF (fs ++ [f]) = fs ++ [f] := by
  unfold cutF
  rw [List.reverse_append]
  simp [h]
theorem cutF_cut (fs : List (Int × Int)) : cutF (cutF fs) = cutF fs := by
  unfold cutF
  rw [List.reverse_reverse]
  congr 1
  generalize fs.reverse = l
  induction l with
  | nil => rfl
  | cons x r ih =>
    by_cases h : x = (0, 0)
    · simp [h, ih]
    · simp [h]
theorem cutF_sub (fs : List (Int × Int)) : (cutF fs).length ≤ fs.length ∧ ∀ f ∈ cutF fs, f ∈ fs := by
  unfold cutF
  have h1 := (List.dropWhile_suffix (l := fs.reverse) fun f => decide (f = (0, 0)))
  refine ⟨?_, fun f hf => ?_⟩
  · have := h1.length_le
    simpa using this
  · have := h1.subset (List.mem_reverse.mp hf)
    exact List.mem_reverse.mp this
theorem formD_eqv (f : Int × Int) : PyData.eqv (formD f) zeroD = decide (f = (0, 0)) := by
  obtain ⟨a, b⟩ := f
  simp only [formD, zeroD, PyData.eqv, PyData.eqvAll, Bool.and_true]
  rw [Bool.eq_iff_iff]
  simp
theorem forms_flat (fs : List (Int × Int)) : PyData.canLayAll0 (fs.map formD) = true ∧ PyData.depthAll (fs.map formD) ≤ 1 ∧ PyData.hasDictAll (fs.map formD) = false := by
  refine ⟨canAll _ _ fun f _ => by simp [formD, PyData.canLay0, PyData.canLayAll0], depthAll0 1 _ _ fun f _ => by simp [formD, PyData.depth, PyData.depthAll], ?_⟩
  refine dictAll0 _ fun d hd => ?_
  obtain ⟨f, _, rfl⟩ := List.mem_map.mp hd
  simp [formD, PyData.hasDict, PyData.hasDictAll]
theorem eqv_nil (ds : List PyData) : PyData.eqv (.list ds) (.list []) = ds.isEmpty := by
  cases ds with
  | nil => simp [PyData.eqv, PyData.eqvAll]
  | cons x r => simp [PyData.eqv, PyData.eqvAll]
theorem shapedL (fs : List (Int × Int)) : SeqAt.shaped (.list (fs.map formD)) = true := by
  obtain ⟨q1, q2, _⟩ := forms_flat fs
  show (PyData.canLay0 (.list _) && decide (PyData.depth (.list _) ≤ 64)) = true
  rw [Bool.and_eq_true_iff]
  exact ⟨by simp only [PyData.canLay0]; exact q1, decide_eq_true (by simp only [PyData.depth]; omega)⟩
theorem shapedT (fs : List (Int × Int)) : SeqAt.shaped (rowD fs) = true := by
  obtain ⟨q1, q2, _⟩ := forms_flat fs
  show (PyData.canLay0 (.tuple _) && decide (PyData.depth (.tuple _) ≤ 64)) = true
  rw [Bool.and_eq_true_iff]
  exact ⟨by simp only [PyData.canLay0]; exact q1, decide_eq_true (by simp only [PyData.depth]; omega)⟩
theorem shapedF (f : Int × Int) : SeqAt.shaped (formD f) = true := by
  show (PyData.canLay0 (.tuple _) && decide (PyData.depth (.tuple _) ≤ 64)) = true
  rw [Bool.and_eq_true_iff]
  exact ⟨by simp [PyData.canLay0, PyData.canLayAll0], decide_eq_true (by simp [PyData.depth, PyData.depthAll])⟩
theorem noDictF (f : Int × Int) : (formD f).hasDict = false := by simp [formD, PyData.hasDict, PyData.hasDictAll]
theorem noDictT (fs : List (Int × Int)) : (rowD fs).hasDict = false := by
  simp only [rowD, PyData.hasDict]
  exact (forms_flat fs).2.2
def Side (n : Int) (f : Int × Int) : Prop := 0 ≤ f.1 ∧ f.1 ≤ n ∧ 0 ≤ f.2 ∧ f.2 ≤ n
theorem formB_D {f : Int × Int} (h : Side 7 f) : formB (formD f) = true := by
  obtain ⟨h1, h2, h3, h4⟩ := h
  simp [formB, formD, sideB, h1, h2, h3, h4]
theorem rowB_D {fs : List (Int × Int)} (h : ∀ f ∈ fs, Side 7 f) (hl : fs.length ≤ 200) (hc : cutF fs = fs) : rowB (rowD fs) = true := by
  have q1 : formsB (rowD fs) = true := by
    simp only [rowD, formsB]
    rw [List.length_map, decide_eq_true hl, Bool.true_and, List.all_eq_true]
    intro d hd
    obtain ⟨f, hf, rfl⟩ := List.mem_map.mp hd
    exact formB_D (h f hf)
  simp only [rowD, rowB] at q1 ⊢
  rw [q1, Bool.true_and]
  rcases List.eq_nil_or_concat fs with z | ⟨gs, g, z⟩
  · rw [z]
    rfl
  · rw [List.concat_eq_append] at z
    subst z
    have ng : g ≠ (0, 0) := fun e => by
      rw [e, cutF_zero] at hc
      have := (cutF_sub gs).1
      rw [hc, List.length_append, List.length_singleton] at this
      omega
    have el : ((gs ++ [g]).map formD).getLastD .none = formD g := by simp
    rw [el, formD_eqv, decide_eq_false ng]
    simp
theorem log_small {t : Int} (h0 : 0 < t) (h : t ≤ 4000) : t.natAbs.log2 < 9000 := Nat.lt_of_le_of_lt (Nat.log2_le_self _) (by omega)
theorem hide_up {d p : Addr} {H : Hp} {o : HO} (n : p ≠ d) (h : H p = some o) : hide d H p = some o := by rw [hide_ne n]; exact h
/-- at the values xs stand the pairs fs -/
inductive FormsAt (H : Hp) : List V → List (Int × Int) → Prop
  | nil : FormsAt H [] []
  | cons {p : Addr} {f : Int × Int} {xs : List V} {fs : List (Int × Int)} : H p = some (.tup [.int f.1, .int f.2]) → FormsAt H xs fs → FormsAt H (.ref p :: xs) (f :: fs)
theorem FormsAt.keep {H H' : Hp} (s : ∀ p xs, H p = some (.tup xs) → H' p = some (.tup xs)) : ∀ {xs : List V} {fs : List (Int × Int)}, FormsAt H xs fs → FormsAt H' xs fs
  | _, _, .nil => .nil
  | _, _, .cons h r => .cons (s _ _ h) (FormsAt.keep s r)
theorem FormsAt.append {H : Hp} : ∀ {xs ys : List V} {fs gs : List (Int × Int)}, FormsAt H xs fs → FormsAt H ys gs → FormsAt H (xs ++ ys) (fs ++ gs)
  | _, _, _, _, .nil, h => h
  | _, _, _, _, .cons a b, h => .cons a (FormsAt.append b h)
theorem FormsAt.len {H : Hp} : ∀ {xs : List V} {fs : List (Int × Int)}, FormsAt H xs fs → xs.length = fs.length
  | _, _, .nil => rfl
  | _, _, .cons _ b => by rw [List.length_cons, List.length_cons, FormsAt.len b]
theorem FormsAt.get {H : Hp} : ∀ {xs : List V} {fs : List (Int × Int)}, FormsAt H xs fs → ∀ (i : Nat) (x : V), xs[i]? = some x → ∃ p f, x = .ref p ∧ fs[i]? = some f ∧ H p = some (.tup [.int f.1, .int f.2])
  | _, _, .nil, _, _, e => by cases e
  | _, _, .cons a b, 0, x, e => by
    cases e
    exact ⟨_, _, rfl, rfl, a⟩
  | _, _, .cons a b, i + 1, x, e => FormsAt.get b i x e
theorem FormsAt.dx {H : Hp} {d : Addr} (hd : DiceAt H d) : ∀ {xs : List V} {fs : List (Int × Int)}, FormsAt H xs fs → DxAll (hide d H) xs (fs.map formD)
  | _, _, .nil => .nil
  | _, _, .cons a b => .cons (.tup (hide_up (fun e => by
      obtain ⟨l, s, c, q⟩ := hd
      rw [e, q] at a
      cases a) a) (.cons (.int _) (.cons (.int _) .nil))) (FormsAt.dx hd b)
theorem FormsAt.of {H : Hp} : ∀ {xs : List V} (fs : List (Int × Int)), DxAll H xs (fs.map formD) → FormsAt H xs fs
  | xs, [], h => by
    cases h
    exact .nil
  | xs, f :: fs, h => by
    cases h with
    | cons a b =>
      cases a with
      | tup h1 h2 =>
        cases h2 with
        | cons y1 r =>
          cases r with
          | cons y2 r =>
            cases r
            cases y1
            cases y2
            exact .cons h1 (FormsAt.of fs b)
theorem Dx.form {H : Hp} {p : Addr} {f : Int × Int} (h : Dx H (.ref p) (formD f)) : H p = some (.tup [.int f.1, .int f.2]) := by
  cases h with
  | tup h1 h2 =>
    cases h2 with
    | cons y1 r =>
      cases r with
      | cons y2 r =>
        cases r
        cases y1
        cases y2
        exact h1
theorem Mv.tups {d : Addr} {H H' : Hp} (hd : DiceAt H d) (m : Mv d H H') (p : Addr) (xs : List V) (h : H p = some (.tup xs)) : H' p = some (.tup xs) := by
  refine m.get (fun e => ?_) h
  obtain ⟨l, s, c, q⟩ := hd
  rw [e, q] at h
  cases h
theorem tups_put {H : Hp} {l : Addr} {zs : List V} {o : HO} (hl : H l = some (.lst zs)) (p : Addr) (xs : List V) (h : H p = some (.tup xs)) : upd H l o p = some (.tup xs) := by
  rw [upd_ne (fun e => by rw [e, hl] at h; cases h)]
  exact h
theorem hide_le' {d p : Addr} {H : Hp} {o : HO} (h : hide d H p = some o) : H p = some o := hide_le _ _ h
def sideL (k : Int) (fs : List (Int × Int)) : Int := fs.foldr (fun f a => a * k + f.1) 0
def sideR (k : Int) (fs : List (Int × Int)) : Int := fs.foldr (fun f a => a * k + f.2) 0
theorem FormsAt.reverse {H : Hp} : ∀ {xs : List V} {fs : List (Int × Int)}, FormsAt H xs fs → FormsAt H xs.reverse fs.reverse
  | _, _, .nil => .nil
  | _, _, .cons a b => by
    rw [List.reverse_cons, List.reverse_cons]
    exact (FormsAt.reverse b).append (.cons a .nil)
theorem Dx.rowOf {H : Hp} {x : V} {fs : List (Int × Int)} (h : Dx H x (rowD fs)) : ∃ a xs, x = .ref a ∧ H a = some (.tup xs) ∧ FormsAt H xs fs := by
  obtain ⟨a, xs, e, h1, h2⟩ := h.tupOf
  exact ⟨a, xs, e, h1, FormsAt.of fs h2⟩
/-! ## sums over rows -/
theorem sideL_snoc (k : Int) (f : Int × Int) : ∀ xs : List (Int × Int), sideL k (xs ++ [f]) = sideL k xs + k ^ xs.length * f.1
  | [] => by simp [sideL]
  | x :: r => by
    have ih := sideL_snoc k f r
    simp only [sideL, List.cons_append, List.foldr_cons, List.length_cons] at ih ⊢
    rw [ih, Int.add_mul, Int.pow_succ, Int.mul_assoc, Int.mul_comm f.1 k, ← Int.mul_assoc]
    omega
theorem sideR_snoc (k : Int) (f : Int × Int) : ∀ xs : List (Int × Int), sideR k (xs ++ [f]) = sideR k xs + k ^ xs.length * f.2
  | [] => by simp [sideR]
  | x :: r => by
    have ih := sideR_snoc k f r
    simp only [sideR, List.cons_append, List.foldr_cons, List.length_cons] at ih ⊢
    rw [ih, Int.add_mul, Int.pow_succ, Int.mul_assoc, Int.mul_comm f.2 k, ← Int.mul_assoc]
    omega
theorem side_bound {k : Int} (hk : k = 2 ∨ k = 3) : ∀ {fs : List (Int × Int)}, (∀ f ∈ fs, Side 7 f) → 0 ≤ sideL k fs ∧ sideL k fs + 7 ≤ 7 * 4 ^ fs.length ∧ 0 ≤ sideR k fs ∧ sideR k fs + 7 ≤ 7 * 4 ^ fs.length
  | [], _ => by simp [sideL, sideR]
  | f :: r, h => by
    obtain ⟨a1, a2, a3, a4⟩ := side_bound hk (fs := r) fun g hg => h g (List.mem_cons_of_mem _ hg)
    obtain ⟨b1, b2, b3, b4⟩ := h f List.mem_cons_self
    simp only [sideL, sideR, List.foldr_cons, List.length_cons] at a1 a2 a3 a4 ⊢
    have e : (4 : Int) ^ (r.length + 1) = 4 ^ r.length * 4 := Int.pow_succ ..
    rw [e]
    rcases hk with rfl | rfl <;> omega
theorem side3 {fs : List (Int × Int)} (h : ∀ f ∈ fs, Side 3 f) : ∀ f ∈ fs, Side 7 f := fun f hf => by
  obtain ⟨a, b, c, d⟩ := h f hf
  exact ⟨a, by omega, c, by omega⟩
theorem last_ne {i : List (Int × Int)} {y : Int × Int} (h : cutF (i ++ [y]) = i ++ [y]) : y ≠ (0, 0) := fun e => by
  rw [e, cutF_zero] at h
  have := (cutF_sub i).1
  rw [h, List.length_append, List.length_singleton] at this
  omega
/-! ## numbers of levels -/
def gsum (c : Int) : Nat → Int
  | 0 => 0
  | n + 1 => gsum c n + c ^ n
theorem gsum_succ (c : Int) (n : Nat) : gsum c (n + 1) = gsum c n + c ^ n := rfl
theorem pow_pos' {c : Int} (hc : c = 2 ∨ c = 3) (n : Nat) : 1 ≤ c ^ n := by
  have : 0 < c ^ n := Int.pow_pos (by omega)
  omega
theorem gsum_nn {c : Int} (hc : c = 2 ∨ c = 3) : ∀ n, 0 ≤ gsum c n
  | 0 => Int.le_refl _
  | n + 1 => by
    have := gsum_nn hc n
    have := pow_pos' hc n
    rw [gsum_succ]
    omega
theorem pow_gsum {c : Int} (hc : c = 2 ∨ c = 3) : ∀ n, c ^ n ≤ 2 * gsum c n + 1
  | 0 => by simp [gsum]
  | n + 1 => by
    have h1 := pow_gsum hc n
    have h2 := pow_pos' hc n
    rw [gsum_succ, Int.pow_succ]
    rcases hc with rfl | rfl <;> omega
theorem gsum_mono {c : Int} (hc : c = 2 ∨ c = 3) {m : Nat} : ∀ {n : Nat}, m ≤ n → gsum c m ≤ gsum c n
  | 0, h => by
    rw [Nat.le_zero.mp h]
    exact Int.le_refl _
  | n + 1, h => by
    by_cases e : m = n + 1
    · rw [e]
      exact Int.le_refl _
    · have h1 := gsum_mono hc (m := m) (n := n) (by omega)
      have h2 := pow_pos' hc n
      rw [gsum_succ]
      omega
theorem pow_mono {c : Int} (hc : c = 2 ∨ c = 3) {m : Nat} : ∀ {n : Nat}, m ≤ n → c ^ m ≤ c ^ n
  | 0, h => by
    rw [Nat.le_zero.mp h]
    exact Int.le_refl _
  | n + 1, h => by
    by_cases e : m = n + 1
    · rw [e]
      exact Int.le_refl _
    · have h1 := pow_mono hc (m := m) (n := n) (by omega)
      have h2 := pow_pos' hc n
      rw [Int.pow_succ]
      rcases hc with rfl | rfl <;> omega
theorem pow200 {c : Int} (hc : c = 2 ∨ c = 3) : BIG ≤ c ^ 200 := by
  rcases hc with rfl | rfl <;> decide +kernel
theorem gsum200 {c : Int} (hc : c = 2 ∨ c = 3) : BIG ≤ 14 * gsum c 200 := by
  have h1 := pow200 hc
  have h2 := pow_gsum hc 200
  have h3 : (3 : Int) ≤ BIG := by decide
  omega
structure IsLeast (c N : Int) (n : Nat) : Prop where
  below : ∀ j : Nat, j < n → 14 * gsum c j < N
  fits : N ≤ 14 * gsum c n
structure IsMost (c N : Int) (n : Nat) : Prop where
  upto : ∀ j : Nat, j < n → c ^ j ≤ N
  over : N < c ^ n
theorem IsLeast.le {c N : Int} (hc : c = 2 ∨ c = 3) (hN : N < BIG) {n : Nat} (h : IsLeast c N n) : n ≤ 200 := by
  rcases Nat.lt_or_ge 200 n with q | q
  · have := h.below 200 q
    have := gsum200 hc
    omega
  · exact q
theorem IsMost.le {c N : Int} (hc : c = 2 ∨ c = 3) (hN : N < BIG) {n : Nat} (h : IsMost c N n) : n ≤ 200 := by
  rcases Nat.lt_or_ge 200 n with q | q
  · have := h.upto 200 q
    have := pow200 hc
    omega
  · exact q
theorem least_most {c N : Int} (hc : c = 2 ∨ c = 3) {L M : Nat} (hL : IsLeast c N L) (hM : IsMost c N M) : L ≤ M := by
  rcases Nat.lt_or_ge M L with q | q
  · have h1 := hL.below M q
    have h2 := hM.over
    have h3 := pow_gsum hc M
    have h4 := gsum_nn hc M
    omega
  · exact q
/-- a row of n levels can have the length N -/
def Good (c N : Int) (n : Nat) : Prop := (n = 0 ∧ N = 0) ∨ (1 ≤ n ∧ c ^ (n - 1) ≤ N ∧ N ≤ 14 * gsum c n)
def Bad (c N : Int) (n : Nat) : Prop := (1 ≤ n ∧ N < c ^ (n - 1)) ∨ 14 * gsum c n < N
theorem good_mid {c N : Int} (hc : c = 2 ∨ c = 3) (h0 : 0 ≤ N) {L M n : Nat} (hL : IsLeast c N L) (hM : IsMost c N M) (h1 : L ≤ n) (h2 : n ≤ M) : Good c N n := by
  have h3 := gsum_mono hc h1
  have h4 := hL.fits
  match n, h1, h2, h3 with
  | 0, h1, h2, h3 =>
    have e : gsum c 0 = 0 := rfl
    exact .inl ⟨rfl, by omega⟩
  | n + 1, h1, h2, h3 => exact .inr ⟨by omega, hM.upto n (by omega), by omega⟩
theorem bad_above {c N : Int} {M : Nat} (hM : IsMost c N M) : Bad c N (M + 1) := .inl ⟨by omega, hM.over⟩
theorem bad_below {c N : Int} {L : Nat} (hL : IsLeast c N L) (h : L ≠ 0) : Bad c N (L - 1) := .inr (hL.below _ (by omega))
theorem row_sum {c : Int} (hc : c = 2 ∨ c = 3) : ∀ {fs : List (Int × Int)}, (∀ f ∈ fs, Side 7 f) → sideL c fs + sideR c fs ≤ 14 * gsum c fs.length
  | fs, h => by
    rcases List.eq_nil_or_concat fs with e | ⟨i, y, e⟩
    · rw [e]
      exact Int.le_refl _
    · rw [List.concat_eq_append] at e
      subst e
      have ih := row_sum hc (fs := i) fun f hf => h f (List.mem_append_left _ hf)
      obtain ⟨a1, a2, a3, a4⟩ := h y (by simp)
      rw [sideL_snoc, sideR_snoc, List.length_append, List.length_singleton, gsum_succ]
      have p := pow_pos' hc i.length
      have q1 : c ^ i.length * y.1 ≤ c ^ i.length * 7 := Int.mul_le_mul_of_nonneg_left a2 (by omega)
      have q2 : c ^ i.length * y.2 ≤ c ^ i.length * 7 := Int.mul_le_mul_of_nonneg_left a4 (by omega)
      omega
  termination_by fs => fs.length
  decreasing_by simp_all
theorem row_least {c : Int} (hc : c = 2 ∨ c = 3) {fs : List (Int × Int)} (h : ∀ f ∈ fs, Side 7 f) (hcut : cutF fs = fs) (hn : fs.length ≠ 0) : c ^ (fs.length - 1) ≤ sideL c fs + sideR c fs := by
  rcases List.eq_nil_or_concat fs with e | ⟨i, y, e⟩
  · rw [e] at hn
    exact absurd rfl hn
  · rw [List.concat_eq_append] at e
    subst e
    have ny := last_ne hcut
    obtain ⟨b1, _, b3, _⟩ := side_bound hc (fs := i) fun f hf => h f (List.mem_append_left _ hf)
    obtain ⟨a1, a2, a3, a4⟩ := h y (by simp)
    rw [sideL_snoc, sideR_snoc, List.length_append, List.length_singleton, Nat.add_sub_cancel]
    have p := pow_pos' hc i.length
    have one : 1 ≤ y.1 + y.2 := by
      rcases Int.lt_or_le 0 (y.1 + y.2) with q | q
      · omega
      · exact absurd (Prod.ext (show y.1 = 0 by omega) (show y.2 = 0 by omega)) ny
    have q1 : c ^ i.length * 1 ≤ c ^ i.length * (y.1 + y.2) := Int.mul_le_mul_of_nonneg_left one (by omega)
    rw [Int.mul_add] at q1
    omega
def spCountI : Sp := fun vs H Q _ => ∃ i : Int, vs = [.int i] ∧ ∀ H', Same H H' → Q (.bl (smallB i && decide (0 ≤ i))) H'
def spLeast : Sp := fun vs H Q _ => ∃ c N : Int, vs = [.int c, .int N] ∧ (c = 2 ∨ c = 3) ∧ 0 ≤ N ∧ N < BIG ∧ ∀ n : Nat, IsLeast c N n → Q (.int (n : Int)) H
def spMost : Sp := fun vs H Q _ => ∃ c N : Int, vs = [.int c, .int N] ∧ (c = 2 ∨ c = 3) ∧ 0 ≤ N ∧ N < BIG ∧ ∀ n : Nat, IsMost c N n → Q (.int (n : Int)) H
def spLevels : Sp := fun vs H Q _ => ∃ c N : Int, vs = [.int c, .int N] ∧ (c = 2 ∨ c = 3) ∧ 0 ≤ N ∧ N < BIG ∧
  ∀ (p : Addr) (L M : Nat) (H' : Hp), Same H H' → H' p = some (.tup [.int (L : Int), .int (M : Int)]) → IsLeast c N L → IsMost c N M → Q (.ref p) H'
section
variable {gq : Bool} {P : Program} {w : World} {K : PySem.W.Frag} {mg : Str → Option Value} {base : Heap}
theorem c_least (T : Txt K mg) (D : DefAt K mg "_least_levels" s__least_levels ["arity", "length"]) : CalQ gq P w K mg base 1 "_least_levels" ["arity", "length"] spLeast := by
  refine calOkQ D sc__least_levels (fun xs H Q E h => ?_) (fun f cdv A out s H xs Q E hgd hr h => ?_)
  · obtain ⟨c, N, rfl, _⟩ := h
    rfl
  · obtain ⟨c, N, rfl, hc, h0, hN, k⟩ := h
    have nd := sc__least_levels.nd
    refine ⟨_, (pss_cons (ps_set (i := 2) nd rfl (.inl rfl) pe_int)
      (pss_cons (ps_set (i := 3) nd rfl (.inl rfl) pe_int)
      (pss_cons (ps_set (i := 4) nd rfl (.inl rfl) pe_int)
      (pss_cons (ps_while PassesOwn.never (pt_cmpR op_lt (pv 3) (pv 1) (nomark _)) (pss_cons (ps_set (i := 3) nd rfl (.inl rfl) (pe_op op_add (pv 3) (pe_op op_mul (pe_op op_mul pe_int (pe_gv rfl T.gMAX_SIDE)) (pv 4))))
        (pss_cons (ps_set (i := 4) nd rfl (.inl rfl) (pe_op op_mul (pv 4) (pv 0)))
        (pss_one (ps_aug (i := 2) nd rfl (.inl rfl) pe_int ip_add)))))
      (pss_one (ps_ret (pv 2))))))), ?_⟩
    refine ⟨fun m σ H' => ∃ n : Nat, m = 200 - n ∧ σ = [some (.int c), some (.int N), some (.int (n : Int)), some (.int (14 * gsum c n)), some (.int (c ^ n))] ∧ (∀ j : Nat, j < n → 14 * gsum c j < N) ∧ H' = H, ?_, ?_⟩
    · exact ⟨_, 0, rfl, (by rw [Int.pow_zero]; rfl), fun j hj => absurd hj (Nat.not_lt_zero j), rfl⟩
    · rintro m σ H' ⟨n, rfl, rfl, hb, rfl⟩
      refine ⟨_, rfl, _, rfl, ?_⟩
      by_cases q : 14 * gsum c n < N
      · have n200 : n < 200 := by
          rcases Nat.lt_or_ge n 200 with z | z
          · exact z
          · have := gsum_mono hc z
            have := gsum200 hc
            omega
        refine ⟨_, _, rfl, rfl, true, congrArg V.bl (decide_eq_true q), ?_⟩
        refine ⟨_, fun _ _ n => n, ?_⟩
        refine ⟨_, rfl, _, _, rfl, rfl, .inl ⟨by decide, by decide⟩, _, rfl, _, _, rfl, rfl, .inl ⟨by decide, by decide⟩, _, _, rfl, rfl, ?_⟩
        refine ⟨_, rfl, _, rfl, _, _, rfl, rfl, .inr ⟨by omega, by omega⟩, ?_⟩
        refine ⟨_, rfl, _, _, rfl, rfl, 200 - (n + 1), (by omega), n + 1, rfl, ?_, fun j hj => ?_, rfl⟩
        · rw [gsum_succ, Int.pow_succ, Int.mul_add]
          rfl
        · by_cases e : j = n
          · rw [e]
            exact q
          · exact hb j (by omega)
      · refine ⟨_, _, rfl, rfl, false, congrArg V.bl (decide_eq_false q), ?_⟩
        exact ⟨_, rfl, k n ⟨hb, by omega⟩⟩
theorem c_most (T : Txt K mg) (D : DefAt K mg "_greatest_levels" s__greatest_levels ["arity", "length"]) : CalQ gq P w K mg base 1 "_greatest_levels" ["arity", "length"] spMost := by
  refine calOkQ D sc__greatest_levels (fun xs H Q E h => ?_) (fun f cdv A out s H xs Q E hgd hr h => ?_)
  · obtain ⟨c, N, rfl, _⟩ := h
    rfl
  · obtain ⟨c, N, rfl, hc, h0, hN, k⟩ := h
    have nd := sc__greatest_levels.nd
    refine ⟨_, (pss_cons (ps_set (i := 2) nd rfl (.inl rfl) pe_int)
      (pss_cons (ps_set (i := 3) nd rfl (.inl rfl) pe_int)
      (pss_cons (ps_while PassesOwn.never (pt_cmpR op_le (pv 3) (pv 1) (nomark _)) (pss_cons (ps_set (i := 3) nd rfl (.inl rfl) (pe_op op_mul (pv 3) (pv 0)))
        (pss_one (ps_aug (i := 2) nd rfl (.inl rfl) pe_int ip_add))))
      (pss_one (ps_ret (pv 2)))))), ?_⟩
    refine ⟨fun m σ H' => ∃ n : Nat, m = 200 - n ∧ σ = [some (.int c), some (.int N), some (.int (n : Int)), some (.int (c ^ n))] ∧ (∀ j : Nat, j < n → c ^ j ≤ N) ∧ H' = H, ?_, ?_⟩
    · exact ⟨_, 0, rfl, (by rw [Int.pow_zero]; rfl), fun j hj => absurd hj (Nat.not_lt_zero j), rfl⟩
    · rintro m σ H' ⟨n, rfl, rfl, hb, rfl⟩
      refine ⟨_, rfl, _, rfl, ?_⟩
      by_cases q : c ^ n ≤ N
      · have n200 : n < 200 := by
          rcases Nat.lt_or_ge n 200 with z | z
          · exact z
          · have := pow_mono hc z
            have := pow200 hc
            omega
        refine ⟨_, _, rfl, rfl, true, congrArg V.bl (decide_eq_true q), ?_⟩
        refine ⟨_, fun _ _ n => n, ?_⟩
        refine ⟨_, rfl, _, rfl, _, _, rfl, rfl, .inr ⟨by omega, by omega⟩, ?_⟩
        refine ⟨_, rfl, _, _, rfl, rfl, 200 - (n + 1), (by omega), n + 1, rfl, ?_, fun j hj => ?_, rfl⟩
        · rw [Int.pow_succ]
          rfl
        · by_cases e : j = n
          · rw [e]
            exact q
          · exact hb j (by omega)
      · refine ⟨_, _, rfl, rfl, false, congrArg V.bl (decide_eq_false q), ?_⟩
        exact ⟨_, rfl, k n ⟨hb, by omega⟩⟩
end
/-! ## rows as values at places -/
theorem go_nm {t : TS} {D : Ends} {i : Nat} {v : V} {σ : L2.St} {H : Hp} {r : VK} {b c : L2.St → Hp → Prop} (h : t D (σ.set i (some v)) H) : gName i v σ H (Ends.nx ⟨t D, r, b, c⟩) := h

theorem vcut_take (xs : List V) (n : Nat) (h : n ≤ xs.length) : cutV xs none (some (n : Int)) = xs.take n := by
  unfold cutV HT.sIx
  show (xs.drop 0).take _ = _
  rw [List.drop_zero]
  congr 1
  simp only [Int.natCast_nonneg]
  split <;> omega
theorem cut_take (ds : List PyData) (n : Nat) (h : n ≤ ds.length) : cutD ds none (some (n : Int)) = ds.take n := by
  unfold cutD
  rw [HT.sIx_none, HT.sIx_nat, Nat.min_eq_left h, List.drop_zero, Nat.sub_zero]
theorem cut_drop (ds : List PyData) (n : Nat) (h : n ≤ ds.length) : cutD ds (some (n : Int)) none = ds.drop n := by
  unfold cutD
  rw [HT.sIx_none, HT.sIx_nat, Nat.min_eq_left h]
  exact List.take_of_length_le (by rw [List.length_drop]; omega)
theorem FormsAt.dx0 {H : Hp} : ∀ {xs : List V} {fs : List (Int × Int)}, FormsAt H xs fs → DxAll H xs (fs.map formD)
  | _, _, .nil => .nil
  | _, _, .cons a b => .cons (.tup a (.cons (.int _) (.cons (.int _) .nil))) (FormsAt.dx0 b)
def RowAt (H : Hp) (v : V) (fs : List (Int × Int)) : Prop := ∃ a xs, v = .ref a ∧ H a = some (.tup xs) ∧ FormsAt H xs fs
theorem RowAt.keep {H H' : Hp} {v : V} {fs : List (Int × Int)} (s : ∀ p xs, H p = some (.tup xs) → H' p = some (.tup xs)) (h : RowAt H v fs) : RowAt H' v fs := by
  obtain ⟨a, xs, e, h1, h2⟩ := h
  exact ⟨a, xs, e, s _ _ h1, h2.keep s⟩
theorem RowAt.grow {H H' : Hp} {v : V} {fs : List (Int × Int)} (h : RowAt H v fs) (s : Same H H') : RowAt H' v fs := h.keep fun p xs z => s _ _ z
theorem RowAt.mv {d : Addr} {H H' : Hp} {v : V} {fs : List (Int × Int)} (h : RowAt H v fs) (hd : DiceAt H d) (m : Mv d H H') : RowAt H' v fs := h.keep (m.tups hd)
theorem RowAt.dx0 {H : Hp} {v : V} {fs : List (Int × Int)} (h : RowAt H v fs) : Dx H v (rowD fs) := by
  obtain ⟨a, xs, rfl, h1, h2⟩ := h
  exact .tup h1 h2.dx0
theorem DiceAt.neT {H : Hp} {d p : Addr} {xs : List V} (hd : DiceAt H d) (h : H p = some (.tup xs)) : p ≠ d := fun e => by
  obtain ⟨l, s, c, q⟩ := hd
  rw [e, q] at h
  cases h
theorem RowAt.dx {d : Addr} {H : Hp} {v : V} {fs : List (Int × Int)} (h : RowAt H v fs) (hd : DiceAt H d) : Dx (hide d H) v (rowD fs) := by
  obtain ⟨a, xs, rfl, h1, h2⟩ := h
  exact .tup (hide_up (hd.neT h1) h1) (h2.dx hd)
theorem RowAt.of {d : Addr} {H : Hp} {v : V} {fs : List (Int × Int)} (h : Dx (hide d H) v (rowD fs)) : RowAt H v fs := h.seen.rowOf
theorem formsB_of {fs : List (Int × Int)} (h : ∀ f ∈ fs, Side 7 f) (hl : fs.length ≤ 200) : formsB (rowD fs) = true := by
  simp only [rowD, formsB]
  rw [List.length_map, decide_eq_true hl, Bool.true_and, List.all_eq_true]
  intro d hd
  obtain ⟨f, hf, rfl⟩ := List.mem_map.mp hd
  exact formB_D (h f hf)
theorem FormsAt.take {H : Hp} : ∀ {xs : List V} {fs : List (Int × Int)} (n : Nat), FormsAt H xs fs → FormsAt H (xs.take n) (fs.take n)
  | _, _, 0, _ => .nil
  | _, _, _ + 1, .nil => .nil
  | _, _, n + 1, .cons a b => .cons a (FormsAt.take n b)
theorem take_one {α : Type} {fs : List α} {i : Nat} {f : α} (h : fs[i]? = some f) : fs.take (i + 1) = fs.take i ++ [f] := by rw [List.take_add_one, h]; rfl
/-! ## judges that raise -/
def spCheckX (B : PyData → Bool) (C : Addr) : Sp := fun vs H Q E => ∃ (x : V) (d : PyData), vs = [x] ∧ Dx H x d ∧ (B d = true → ∀ H', Same H H' → Q .non H') ∧ (B d = false → ∀ H', Same H H' → E (.ref C) none H')
section
variable {gq : Bool} {P : Program} {w : World} {K : PySem.W.Frag} {mg : Str → Option Value} {base : Heap}
theorem x_check_row {CR : Addr} (T : Txt K mg) (X_InvalidRow : ErrAt K mg "InvalidRow" CR veL "ValueError.__new__") (C_is_row : CalQ gq P w K mg base 6 "is_row" ["value"] (spJ rowB)) (D : DefAt K mg "check_row" s_check_row ["row"]) :
    CalXQ gq P w K mg base 7 "check_row" ["row"] (spCheckX rowB CR) := by
  refine calOkXQ D sc_check_row (fun xs H Q E h => ?_) (fun f cdv A out s H xs Q E hgd hr h => ?_)
  · obtain ⟨x, d, rfl, _⟩ := h
    rfl
  · obtain ⟨x, d, rfl, hx, k1, k2⟩ := h
    have nd := sc_check_row.nd
    refine ⟨_, (pss_one (ps_if (pt_not (pt_val (pe_kq C_is_row hgd hr (by decide) rfl (pa_cons (pv 0) pa_nil)))) (pss_one (ps_raise rfl (takes_of rfl rfl rfl rfl) (pmk_own PySem.F.excBase_ValueError X_InvalidRow.exc X_InvalidRow.at_ X_InvalidRow.keep (raises_own X_InvalidRow.base X_InvalidRow.ty) rfl))) pss_nil)), ?_⟩
    refine a_if1 (fun b H' => Same H H' ∧ (b = !rowB d)) (fun Q' kQ => ?_) (fun H' h => ?_) (fun H' h => ?_)
    · exact ⟨_, rfl, _, _, rfl, hx, fun H1 s1 => ⟨_, rfl, kQ _ _ ⟨s1, rfl⟩⟩⟩
    · exact k2 (by simpa using h.2.symm) H' h.1
    · exact k1 (by simpa using h.2.symm) H' h.1
def arityB : PyData → Bool
  | .int i => decide (2 ≤ i) && decide (i ≤ 3)
  | _ => false
theorem arity_int {d : PyData} (h : arityB d = true) : intB d = true ∧ ∃ n : Int, d = .int n ∧ (n = 2 ∨ n = 3) := by
  cases d with
  | int i =>
    simp only [arityB, Bool.and_eq_true, decide_eq_true_eq] at h
    refine ⟨?_, i, rfl, by omega⟩
    show smallB i = true
    unfold smallB BIG
    rw [decide_eq_true (by omega), decide_eq_true (by omega)]
    rfl
  | none => cases h
  | bool _ => cases h
  | str _ => cases h
  | list _ => cases h
  | tuple _ => cases h
  | dict _ => cases h
/-- the way out of a wrong number: the error's own dict keeps it -/
def NumOut (CN : Addr) (x : V) (H : Hp) (E : XK) : Prop := ∀ (H' : Hp) (dd : Addr), Same H H' → H' dd = none → E (.ref CN) (some dd) (upd H' dd (.xd [(("value" : Str), x)]))
def spArityX (CN : Addr) : Sp := fun vs H Q E => ∃ (x : V) (d : PyData), vs = [x] ∧ Dx H x d ∧ (arityB d = true → ∀ H', Same H H' → Q .non H') ∧ (arityB d = false → NumOut CN x H E)
theorem within_arity (d : PyData) : within d 2 3 = arityB d := by
  cases d with
  | int i =>
    have e : within (.int i) 2 3 = (intB (.int i) && (decide (2 ≤ i) && decide (i ≤ 3))) := rfl
    rw [e]
    cases h : arityB (.int i) with
    | true =>
      rw [(arity_int h).1, Bool.true_and]
      exact h
    | false =>
      have h : (decide (2 ≤ i) && decide (i ≤ 3)) = false := h
      rw [h, Bool.and_false]
  | _ => exact Bool.and_false _
theorem x_check_arity {CN fI : Addr} (T : Txt K mg) (O_InvalidNumber : OwnInvalidNumber.Txt K mg CN fI) (C_is_within : CalQ gq P w K mg base 2 "is_within" ["value", "least", "greatest"] spWithin) (D : DefAt K mg "check_arity" s_check_arity ["arity"]) :
    CalXQ gq P w K mg base 3 "check_arity" ["arity"] (spArityX CN) := by
  refine calOkXQ D sc_check_arity (fun xs H Q E h => ?_) (fun f cdv A out s H xs Q E hgd hr h => ?_)
  · obtain ⟨x, d, rfl, _⟩ := h
    rfl
  · obtain ⟨x, d, rfl, hx, k1, k2⟩ := h
    have nd := sc_check_arity.nd
    refine ⟨_, (pss_one (ps_if (pt_not (pt_val (pe_kq C_is_within hgd hr (by decide) rfl (pa_cons (pv 0) (pa_cons pe_int (pa_cons pe_int pa_nil)))))) (pss_one (ps_raise rfl (takes_of rfl rfl rfl rfl) (OwnInvalidNumber.pmk O_InvalidNumber hr rfl (pa_cons (pv 0) pa_nil)))) pss_nil)), ?_⟩
    refine a_if1 (fun b H' => Same H H' ∧ (b = !arityB d)) (fun Q' kQ => ?_) (fun H' h => ?_) (fun H' h => ?_)
    · exact ⟨_, rfl, x, d, 2, 3, rfl, hx, fun H1 s1 => ⟨_, rfl, kQ _ _ ⟨s1, by rw [within_arity]⟩⟩⟩
    · exact ⟨_, rfl, _, rfl, fun dd hdd => k2 (by simpa using h.2.symm) H' dd h.1 hdd⟩
    · exact k1 (by simpa using h.2.symm) H' h.1
end
theorem form_of {d : PyData} (h : formB d = true) : ∃ f : Int × Int, d = formD f ∧ Side 7 f := by
  unfold formB at h
  split at h
  · rename_i a b
    rw [Bool.and_eq_true] at h
    obtain ⟨h1, h2⟩ := h
    cases a with
    | int i =>
      cases b with
      | int j =>
        unfold sideB at h1 h2
        simp only [Bool.and_eq_true, decide_eq_true_eq] at h1 h2
        exact ⟨(i, j), rfl, h1.1, h1.2, h2.1, h2.2⟩
      | _ => exact Bool.noConfusion h2
    | _ => exact Bool.noConfusion h1
  · cases h
theorem forms_of : ∀ ds : List PyData, ds.all formB = true → ∃ fs : List (Int × Int), ds = fs.map formD ∧ ∀ f ∈ fs, Side 7 f
  | [], _ => ⟨[], rfl, fun _ z => nomatch z⟩
  | d :: r, h => by
    rw [List.all_cons, Bool.and_eq_true] at h
    obtain ⟨f, rfl, sf⟩ := form_of h.1
    obtain ⟨fs, rfl, sr⟩ := forms_of r h.2
    refine ⟨f :: fs, rfl, fun g hg => ?_⟩
    rcases List.mem_cons.mp hg with e | e
    · rw [e]
      exact sf
    · exact sr g e
theorem formsB_out {d : PyData} (h : formsB d = true) : ∃ fs : List (Int × Int), d = rowD fs ∧ fs.length ≤ 200 ∧ ∀ f ∈ fs, Side 7 f := by
  unfold formsB at h
  split at h
  · rename_i ds
    rw [Bool.and_eq_true, decide_eq_true_eq] at h
    obtain ⟨fs, rfl, sf⟩ := forms_of ds h.2
    exact ⟨fs, rfl, by simpa using h.1, sf⟩
  · cases h
theorem rowB_out {d : PyData} (h : rowB d = true) : ∃ fs : List (Int × Int), d = rowD fs ∧ fs.length ≤ 200 ∧ (∀ f ∈ fs, Side 7 f) ∧ cutF fs = fs := by
  have hf : formsB d = true := by
    unfold rowB at h
    split at h
    · rw [Bool.and_eq_true] at h
      exact h.1
    · cases h
  obtain ⟨fs, rfl, hl, hs⟩ := formsB_out hf
  refine ⟨fs, rfl, hl, hs, ?_⟩
  rcases List.eq_nil_or_concat fs with e | ⟨i, y, e⟩
  · rw [e]
    rfl
  · rw [List.concat_eq_append] at e
    subst e
    refine cutF_last i fun z => ?_
    subst z
    simp only [rowD, rowB, Bool.and_eq_true] at h
    have q := h.2
    rw [show (List.map formD (i ++ [((0 : Int), (0 : Int))])).getLastD .none = formD (0, 0) by simp, formD_eqv] at q
    simp at q
def spMirrorX (C : Addr) : Sp := fun vs H Q E => ∃ (x : V) (d : PyData), vs = [x] ∧ Dx H x d ∧ (∀ fs, d = rowD fs → rowB d = true → ∀ (v : V) (H' : Hp), Same H H' → RowAt H' v (fs.map Prod.swap) → Q v H') ∧ (rowB d = false → ∀ H', Same H H' → E (.ref C) none H')
def spTrimmed : Sp := fun vs H Q _ => ∃ (x : V) (fs : List (Int × Int)), vs = [x] ∧ RowAt H x fs ∧ formsB (rowD fs) = true ∧
  ∀ (v : V) (H' : Hp), Same H H' → RowAt H' v (cutF fs) → Q v H'
def spSwap : Sp := fun vs H Q _ => ∃ (p : Addr) (f : Int × Int), vs = [.ref p] ∧ H p = some (.tup [.int f.1, .int f.2]) ∧ ∀ (q : Addr) (H' : Hp), Same H H' → H' q = some (.tup [.int f.2, .int f.1]) → Q (.ref q) H'
def spTrimX (C : Addr) : Sp := fun vs H Q E => ∃ (x : V) (d : PyData), vs = [x] ∧ Dx H x d ∧ (∀ fs, d = rowD fs → formsB d = true → ∀ (v : V) (H' : Hp), Same H H' → RowAt H' v (cutF fs) → Q v H') ∧ (formsB d = false → ∀ H', Same H H' → E (.ref C) none H')
section
variable {gq : Bool} {P : Program} {w : World} {K : PySem.W.Frag} {mg : Str → Option Value} {base : Heap}
theorem c_without (T : Txt K mg) (D : DefAt K mg "without_empty_end" s_without_empty_end ["forms"]) : CalQ gq P w K mg base 1 "without_empty_end" ["forms"] spTrimmed := by
  refine calOkQ D sc_without_empty_end (fun xs H Q E h => ?_) (fun f cdv A out s H xs Q E hgd hr h => ?_)
  · obtain ⟨x, d, rfl, _⟩ := h
    rfl
  · obtain ⟨x, fs, rfl, hx, hb, k⟩ := h
    have nd := sc_without_empty_end.nd
    refine ⟨_, (pss_cons (ps_set (i := 1) nd rfl (.inl rfl) (pe_callB call_len_seq (by rfl) T.len (by decide +kernel) (pa_cons (pv 0) pa_nil)))
      (pss_cons (ps_while PassesOwn.never (PW.pt (pw_and (pt_cmpR op_gt (pv 1) pe_int (nomark _)) (pw_and1 (pt_cmpR (op_eqD hr.units) (pe_ix ix_tup (pv 0) (pe_op op_sub (pv 1) pe_int) (fun _ _ => rfl)) (pe_tup (pa_cons pe_int (pa_cons pe_int pa_nil))) (nomark _))))) (pss_one (ps_aug (i := 1) nd rfl (.inl rfl) pe_int ip_sub)))
      (pss_one (ps_ret (pe_slice sl_tupA (pv 0) po_none (po_some (pv 1))))))), ?_⟩
    have s1 := Same.refl H
    obtain ⟨a, xs, rfl, ha, hF⟩ := hx.grow s1
    have lx := hF.len
    refine ⟨_, rfl, a, xs, rfl, .inr (SqT.of ha), ?_⟩
    have fin : ∀ (n : Nat) (H2 : Hp), n ≤ xs.length → Same H H2 → H2 a = some (.tup xs) → FormsAt H2 xs fs → cutF (fs.take n) = cutF fs → cutF (fs.take n) = fs.take n → rSlA K (.ref a) none (some (n : Int)) H2 Q := by
      intro n H2 hn s2 ha2 hF2 e1 e2
      have hR := hF2.take n
      refine ⟨a, xs, rfl, SqT.of ha2, fun e => ?_, fun _ p np => ?_⟩
      · refine k _ _ s2 ⟨a, xs, rfl, ha2, ?_⟩
        have en : xs.take n = xs := by
          have := vcut_take xs n hn
          unfold cutV at this
          rw [e.1, e.2] at this
          simpa using this.symm
        rw [en] at hR
        rw [← e1, e2]
        exact hR
      · rw [vcut_take xs n hn]
        refine k _ _ (s2.trans (same_new np)) ⟨p, _, rfl, upd_same, ?_⟩
        rw [← e1, e2]
        exact hR.keep fun q ys z => same_new np _ _ z
    refine ⟨fun m σ H' => ∃ n : Nat, m = n ∧ n ≤ xs.length ∧ σ = [some (.ref a), some (.int n)] ∧ Same H H' ∧ H' a = some (.tup xs) ∧ FormsAt H' xs fs ∧ cutF (fs.take n) = cutF fs, ?_, ?_⟩
    · exact ⟨_, xs.length, rfl, Nat.le_refl _, rfl, s1, ha, hF, by rw [lx, List.take_length]⟩
    · rintro m σ H2 ⟨n, rfl, hn, rfl, s2, ha2, hF2, hc⟩
      match m, hn, hc with
      | 0, hn, hc =>
        refine ⟨_, rfl, _, _, rfl, rfl, false, congrArg V.bl (decide_eq_false (by omega)), ?_⟩
        exact ⟨_, rfl, _, rfl, _, rfl, fin 0 H2 hn s2 ha2 hF2 hc rfl⟩
      | n + 1, hn, hc =>
        have hx : xs[n]? = some xs[n] := List.getElem?_eq_getElem (by omega)
        obtain ⟨p, g, e, hg, hp⟩ := hF2.get n _ hx
        have et := take_one hg
        refine ⟨_, rfl, _, _, rfl, rfl, true, congrArg V.bl (decide_eq_true (by omega)), ?_⟩
        have e0 : (((n + 1 : Nat) : Int) - 1) = (n : Int) := by omega
        refine ⟨_, rfl, _, rfl, _, _, rfl, rfl, _, _, _, _, rfl, rfl, SqT.of ha2, (by rw [e0]; exact atI_nat hx), (by show 2 ≤ sizeLine; decide), fun p2 np2 => ?_⟩
        have s3 := same_new (o := .tup [.int 0, .int 0]) np2
        rw [e]
        refine ⟨formD g, zeroD, .tup (SqT.of (s3 _ _ hp)) (.cons (.int _) (.cons (.int _) .nil)), .tup (SqT.of upd_same) (.cons (.int 0) (.cons (.int 0) .nil)), shapedF g, (by decide +kernel), ?_⟩
        by_cases eg : g = (0, 0)
        · refine ⟨true, congrArg V.bl (by rw [formD_eqv, decide_eq_true eg]), ?_⟩
          refine ⟨_, fun _ _ n => n, ?_⟩
          refine ⟨_, rfl, _, _, rfl, rfl, n, (by omega), n, rfl, by omega, congrArg (fun z => [some (V.ref a), some (V.int z)]) e0, s2.trans s3, s3 _ _ ha2, hF2.keep fun q ys z => s3 _ _ z, ?_⟩
          rw [← hc, et, eg, cutF_zero]
        · refine ⟨false, congrArg V.bl (by rw [formD_eqv, decide_eq_false eg]), ?_⟩
          refine ⟨_, rfl, _, rfl, _, rfl, fin (n + 1) _ hn (s2.trans s3) (s3 _ _ ha2) (hF2.keep fun q ys z => s3 _ _ z) hc ?_⟩
          rw [et, cutF_last _ eg]
theorem c_mirrored_pair (T : Txt K mg) (D : DefAt K mg "mirrored_pair" s_mirrored_pair ["pair"]) : CalQ gq P w K mg base 1 "mirrored_pair" ["pair"] spSwap := by
  refine calOkQ D sc_mirrored_pair (fun xs H Q E h => ?_) (fun f cdv A out s H xs Q E hgd hr h => ?_)
  · obtain ⟨p, f, rfl, _⟩ := h
    rfl
  · obtain ⟨p, f, rfl, hp, k⟩ := h
    have nd := sc_mirrored_pair.nd
    refine ⟨_, (pss_one (ps_ret (pe_tup (pa_cons (pe_ix ix_tup (pv 0) pe_int (fun _ _ => rfl)) (pa_cons (pe_ix ix_tup (pv 0) pe_int (fun _ _ => rfl)) pa_nil))))), ?_⟩
    refine ⟨_, rfl, _, _, _, _, rfl, rfl, SqT.of hp, atI_nat (j := 1) rfl, _, rfl, _, _, _, _, rfl, rfl, SqT.of hp, atI_nat (j := 0) rfl, (by show 2 ≤ sizeLine; decide), fun q nq => ?_⟩
    exact k q _ (same_new nq) upd_same
theorem x_check_forms {CR : Addr} (T : Txt K mg) (X_InvalidRow : ErrAt K mg "InvalidRow" CR veL "ValueError.__new__") (C_are_forms : CalQ gq P w K mg base 5 "are_forms" ["value"] (spJ formsB)) (D : DefAt K mg "check_forms" s_check_forms ["forms"]) :
    CalXQ gq P w K mg base 6 "check_forms" ["forms"] (spCheckX formsB CR) := by
  refine calOkXQ D sc_check_forms (fun xs H Q E h => ?_) (fun f cdv A out s H xs Q E hgd hr h => ?_)
  · obtain ⟨x, d, rfl, _⟩ := h
    rfl
  · obtain ⟨x, d, rfl, hx, k1, k2⟩ := h
    have nd := sc_check_forms.nd
    refine ⟨_, (pss_one (ps_if (pt_not (pt_val (pe_kq C_are_forms hgd hr (by decide) rfl (pa_cons (pv 0) pa_nil)))) (pss_one (ps_raise rfl (takes_of rfl rfl rfl rfl) (pmk_own PySem.F.excBase_ValueError X_InvalidRow.exc X_InvalidRow.at_ X_InvalidRow.keep (raises_own X_InvalidRow.base X_InvalidRow.ty) rfl))) pss_nil)), ?_⟩
    refine a_if1 (fun b H' => Same H H' ∧ (b = !formsB d)) (fun Q' kQ => ?_) (fun H' h => ?_) (fun H' h => ?_)
    · exact ⟨_, rfl, _, _, rfl, hx, fun H1 s1 => ⟨_, rfl, kQ _ _ ⟨s1, rfl⟩⟩⟩
    · exact k2 (by simpa using h.2.symm) H' h.1
    · exact k1 (by simpa using h.2.symm) H' h.1
theorem x_trimmed {CR : Addr} (T : Txt K mg) (C_check_forms : CalXQ gq P w K mg base 6 "check_forms" ["forms"] (spCheckX formsB CR)) (C_without_empty_end : CalQ gq P w K mg base 1 "without_empty_end" ["forms"] spTrimmed) (D : DefAt K mg "trimmed" s_trimmed ["forms"]) : CalXQ gq P w K mg base 7 "trimmed" ["forms"] (spTrimX CR) := by
  refine calOkXQ D sc_trimmed (fun xs H Q E h => ?_) (fun f cdv A out s H xs Q E hgd hr h => ?_)
  · obtain ⟨x, d, rfl, _⟩ := h
    rfl
  · obtain ⟨x, d, rfl, hd, k1, k2⟩ := h
    have nd := sc_trimmed.nd
    refine ⟨_, (pss_cons (ps_expr (pe_kxq C_check_forms (takes_of rfl rfl rfl rfl) hgd hr (by decide) rfl (pa_cons (pv 0) pa_nil)))
      (PSs.nox (pss_one (ps_ret (pe_kq C_without_empty_end hgd hr (by decide) rfl (pa_cons (pv 0) pa_nil)))))), ?_⟩
    refine ⟨_, rfl, x, d, rfl, hd, fun hb H1 s1 => ?_, fun hb H1 s1 => k2 hb H1 s1⟩
    refine go_nx ?_
    obtain ⟨fs, rfl, _, _⟩ := formsB_out hb
    exact ⟨_, rfl, x, fs, rfl, (hd.grow s1).rowOf, hb, fun v H2 s2 h2 => k1 fs rfl hb v H2 (s1.trans s2) h2⟩
theorem x_mirrored {CR : Addr} (T : Txt K mg) (C_mirrored_pair : CalQ gq P w K mg base 1 "mirrored_pair" ["pair"] spSwap) (C_check_row : CalXQ gq P w K mg base 7 "check_row" ["row"] (spCheckX rowB CR)) (D : DefAt K mg "mirrored_row" s_mirrored_row ["row"]) : CalXQ gq P w K mg base 8 "mirrored_row" ["row"] (spMirrorX CR) := by
  refine calOkXQ D sc_mirrored_row (fun xs H Q E h => ?_) (fun f cdv A out s H xs Q E hgd hr h => ?_)
  · obtain ⟨x, d, rfl, _⟩ := h
    rfl
  · obtain ⟨x, d, rfl, hd, k1, k2⟩ := h
    have nd := sc_mirrored_row.nd
    refine ⟨_, (pss_cons (ps_expr (pe_kxq C_check_row (takes_of rfl rfl rfl rfl) hgd hr (by decide) rfl (pa_cons (pv 0) pa_nil)))
      (PSs.nox (pss_one (ps_ret (pe_callTy call_tuple_of (by rfl) T.tuple (by decide +kernel) (pa_cons (pe_lc (own := [("form", 1)]) (g := gName 1) (by rfl) nd (pi_tup (pv 0)) (blkOk_by (own := [("form", 1)]) (N := N_mirrored_row) (sc := defScope s_mirrored_row) (by decide +kernel)) (fun _ _ _ _ _ => pg_name (i := 1) nd rfl (.inl rfl)) (fun _ _ _ _ _ => pts_nil) (fun _ _ _ _ _ => pe_kq C_mirrored_pair hgd hr (by decide) rfl (pa_cons (pv 1) pa_nil))) pa_nil)))))), ?_⟩
    refine ⟨_, rfl, x, d, rfl, hd, fun hb H1 s1 => ?_, fun hb H1 s1 => k2 hb H1 s1⟩
    refine go_nx ?_
    obtain ⟨fs, rfl, hl, _, _⟩ := rowB_out hb
    have k := k1 fs rfl hb
    obtain ⟨a, xs, rfl, ha, hF⟩ := (hd.grow s1).rowOf
    have lx := hF.len
    refine ⟨_, rfl, a, rfl, ⟨_, SqT.of ha⟩, fun Dl nD => ?_⟩
    refine lc_tup (K := K) (a := a) (xs := xs) (fun i H' => ∃ ys, Same H1 H' ∧ H' Dl = some (.lst ys) ∧ FormsAt H' ys ((fs.take i).map Prod.swap)) ?_ ?_ ?_ ?_
    · exact ⟨[], same_new nD, upd_same, .nil⟩
    · rintro i H' _ ⟨ys, s2, _, _⟩
      exact SqT.of (s2 _ _ ha)
    · rintro i y H2 hi ⟨ys, s2, hD, hG⟩
      obtain ⟨p, f, rfl, hf, hp⟩ := hF.get i y hi
      have hil : i < xs.length := (List.getElem?_eq_some_iff.mp hi).1
      have ly : ys.length < sizeLine := by
        rw [hG.len, List.length_map, List.length_take]
        exact small1000 (by omega)
      refine ⟨rfl, ?_⟩
      refine ⟨_, rfl, p, f, rfl, s2 _ _ hp, fun q H3 s3 hq => ?_⟩
      refine ⟨ys, s3 _ _ hD, ly, ys ++ [.ref q], Same.put (s2.trans s3) nD, upd_same, ?_⟩
      rw [take_one hf, List.map_append]
      exact ((hG.keep fun p zs z => s3 _ _ z).append (.cons hq .nil)).keep (tups_put (s3 _ _ hD))
    · rintro H2 ⟨ys, s2, hD, hG⟩
      refine ⟨Dl, ys, rfl, .inl ⟨SqL.of hD, fun q nq => ?_⟩⟩
      refine k _ _ ((s1.trans s2).trans (same_new nq)) ⟨q, ys, rfl, upd_same, ?_⟩
      rw [lx, List.take_length] at hG
      exact hG.keep fun p zs z => same_new nq _ _ z
end
def spSums : Sp := fun vs H Q _ => ∃ (k : Int) (x : V) (fs : List (Int × Int)), vs = [.int k, x] ∧ (k = 2 ∨ k = 3) ∧ Dx H x (rowD fs) ∧
  ∀ (p : Addr) (H' : Hp), H p = none → Same H H' → H' p = some (.tup [.int (sideL k fs), .int (sideR k fs)]) → Q (.ref p) H'
def spSidesX (CN CR : Addr) : Sp := fun vs H Q E => ∃ (x y : V) (dx dy : PyData), vs = [x, y] ∧ Dx H x dx ∧ Dx H y dy ∧
  (∀ (n : Int) (fs : List (Int × Int)), dx = .int n → dy = rowD fs → arityB dx = true → rowB dy = true → ∀ (p : Addr) (H' : Hp), H p = none → Same H H' → H' p = some (.tup [.int (sideL n fs), .int (sideR n fs)]) → Q (.ref p) H') ∧
  (arityB dx = false → NumOut CN x H E) ∧ (arityB dx = true → rowB dy = false → ∀ H', Same H H' → E (.ref CR) none H')
def spLengthX (CN CR : Addr) : Sp := fun vs H Q E => ∃ (x y : V) (dx dy : PyData), vs = [x, y] ∧ Dx H x dx ∧ Dx H y dy ∧
  (∀ (n : Int) (fs : List (Int × Int)), dx = .int n → dy = rowD fs → arityB dx = true → rowB dy = true → ∀ H', Same H H' → Q (.int (sideL n fs + sideR n fs)) H') ∧
  (arityB dx = false → NumOut CN x H E) ∧ (arityB dx = true → rowB dy = false → ∀ H', Same H H' → E (.ref CR) none H')
def countB : PyData → Bool
  | .int i => smallB i && decide (0 ≤ i)
  | _ => false
theorem count_int {d : PyData} (h : countB d = true) : intB d = true ∧ ∃ n : Int, d = .int n ∧ 0 ≤ n ∧ n < BIG := by
  cases d with
  | int i =>
    simp only [countB, smallB, Bool.and_eq_true, decide_eq_true_eq] at h
    refine ⟨?_, i, rfl, h.2, h.1.2⟩
    show smallB i = true
    unfold smallB
    rw [decide_eq_true h.1.1, decide_eq_true h.1.2]
    rfl
  | _ => exact Bool.noConfusion h
def spLevelsX (CN : Addr) : Sp := fun vs H Q E => ∃ (x y : V) (dx dy : PyData), vs = [x, y] ∧ Dx H x dx ∧ Dx H y dy ∧
  (∀ c N : Int, dx = .int c → dy = .int N → arityB dx = true → countB dy = true → ∀ (p : Addr) (L M : Nat) (H' : Hp), Same H H' → H' p = some (.tup [.int (L : Int), .int (M : Int)]) → IsLeast c N L → IsMost c N M → Q (.ref p) H') ∧
  (arityB dx = false → NumOut CN x H E) ∧ (arityB dx = true → countB dy = false → NumOut CN y H E)
theorem NumOut.grow {CN : Addr} {x : V} {H H1 : Hp} {E : XK} (s : Same H H1) (h : NumOut CN x H E) : NumOut CN x H1 E := fun H' dd s' n => h H' dd (s.trans s') n
section
variable {gq : Bool} {P : Program} {w : World} {K : PySem.W.Frag} {mg : Str → Option Value} {base : Heap}
theorem c_sums (T : Txt K mg) (D : DefAt K mg "sums_of" s_sums_of ["arity", "row"]) : CalQ gq P w K mg base 1 "sums_of" ["arity", "row"] spSums := by
  refine calOkQ D sc_sums_of (fun xs H Q E h => ?_) (fun f cdv A out s H xs Q E hgd hr h => ?_)
  · obtain ⟨n, x, fs, rfl, _⟩ := h
    rfl
  · obtain ⟨n, x, fs, rfl, hn, hx, k⟩ := h
    have nd := sc_sums_of.nd
    refine ⟨_, (pss_cons (ps_set (i := 2) nd rfl (.inl rfl) pe_int)
      (pss_cons (ps_set (i := 3) nd rfl (.inl rfl) pe_int)
      (pss_cons (ps_for PassesOwn.never rfl (pi_tup (pe_revT (pv 1))) (pg_tup (by rfl) (pgs_cons (pg_name (i := 4) nd rfl (.inl rfl)) (pgs_cons (pg_name (i := 5) nd rfl (.inl rfl)) pgs_nil))) (pss_cons (ps_set (i := 2) nd rfl (.inl rfl) (pe_op op_add (pe_op op_mul (pv 2) (pv 0)) (pv 4)))
        (pss_one (ps_set (i := 3) nd rfl (.inl rfl) (pe_op op_add (pe_op op_mul (pv 3) (pv 0)) (pv 5))))))
      (pss_one (ps_ret (pe_tup (pa_cons (pv 2) (pa_cons (pv 3) pa_nil)))))))), ?_⟩
    have s12 := Same.refl H
    obtain ⟨a, xs, rfl, ha, hF⟩ := (hx.grow s12).rowOf
    refine ⟨_, rfl, a, xs, rfl, SqT.of ha, fun q nq => ?_⟩
    have s3 := same_new (o := .tup xs.reverse) nq
    have hR := hF.reverse
    refine ⟨q, rfl, ⟨_, SqT.of upd_same⟩, ?_⟩
    refine for_tup (K := K) (a := q) (xs := xs.reverse) (fun i σ H' => ∃ v4 v5, σ = [some (.int n), some (.ref a), some (.int ((fs.reverse.take i).foldl (fun a f => a * n + f.1) 0)), some (.int ((fs.reverse.take i).foldl (fun a f => a * n + f.2) 0)), v4, v5] ∧
      Same H H' ∧ H' q = some (.tup xs.reverse) ∧ FormsAt H' xs.reverse fs.reverse) ?_ ?_ ?_ ?_
    · exact ⟨_, _, rfl, s12.trans s3, upd_same, hR.keep fun p zs z => s3 _ _ z⟩
    · rintro i σ H' _ ⟨_, _, _, _, hq, _⟩
      exact SqT.of hq
    · rintro i y σ H' hi ⟨v4, v5, rfl, s4, hq, hF4⟩
      obtain ⟨p, f, rfl, hf, hp⟩ := hF4.get i y hi
      refine ⟨p, [.int f.1, .int f.2], rfl, SqT.of hp, rfl, .int f.1, [.int f.2], rfl, .int f.2, [], rfl, rfl, ?_⟩
      have tk : fs.reverse.take (i + 1) = fs.reverse.take i ++ [f] := by rw [List.take_add_one, hf]; rfl
      have big : CMul ((fs.reverse.take i).foldl (fun a f => a * n + f.1) 0) n := .inr ⟨by omega, by omega⟩
      have big2 : CMul ((fs.reverse.take i).foldl (fun a f => a * n + f.2) 0) n := .inr ⟨by omega, by omega⟩
      refine ⟨_, rfl, _, rfl, _, _, rfl, rfl, big, _, rfl, _, _, rfl, rfl, ?_⟩
      refine ⟨_, rfl, _, rfl, _, _, rfl, rfl, big2, _, rfl, _, _, rfl, rfl, ?_⟩
      refine ⟨some (.int f.1), some (.int f.2), ?_, s4, hq, hF4⟩
      rw [tk, List.foldl_append, List.foldl_append]
      rfl
    · rintro σ H' ⟨v4, v5, rfl, s4, hq, hF4⟩
      refine ⟨_, rfl, _, rfl, (by show 2 ≤ sizeLine; decide), fun p np => ?_⟩
      refine k p _ (s4.free np) (s4.trans (same_new np)) ?_
      rw [upd_same]
      have full : fs.reverse.take xs.reverse.length = fs.reverse := by
        rw [hF4.len]
        exact List.take_length
      rw [full, List.foldl_reverse, List.foldl_reverse]
      rfl
theorem x_sides {CN CR : Addr} (T : Txt K mg) (C_check_arity : CalXQ gq P w K mg base 3 "check_arity" ["arity"] (spArityX CN)) (C_check_row : CalXQ gq P w K mg base 7 "check_row" ["row"] (spCheckX rowB CR)) (C_sums_of : CalQ gq P w K mg base 1 "sums_of" ["arity", "row"] spSums)
    (D : DefAt K mg "sides_of" s_sides_of ["arity", "row"]) : CalXQ gq P w K mg base 8 "sides_of" ["arity", "row"] (spSidesX CN CR) := by
  refine calOkXQ D sc_sides_of (fun xs H Q E h => ?_) (fun f cdv A out s H xs Q E hgd hr h => ?_)
  · obtain ⟨x, y, dx, dy, rfl, _⟩ := h
    rfl
  · obtain ⟨x, y, dx, dy, rfl, hx, hy, k1, k2, k3⟩ := h
    have nd := sc_sides_of.nd
    refine ⟨_, (pss_cons (ps_expr (pe_kxq C_check_arity (takes_of rfl rfl rfl rfl) hgd hr (by decide) rfl (pa_cons (pv 0) pa_nil)))
      (pss_cons (ps_expr (pe_kxq C_check_row (takes_of rfl rfl rfl rfl) hgd hr (by decide) rfl (pa_cons (pv 1) pa_nil)))
      (PSs.nox (pss_one (ps_ret (pe_kq C_sums_of hgd hr (by decide) rfl (pa_cons (pv 0) (pa_cons (pv 1) pa_nil)))))))), ?_⟩
    refine ⟨_, rfl, x, dx, rfl, hx, fun hb1 H1 s1 => ?_, k2⟩
    refine go_nx ?_
    obtain ⟨_, n, rfl, hn⟩ := arity_int hb1
    cases hx
    refine ⟨_, rfl, y, dy, rfl, hy.grow s1, fun hb2 H2 s2 => ?_, fun hb2 H' s => k3 hb1 hb2 H' (s1.trans s)⟩
    refine go_nx ?_
    obtain ⟨fs, rfl, _, _, _⟩ := rowB_out hb2
    have k := k1 n fs rfl rfl hb1 hb2
    have s12 := s1.trans s2
    exact ⟨_, rfl, _, rfl, n, y, fs, rfl, hn, hy.grow s12, fun p H' np s hp => k p H' (s12.free np) (s12.trans s) hp⟩
theorem x_length {CN CR : Addr} (T : Txt K mg) (C_sides_of : CalXQ gq P w K mg base 8 "sides_of" ["arity", "row"] (spSidesX CN CR)) (D : DefAt K mg "length_of" s_length_of ["arity", "row"]) :
    CalXQ gq P w K mg base 9 "length_of" ["arity", "row"] (spLengthX CN CR) := by
  refine calOkXQ D sc_length_of (fun xs H Q E h => ?_) (fun f cdv A out s H xs Q E hgd hr h => ?_)
  · obtain ⟨x, y, dx, dy, rfl, _⟩ := h
    rfl
  · obtain ⟨x, y, dx, dy, rfl, hx, hy, k1, k2, k3⟩ := h
    have nd := sc_length_of.nd
    refine ⟨_, (pss_cons (ps_asg (pe_kxq C_sides_of (takes_of rfl rfl rfl rfl) hgd hr (by decide) rfl (pa_cons (pv 0) (pa_cons (pv 1) pa_nil))) (pg_tup (by rfl) (pgs_cons (pg_name (i := 2) nd rfl (.inl rfl)) (pgs_cons (pg_name (i := 3) nd rfl (.inl rfl)) pgs_nil))))
      (PSs.nox (pss_one (ps_ret (pe_op op_add (pv 2) (pv 3)))))), ?_⟩
    refine ⟨_, rfl, _, rfl, x, y, dx, dy, rfl, hx, hy, fun n fs e1 e2 b1 b2 p H1 np s1 hp => ?_, k2, k3⟩
    refine ⟨p, [.int (sideL n fs), .int (sideR n fs)], rfl, SqT.of hp, rfl, .int (sideL n fs), [.int (sideR n fs)], rfl, .int (sideR n fs), [], rfl, rfl, ?_⟩
    refine ⟨_, rfl, _, rfl, _, _, rfl, rfl, ?_⟩
    exact k1 n fs e1 e2 b1 b2 H1 s1
theorem c_countJ (T : Txt K mg) (C_is_integer : CalQ gq P w K mg base 1 "is_integer" ["value"] (spJ intB)) (D : DefAt K mg "is_count" s_is_count ["value"]) : CalQ gq P w K mg base 2 "is_count" ["value"] (spJ countB) := by
  refine calOkQ D sc_is_count (fun xs H Q E h => ?_) (fun f cdv A out s H xs Q E hgd hr h => ?_)
  · obtain ⟨x, d, rfl, _⟩ := h
    rfl
  · obtain ⟨x, d, rfl, hx, k⟩ := h
    have nd := sc_is_count.nd
    refine ⟨_, (pss_one (ps_ret (pe_and (pe_kq C_is_integer hgd hr (by decide) rfl (pa_cons (pv 0) pa_nil)) (pe_one (pe_cmpR op_ge (pv 0) pe_int (nomark _)))))), ?_⟩
    refine ⟨_, rfl, _, _, rfl, hx, fun H1 s1 => ⟨_, rfl, ite2 (fun h1 => ?_) (fun h1 => ?_)⟩⟩
    · have k' := k H1 s1
      cases d with
      | int i =>
        cases hx
        refine ⟨_, rfl, _, _, rfl, rfl, ?_⟩
        have e : countB (.int i) = decide (0 ≤ i) := by
          show (smallB i && decide (0 ≤ i)) = _
          rw [show smallB i = true from h1, Bool.true_and]
        rw [e] at k'
        exact k'
      | _ => exact Bool.noConfusion h1
    · have k' := k H1 s1
      have e : countB d = false := by
        cases z : countB d with
        | false => rfl
        | true => exact absurd (count_int z).1 h1
      rw [e] at k'
      exact k'
theorem x_levels {CN fI : Addr} (T : Txt K mg) (O_InvalidNumber : OwnInvalidNumber.Txt K mg CN fI) (C_check_arity : CalXQ gq P w K mg base 3 "check_arity" ["arity"] (spArityX CN)) (C_is_count : CalQ gq P w K mg base 2 "is_count" ["value"] (spJ countB))
    (C__least_levels : CalQ gq P w K mg base 1 "_least_levels" ["arity", "length"] spLeast) (C__greatest_levels : CalQ gq P w K mg base 1 "_greatest_levels" ["arity", "length"] spMost)
    (D : DefAt K mg "levels_for" s_levels_for ["arity", "length"]) : CalXQ gq P w K mg base 4 "levels_for" ["arity", "length"] (spLevelsX CN) := by
  refine calOkXQ D sc_levels_for (fun xs H Q E h => ?_) (fun f cdv A out s H xs Q E hgd hr h => ?_)
  · obtain ⟨x, y, dx, dy, rfl, _⟩ := h
    rfl
  · obtain ⟨x, y, dx, dy, rfl, hx, hy, k1, k2, k3⟩ := h
    have nd := sc_levels_for.nd
    refine ⟨_, (pss_cons (ps_expr (pe_kxq C_check_arity (takes_of rfl rfl rfl rfl) hgd hr (by decide) rfl (pa_cons (pv 0) pa_nil)))
      (pss_cons (ps_if (pt_not (pt_val (pe_kq C_is_count hgd hr (by decide) rfl (pa_cons (pv 1) pa_nil)))) (pss_one (ps_raise rfl (takes_of rfl rfl rfl rfl) (OwnInvalidNumber.pmk O_InvalidNumber hr rfl (pa_cons (pv 1) pa_nil)))) pss_nil)
      (PSs.nox (pss_one (ps_ret (pe_tup (pa_cons (pe_kq C__least_levels hgd hr (by decide) rfl (pa_cons (pv 0) (pa_cons (pv 1) pa_nil))) (pa_cons (pe_kq C__greatest_levels hgd hr (by decide) rfl (pa_cons (pv 0) (pa_cons (pv 1) pa_nil))) pa_nil)))))))), ?_⟩
    refine ⟨_, rfl, x, dx, rfl, hx, fun hb1 H1 s1 => ?_, k2⟩
    refine go_nx ?_
    obtain ⟨_, c, rfl, hc⟩ := arity_int hb1
    cases hx
    refine a_if (fun b H' => Same H1 H' ∧ b = !countB dy) (fun Q' kQ => ?_) (fun H' h => ?_) (fun H2 h2 => ?_)
    · exact ⟨_, rfl, _, _, rfl, hy.grow s1, fun H2 s2 => ⟨_, rfl, kQ _ _ ⟨s2, rfl⟩⟩⟩
    · exact ⟨_, rfl, _, rfl, fun dd hdd => k3 hb1 (by simpa using h.2.symm) H' dd (s1.trans h.1) hdd⟩
    refine go_nx ?_
    have hb2 : countB dy = true := by simpa using h2.2.symm
    obtain ⟨_, N, rfl, h0, hN⟩ := count_int hb2
    cases hy
    refine ⟨_, rfl, _, rfl, c, N, rfl, hc, h0, hN, fun L hL => ?_⟩
    refine ⟨_, rfl, _, rfl, c, N, rfl, hc, h0, hN, fun M hM => ?_⟩
    refine ⟨(by show 2 ≤ sizeLine; decide), fun p np => ?_⟩
    exact k1 c N rfl rfl hb1 hb2 p L M _ ((s1.trans h2.1).trans (same_new np)) upd_same hL hM
end
section
variable {gq : Bool} {P : Program} {w : World} {K : PySem.W.Frag} {mg : Str → Option Value} {base : Heap}
/-- what is no right argument is refused; nothing is said of right ones -/
def spBadX (B : PyData → Bool) (C : Addr) : Sp := fun vs H Q E => ∃ (x : V) (d : PyData), vs = [x] ∧ Dx H x d ∧ B d = false ∧ ∀ H', Same H H' → E (.ref C) none H'
theorem x_write_row {CR : Addr} (T : Txt K mg) (C_check_row : CalXQ gq P w K mg base 7 "check_row" ["row"] (spCheckX rowB CR)) (D : DefAt K mg "write_row" s_write_row ["row"]) :
    CalXQ gq P w K mg base 8 "write_row" ["row"] (spBadX rowB CR) := by
  refine calOkXQ D sc_write_row (fun xs H Q E h => ?_) (fun f cdv A out s H xs Q E hgd hr h => ?_)
  · obtain ⟨x, d, rfl, _⟩ := h
    rfl
  · obtain ⟨x, d, rfl, hx, hb, k⟩ := h
    refine ⟨_, pss_cons (ps_expr (pe_kxq C_check_row (takes_of rfl rfl rfl rfl) hgd hr (by decide) rfl (pa_cons (pv 0) pa_nil))) (pss_cons ps_never (pss_one ps_never)), ?_⟩
    exact ⟨_, rfl, x, d, rfl, hx, fun z => (Bool.noConfusion (hb.symm.trans z) : ∀ H', Same H H' → _), fun _ H' s => k H' s⟩
theorem x_write_pair {CF : Addr} (T : Txt K mg) (X_InvalidForm : ErrAt K mg "InvalidForm" CF veL "ValueError.__new__") (C_is_pair : CalQ gq P w K mg base 2 "is_pair" ["value"] (spJ pairB)) (D : DefAt K mg "write_pair" s_write_pair ["pair"]) :
    CalXQ gq P w K mg base 3 "write_pair" ["pair"] (spBadX pairB CF) := by
  refine calOkXQ D sc_write_pair (fun xs H Q E h => ?_) (fun f cdv A out s H xs Q E hgd hr h => ?_)
  · obtain ⟨x, d, rfl, _⟩ := h
    rfl
  · obtain ⟨x, d, rfl, hx, hb, k⟩ := h
    refine ⟨_, pss_cons (ps_if (pt_not (pt_val (pe_kq C_is_pair hgd hr (by decide) rfl (pa_cons (pv 0) pa_nil)))) (pss_one (ps_raise rfl (takes_of rfl rfl rfl rfl) (pmk_own PySem.F.excBase_ValueError X_InvalidForm.exc X_InvalidForm.at_ X_InvalidForm.keep (raises_own X_InvalidForm.base X_InvalidForm.ty) rfl))) pss_nil) (pss_one ps_never), ?_⟩
    refine a_if (fun b H' => b = true ∧ Same H H') (fun Q' kQ => ?_) (fun H' h => k H' h.2) (fun H' h => nomatch h.1)
    exact ⟨_, rfl, _, _, rfl, hx, fun H1 s1 => ⟨false, congrArg V.bl hb, kQ _ _ ⟨rfl, s1⟩⟩⟩
end
/-! ## the law's `_law_met` -/
def TTmet (K : PySem.W.Frag) (CF CR CN : Addr) : (XK → Hp → VK → Prop) → Hp → VK → Prop := fun tl H Q =>
  tl (fun cls d H' => (cls = .ref CF ∧ Q (.str "form") H') ∨ (cls = .ref CR ∧ Q (.str "row") H') ∨
    (cls = .ref CN ∧ ∃ (dd : Addr) (x : V) (dat : PyData), d = some dd ∧ H' dd = some (.xd [(("value" : Str), x)]) ∧ Dx H' x dat ∧ ShwX dat ∧ Str.length ("number " : Str) + dat.shown.length ≤ sizeLine ∧ Q (.str ("number " ++ dat.shown)) H')) H (fun _ H' => Q (.str "") H')
structure MetTxt (K : PySem.W.Frag) (mg : Str → Option Value) (CF CR CN : Addr) : Prop where
  gF : mg "InvalidForm" = some (.ref CF)
  gR : mg "InvalidRow" = some (.ref CR)
  gN : mg "InvalidNumber" = some (.ref CN)
  ff : PySem.W.exmOne K (.ref CF) (.ref CF) = some true
  rf : PySem.W.exmOne K (.ref CR) (.ref CF) = some false
  rr : PySem.W.exmOne K (.ref CR) (.ref CR) = some true
  nf : PySem.W.exmOne K (.ref CN) (.ref CF) = some false
  nr : PySem.W.exmOne K (.ref CN) (.ref CR) = some false
  nn : PySem.W.exmOne K (.ref CN) (.ref CN) = some true
section
variable {X : Cx}
theorem met_gives {CF CR CN fI g : Addr} {cdg : Value} {q : Str} (T : Txt X.K X.mg) (M : MetTxt X.K X.mg CF CR CN) (O : OwnInvalidNumber.Txt X.K X.mg CN fI) (hgd : X.A.guards = some []) (hu : X.A.units + 3 + 64 < cLine) :
    LamX.GivesTo X N__law_met "_law_met" (defScope s__law_met) g cdg (defBody s__law_met) "_law_call" q (TTmet X.K CF CR CN) := by
  intro f c' s H Q tl act hc h
  have nd := sc__law_met.nd
  refine ⟨_, pss_cons (ps_mix (X := (cxOf C8.CX0 X.prog X.w X.K X.mg X.base N__law_met "_law_met" (defScope s__law_met) g cdg X.A X.stack s H C8.E0).nox)
      (tb := fun W D σ H => ∃ Ech : XK, (∀ cls d σ' H', Ech cls d H' → W cls d σ' H') ∧ σ[0]? = some (some (.ref f)) ∧ H c' = some (LamX.CodeO c' q) ∧ tl Ech H (fun _ H' => D.nx σ H'))
      rfl rfl LamX.takes0 (fun W pn xe tk _ => ?_)
      (.plain ⟨rfl, by decide, .inl M.gF⟩ (fun a oe cls d pn _ _ _ => pss_one (ps_ret pe_str))
        (.plain ⟨rfl, by decide, .inl M.gR⟩ (fun a oe cls d pn _ _ _ => pss_one (ps_ret pe_str))
          (.named (i := 1) ⟨rfl, by decide, .inl M.gN⟩ nd rfl rfl (fun a oe cls d pn hz hf _ => pss_one (ps_ret (pe_op op_add_str pe_str (pe_callB (show CallR _ (.builtin "repr") rReprX from call_reprX (by exact hgd) (by exact hu)) (by rfl) T.repr (by decide +kernel) (pa_cons (OwnInvalidNumber.pe_fld O hz hf (pv 1)) pa_nil))))) .nil))))
    (pss_one (ps_ret pe_str)), ?_⟩
  · refine ⟨fun pins s' σ H' D I h' => ?_⟩
    obtain ⟨Ech, hW, h1, h2, h3⟩ := h'
    exact (pss_one (ps_expr (act W pn xe Ech _ _ tk hW))).run pins s' σ H' D I ⟨h1, h2, h3⟩
  · refine ⟨_, fun cls d σ' H' hE => ?_, rfl, hc, h⟩
    rcases hE with ⟨rfl, k⟩ | ⟨rfl, k⟩ | ⟨rfl, dd, x, dat, rfl, hdd, hx, hw, hz, k⟩
    · exact ⟨true, M.ff, fun _ a _ => k, fun z => Bool.noConfusion z⟩
    · exact ⟨false, M.rf, (fun z => Bool.noConfusion z), fun _ => ⟨true, M.rr, fun _ a _ => k, fun z => Bool.noConfusion z⟩⟩
    · refine ⟨false, M.nf, (fun z => Bool.noConfusion z), fun _ => ⟨false, M.nr, (fun z => Bool.noConfusion z), fun _ => ⟨true, M.nn, fun _ a _ (len : 1 < σ'.length) => ?_, fun z => Bool.noConfusion z⟩⟩⟩
      exact ⟨.ref a, by rw [List.getElem?_set_self len], rfl, rfl, dd, x, rfl, hdd, x, dat, rfl, hx, hw, _, _, rfl, rfl, hz, k⟩
end

end G

set_option Elab.async false
set_option linter.all false
set_option maxRecDepth 100000
set_option maxHeartbeats 4000000
namespace G
open PySem PySem.Spec PyProof.Rows L2
section
variable {te : TE} {rest : TS} {D : Ends} {σ : L2.St} {H : Hp}
theorem a_expr (R : Hp → Prop) (h : ∀ Q' : VK, (∀ v H', R H' → Q' v H') → te σ H Q') (k : ∀ H', R H' → rest D σ H') : tSeq (tDrop te) rest D σ H := h _ fun v H' r => k H' r
end
section
variable {X : Cx}
theorem pe_met {CF CR CN fI c P : Addr} {T : List (Addr × Str)} {k : Nat} {params : Arguments} {body : Expr} {scope : Scope} {t : XK → TE} {p lpos pos : Pos}
    (TX : Txt X.K X.mg) (M : MetTxt X.K X.mg CF CR CN) (O : OwnInvalidNumber.Txt X.K X.mg CN fI) (D : DefAt X.K X.mg "_law_met" s__law_met ["_law_call"])
    (hgd : X.A.guards = some []) (hg : Gl X "_law_met")
    (TB : LamX.TabB X.base X.mg c P) (hcode : X.env.code = .ref c) (hmT : (P, X.env.qual ++ "<lambda>") ∈ T) (hu : ∀ p ∈ T, p.1 = P → p.2 = X.env.qual ++ "<lambda>") (hr : Room (k + 2) X.A) (L : LamX.LamS X.env.scope scope) (hdef : defaultsOf params X.env = ([], []))
    (hbind : ∀ (q : Str) (cl : List (Str × Addr)) (pm cv ctv : Value), bindArgs (PySem.W.kla_fn "<lambda>" q params body scope cl pm cv ctv) ⟨[], []⟩ = pure [])
    (hbody : ∀ (A : Around) (outer : List Env) (s : Shared) (H : Hp) (E : XK) (f c' : Addr), Room k (A.deeper (LamX.lamEnv X scope s.heap.objs.size f c')) → PE (LamX.lamCx X A outer s H E scope f c') body (t E)) :
    PE X (.Call (.Name "_law_met" p) [.Lambda params body scope lpos] [] pos) (LamX.tLam T (TTmet X.K CF CR CN) t) := by
  obtain ⟨f, fd, F, m, b⟩ := D.ex
  obtain ⟨oc, od, kV, doc, pm, an, cdv, ct, osl, rfl, lk, hcd⟩ := F.ex
  exact LamX.pe_lamcall hg m F.kp lk hcd (Binds.all b) sc__law_met rfl (.inl rfl) (met_gives TX M O hgd (by have := hr.un; omega)) TB hcode hmT hu hr L hdef hbind hbody
end

def AR : List PyData := [.int 2, .int 2, .int 3, .int 3, .int 1, .int 4, .int 0, .int (0 - 2), .none, .bool true, .str "2", .tuple [.int 2], .list [], .dict []]

def ODD : List PyData := [.none, .int 0, .str "1.0", .list [.tuple [.int 1, .int 0]], .tuple [.tuple [.int 8, .int 0]], .tuple [.tuple [.int 0, .int (0 - 1)]], .tuple [.tuple [.int 1, .int 0], .tuple [.int 0, .int 0]], .tuple [.int 1, .int 0], .tuple [.tuple [.int 1, .int 0], .none], .dict []]

def MORE : List PyData := [.tuple [.tuple [.bool true, .int 1]], .tuple (List.replicate (Int.toNat 201) [.tuple [.int 1, .int 0]]).flatten, .tuple [.tuple [.int 1]], .str "-", .tuple [.tuple [.int 1, .int 0, .int 0]], .list [.tuple []]]

def LEN : List PyData := [.int 0, .int 5, .int ((10 ^ Int.toNat 60) - 1), .int (10 ^ Int.toNat 60), .int (0 - 1), .none, .bool true, .str "1", .tuple [.int 1], .list []]

def PAIR : List PyData := [.none, .int 0, .str "1.0", .tuple [.int 1], .tuple [.int 1, .int 2, .int 3], .list [.int 1, .int 2], .tuple [.int 1, .none], .tuple [.bool true, .int 0], .tuple [.int (10 ^ Int.toNat 60), .int 0], .dict [], .tuple []]

def TODD : List PyData := [.none, .int 0, .str "1.0", .list [.tuple [.int 1, .int 0]], .tuple [.tuple [.int 8, .int 0]], .tuple [.tuple [.int 1, .int 0], .none], .dict [], .tuple (List.replicate (Int.toNat 201) [.tuple [.int 0, .int 0]]).flatten, .tuple [.tuple [.int 1, .int 0], .tuple [.int 0, .int (0 - 1)]]]

def TMORE : List PyData := [.tuple [.int 1, .int 0], .tuple [.tuple [.int 1]]]

def wrongS (d : PyData) : Str := if arityB d = true then ("" : Str) else ("number " : Str) ++ d.shown
def letS (d : PyData) : Str := if countB d = true then ("" : Str) else ("number " : Str) ++ d.shown
theorem ar_facts : ∀ d ∈ AR, ShwX d ∧ ((d.hasDict = false ∧ SeqAt.shaped d = true) ∨ d = .dict []) ∧ ([.int 2, .int 3] : List PyData).any (fun z => PyData.eqv z d) = arityB d ∧ Str.length ("number " : Str) + d.shown.length ≤ sizeLine ∧ PyData.strOk (wrongS d) = true := by
  intro d h
  unfold AR at h
  simp only [List.mem_cons, List.not_mem_nil, or_false] at h
  rcases h with rfl | rfl | rfl | rfl | rfl | rfl | rfl | rfl | rfl | rfl | rfl | rfl | rfl | rfl
  all_goals first
    | exact ⟨.inr rfl, .inr rfl, by decide +kernel, by decide +kernel, by decide +kernel⟩
    | exact ⟨.inl (shw (by decide +kernel) (by decide +kernel) (by decide +kernel)), .inl ⟨by decide +kernel, by decide +kernel⟩, by decide +kernel, by decide +kernel, by decide +kernel⟩
theorem len_facts : ∀ d ∈ LEN, ShwX d ∧ Str.length ("number " : Str) + d.shown.length ≤ sizeLine ∧ PyData.strOk (letS d) = true := by
  intro d h
  unfold LEN at h
  simp only [List.mem_cons, List.not_mem_nil, or_false] at h
  rcases h with rfl | rfl | rfl | rfl | rfl | rfl | rfl | rfl | rfl | rfl
  all_goals exact ⟨.inl (shw (by decide +kernel) (by decide +kernel) (by decide +kernel)), by decide +kernel, by decide +kernel⟩
theorem rows_wrong : ∀ d ∈ ODD ++ MORE, rowB d = false := by
  have q : (ODD ++ MORE).all (fun d => !rowB d) = true := by decide +kernel
  intro d h
  simpa using List.all_eq_true.mp q d h
theorem pairs_wrong : ∀ d ∈ PAIR, pairB d = false := by
  have q : PAIR.all (fun d => !pairB d) = true := by decide +kernel
  intro d h
  simpa using List.all_eq_true.mp q d h
theorem forms_wrong : ∀ d ∈ TODD ++ TMORE, formsB d = false := by
  have q : (TODD ++ TMORE).all (fun d => !formsB d) = true := by decide +kernel
  intro d h
  simpa using List.all_eq_true.mp q d h
theorem number_ne (x : Str) : ("number " : Str) ++ x ≠ "" := fun e => by
  have q := congrArg Str.length e
  rw [Str.length_append] at q
  have q1 : Str.length ("number " : Str) = 7 := by decide +kernel
  have q2 : Str.length ("" : Str) = 0 := by decide +kernel
  omega
theorem first_right {d : PyData} (h : arityB d = true) (x : Str) : firstW [wrongS d, x] = x := by
  have e : wrongS d = "" := if_pos h
  rw [e]
  unfold firstW
  by_cases q : x = ("" : Str)
  · simp [q]
  · simp [q]
theorem first_wrong {d : PyData} (h : arityB d = false) (x : Str) : firstW [wrongS d, x] = ("number " : Str) ++ d.shown := by
  have e : wrongS d = ("number " : Str) ++ d.shown := if_neg (by rw [h]; exact Bool.false_ne_true)
  rw [e]
  unfold firstW
  simp [number_ne]
theorem first_ok {ws : List Str} (h : ∀ w ∈ ws, PyData.strOk w = true) : PyData.strOk (firstW ws) = true := by
  unfold firstW
  cases q : ws.filter fun w => !decide (w = ("" : Str)) with
  | nil => decide +kernel
  | cons x r =>
    have : x ∈ ws.filter fun w => !decide (w = ("" : Str)) := by rw [q]; exact List.mem_cons_self
    exact h x (List.mem_filter.mp this).1
section
variable {P : Program} {w : World} {K : PySem.W.Frag} {mg : Str → Option Value} {base : Heap}
theorem c_first (T : Txt K mg) (D : DefAt K mg "_law_first" s__law_first ["_law_words"]) : CalG P w K mg base 1 "_law_first" ["_law_words"] spFirst := by
  refine calOk D sc__law_first (fun xs H Q E h => ?_) (fun f cdv A out s H xs Q E hgd hr h => ?_)
  · obtain ⟨a, ws, rfl, _⟩ := h
    rfl
  · obtain ⟨a, ws, rfl, ha, hl, hok, k⟩ := h
    have nd := sc__law_first.nd
    refine ⟨_, (pss_cons (ps_setLc (i := 1) (own := [("_law_word", 2)]) (g := gName 2) (by rfl) nd rfl rfl (sw_true rfl rfl rfl (by decide +kernel)) (pi_list (pv 0)) (blkOk_by (own := [("_law_word", 2)]) (N := N__law_first) (sc := defScope s__law_first) (by decide +kernel)) (fun _ _ _ _ _ => pg_name (i := 2) nd rfl (.inl rfl)) (fun _ _ _ _ _ => pts_one (pt_cmpR op_ne (pv 2) pe_str (nomark _))) (fun _ _ _ _ _ => pv 2))
      (pss_one (ps_ret (pe_ifExp (pt_cmpR (op_neD hr.units) (pv 1) (pe_lst pa_nil) (nomark _)) (pe_ix ix_list (pv 1) pe_int (fun _ _ => rfl)) pe_str)))), ?_⟩
    refine ⟨_, rfl, a, rfl, ⟨_, SqL.of ha⟩, fun Dl nD => ?_⟩
    refine lc_list (K := K) (a := a) (xs := ws.map V.str) (fun i H' => Same H H' ∧ H' Dl = some (.lst (((ws.take i).filter fun w => !decide (w = ("" : Str))).map V.str))) ?_ ?_ ?_ ?_
    · exact ⟨same_new nD, upd_same⟩
    · rintro i H' _ ⟨s2, _⟩
      exact SqL.of (s2 _ _ ha)
    · rintro i y H2 hi ⟨s2, hD⟩
      rw [List.getElem?_map] at hi
      obtain ⟨z, hz, rfl⟩ := Option.map_eq_some_iff.mp hi
      have et : ws.take (i + 1) = ws.take i ++ [z] := by rw [List.take_add_one, hz]; rfl
      refine ⟨rfl, _, rfl, rfl, _, rfl, ?_⟩
      have ed : (!decide (V.str z = V.str "")) = !decide (z = ("" : Str)) := by
        congr 1
        exact decide_eq_decide.mpr ⟨fun e => by injection e, fun e => by rw [e]⟩
      rw [ed, et, List.filter_append]
      by_cases q : z = ("" : Str)
      · rw [show (!decide (z = ("" : Str))) = false by rw [decide_eq_true q]; rfl]
        refine iteF ?_
        rw [show [z].filter (fun w => !decide (w = ("" : Str))) = [] by simp [q], List.append_nil]
        exact ⟨s2, hD⟩
      · rw [show (!decide (z = ("" : Str))) = true by rw [decide_eq_false q]; rfl]
        refine iteT ⟨_, rfl, _, hD, ?_, Same.put s2 nD, ?_⟩
        · rw [List.length_map]
          exact small1000 (Nat.le_trans (List.length_filter_le ..) (by rw [List.length_take]; omega))
        · rw [upd_same, show [z].filter (fun w => !decide (w = ("" : Str))) = [z] by simp [q], List.map_append]
          rfl
    · rintro H2 ⟨s2, hD⟩
      rw [List.length_map, List.take_length] at hD
      have lf : (ws.filter fun w => !decide (w = ("" : Str))).length ≤ 100 := Nat.le_trans (List.length_filter_le ..) hl
      refine go_nm ?_
      refine a_ret (fun v H' => v = .str (firstW ws) ∧ Same H H') (fun Q' kQ => ?_) (fun v H' e => by rw [e.1]; exact k H' e.2)
      have hok' : ∀ w ∈ ws.filter fun w => !decide (w = ("" : Str)), PyData.strOk w = true := fun w hw => hok w (List.mem_filter.mp hw).1
      refine ⟨_, rfl, (by show 0 ≤ sizeLine; decide), fun q nq => ?_⟩
      have s3 := same_new (o := .lst []) nq
      refine ⟨_, _, strsX _ (s3 _ _ hD) K, strsX [] upd_same K, shaped_strs _ hok', shaped_strs [] (fun _ z => nomatch z), ?_⟩
      have ef : firstW ws = (ws.filter fun w => !decide (w = ("" : Str))).headD ("" : Str) := rfl
      cases hf : ws.filter fun w => !decide (w = ("" : Str)) with
      | nil =>
        refine ⟨false, congrArg V.bl (by decide +kernel), iteF ?_⟩
        refine kQ _ _ ⟨?_, s2.trans s3⟩
        rw [ef, hf]
        rfl
      | cons z r =>
        refine ⟨true, congrArg V.bl (by simp [PyData.eqv, PyData.eqvAll]), iteT ?_⟩
        rw [hf] at hD
        refine ⟨_, rfl, _, _, _, _, rfl, rfl, SqL.of (s3 _ _ hD), atI_nat (j := 0) rfl, kQ _ _ ⟨?_, s2.trans s3⟩⟩
        rw [ef, hf]
        rfl

/-- qualified names of the lambdas of the two defs -/
def tabsT (PR PT : Addr) : List (Addr × Str) := [(PR, (envOfC "_law_right" (defScope s__law_right) 0 0 .none).qual ++ "<lambda>"), (PT, (envOfC "_law_trims_right" (defScope s__law_trims_right) 0 0 .none).qual ++ "<lambda>")]
def spTrueT (T : List (Addr × Str)) : Sp := fun vs H Q _ => ∃ d : Addr, vs = [.ref d] ∧ DiceAt H d ∧ LamX.Tabs T H ∧ ∀ H', MvT T d H H' → Q (.bl true) H'
theorem c_right {CF CR CN fI cR PR PT : Addr} (T : Txt K mg) (hne : PR ≠ PT) (M : MetTxt K mg CF CR CN) (O : OwnInvalidNumber.Txt K mg CN fI) (TB : LamX.TabB base mg cR PR)
    (C__law_pick : CalG P w K mg base 2 "_law_pick" ["_law_dice_here", "_law_items"] (spPick K)) (C__law_first : CalG P w K mg base 1 "_law_first" ["_law_words"] spFirst)
    (C_length_of : CalXQ false P w K mg base 9 "length_of" ["arity", "row"] (spLengthX CN CR)) (C_sides_of : CalXQ false P w K mg base 8 "sides_of" ["arity", "row"] (spSidesX CN CR))
    (C_levels_for : CalXQ false P w K mg base 4 "levels_for" ["arity", "length"] (spLevelsX CN)) (C_write_row : CalXQ false P w K mg base 8 "write_row" ["row"] (spBadX rowB CR))
    (C_mirrored_row : CalXQ false P w K mg base 8 "mirrored_row" ["row"] (spMirrorX CR)) (C_write_pair : CalXQ false P w K mg base 3 "write_pair" ["pair"] (spBadX pairB CF))
    (D_law_met : DefAt K mg "_law_met" s__law_met ["_law_call"]) (D : DefAtC K mg "_law_right" s__law_right ["_law_dice_here"] cR) :
    CalG P w K mg base 12 "_law_right" ["_law_dice_here"] (spTrueT (tabsT PR PT)) := by
  refine calOkC D sc__law_right (fun xs H Q E h => ?_) (fun f A out s H xs Q E hgd hr h => ?_)
  · obtain ⟨d, rfl, _⟩ := h
    rfl
  · obtain ⟨d, rfl, hd, ht, k⟩ := h
    have nd := sc__law_right.nd
    have hmT : (PR, (envOfC "_law_right" (defScope s__law_right) 0 0 .none).qual ++ "<lambda>") ∈ tabsT PR PT := List.mem_cons_self
    have huT : ∀ p ∈ tabsT PR PT, p.1 = PR → p.2 = (envOfC "_law_right" (defScope s__law_right) 0 0 .none).qual ++ "<lambda>" := fun p hp e => by
      rcases List.mem_cons.mp hp with z | z
      · rw [z]
      · rw [List.mem_singleton.mp z] at e
        exact absurd e.symm hne
    refine ⟨_, (pss_cons (ps_set (i := 6) nd rfl (.inr rfl) (pe_k C__law_pick hgd hr (by decide) rfl (pa_cons (pv 0) (pa_cons (pe_lst (pa_cons pe_int (pa_cons pe_int (pa_cons pe_int (pa_cons pe_int (pa_cons pe_int (pa_cons pe_int (pa_cons pe_int (pa_cons (pe_op op_sub pe_int pe_int) (pa_cons pe_non (pa_cons pe_bl (pa_cons pe_str (pa_cons (pe_tup (pa_cons pe_int pa_nil)) (pa_cons (pe_lst pa_nil) (pa_cons pe_dnewK pa_nil))))))))))))))) pa_nil))))
      (pss_cons (ps_set (i := 1) nd rfl (.inl rfl) (pe_lst (pa_cons pe_non (pa_cons pe_int (pa_cons pe_str (pa_cons (pe_lst (pa_cons (pe_tup (pa_cons pe_int (pa_cons pe_int pa_nil))) pa_nil)) (pa_cons (pe_tup (pa_cons (pe_tup (pa_cons pe_int (pa_cons pe_int pa_nil))) pa_nil)) (pa_cons (pe_tup (pa_cons (pe_tup (pa_cons pe_int (pa_cons (pe_op op_sub pe_int pe_int) pa_nil))) pa_nil)) (pa_cons (pe_tup (pa_cons (pe_tup (pa_cons pe_int (pa_cons pe_int pa_nil))) (pa_cons (pe_tup (pa_cons pe_int (pa_cons pe_int pa_nil))) pa_nil))) (pa_cons (pe_tup (pa_cons pe_int (pa_cons pe_int pa_nil))) (pa_cons (pe_tup (pa_cons (pe_tup (pa_cons pe_int (pa_cons pe_int pa_nil))) (pa_cons pe_non pa_nil))) (pa_cons pe_dnewK pa_nil))))))))))))
      (pss_cons (ps_set (i := 9) nd rfl (.inr rfl) (pe_k C__law_pick hgd hr (by decide) rfl (pa_cons (pv 0) (pa_cons (pe_op op_cat (pv 1) (pe_lst (pa_cons (pe_tup (pa_cons (pe_tup (pa_cons pe_bl (pa_cons pe_int pa_nil))) pa_nil)) (pa_cons (pe_op op_repD (pe_tup (pa_cons (pe_tup (pa_cons pe_int (pa_cons pe_int pa_nil))) pa_nil)) pe_int) (pa_cons (pe_tup (pa_cons (pe_tup (pa_cons pe_int pa_nil)) pa_nil)) (pa_cons pe_str (pa_cons (pe_tup (pa_cons (pe_tup (pa_cons pe_int (pa_cons pe_int (pa_cons pe_int pa_nil)))) pa_nil)) (pa_cons (pe_lst (pa_cons (pe_tup pa_nil) pa_nil)) pa_nil)))))))) pa_nil))))
      (pss_cons (ps_set (i := 7) nd rfl (.inr rfl) (pe_k C__law_pick hgd hr (by decide) rfl (pa_cons (pv 0) (pa_cons (pe_lst (pa_cons pe_int (pa_cons pe_int (pa_cons (pe_op op_sub (pe_op op_pow pe_int pe_int) pe_int) (pa_cons (pe_op op_pow pe_int pe_int) (pa_cons (pe_op op_sub pe_int pe_int) (pa_cons pe_non (pa_cons pe_bl (pa_cons pe_str (pa_cons (pe_tup (pa_cons pe_int pa_nil)) (pa_cons (pe_lst pa_nil) pa_nil))))))))))) pa_nil))))
      (pss_cons (ps_set (i := 8) nd rfl (.inr rfl) (pe_k C__law_pick hgd hr (by decide) rfl (pa_cons (pv 0) (pa_cons (pe_lst (pa_cons pe_non (pa_cons pe_int (pa_cons pe_str (pa_cons (pe_tup (pa_cons pe_int pa_nil)) (pa_cons (pe_tup (pa_cons pe_int (pa_cons pe_int (pa_cons pe_int pa_nil)))) (pa_cons (pe_lst (pa_cons pe_int (pa_cons pe_int pa_nil))) (pa_cons (pe_tup (pa_cons pe_int (pa_cons pe_non pa_nil))) (pa_cons (pe_tup (pa_cons pe_bl (pa_cons pe_int pa_nil))) (pa_cons (pe_tup (pa_cons (pe_op op_pow pe_int pe_int) (pa_cons pe_int pa_nil))) (pa_cons pe_dnewK (pa_cons (pe_tup pa_nil) pa_nil)))))))))))) pa_nil))))
      (pss_cons (ps_set (i := 2) nd rfl (.inl rfl) (pe_ifExp (pt_cmpR (op_inTwo (hu65 hr)) (pv 6) (pe_tup (pa_cons pe_int (pa_cons pe_int pa_nil))) rfl) pe_str (pe_op op_add_str pe_str (pe_callB (call_reprX hgd hr.units) (by rfl) T.repr (by decide +kernel) (pa_cons (pv 6) pa_nil)))))
      (pss_cons (ps_set (i := 3) nd rfl (.inl rfl) (pe_and (pe_callB call_isi (by rfl) T.isinstance (by decide +kernel) (pa_cons (pv 7) (pa_cons (pe_ty "int" rfl T.int (by decide +kernel)) pa_nil))) (pe_and (pe_not (pe_callB call_isi (by rfl) T.isinstance (by decide +kernel) (pa_cons (pv 7) (pa_cons (pe_ty "bool" rfl T.bool (by decide +kernel)) pa_nil)))) (pe_one (pe_chain op_le op_lt pe_int (pv 7) (pe_op op_pow pe_int pe_int))))))
      (pss_cons (ps_set (i := 4) nd rfl (.inl rfl) (pe_lst (pa_cons (pe_met T M O D_law_met hgd rfl TB rfl hmT huT hr (LamX.lamS_by (sc := defScope s__law_right) (by decide +kernel)) rfl (fun _ _ _ _ _ => rfl) (fun A outer s H E f c' hr2 => pe_kxq (gq := false) C_length_of (takes_of rfl rfl rfl rfl) (fun z => Bool.noConfusion z) hr2 (by decide) rfl (pa_cons (pv 6) (pa_cons (pv 9) pa_nil)))) pa_nil)))
      (pss_cons (ps_expr (pe_bm PySem.F.plainAttrs_list PySem.F.slot_list_append PySem.F.type_list_append mt_append (pv 4) (pa_cons (pe_met T M O D_law_met hgd rfl TB rfl hmT huT hr (LamX.lamS_by (sc := defScope s__law_right) (by decide +kernel)) rfl (fun _ _ _ _ _ => rfl) (fun A outer s H E f c' hr2 => pe_kxq (gq := false) C_sides_of (takes_of rfl rfl rfl rfl) (fun z => Bool.noConfusion z) hr2 (by decide) rfl (pa_cons (pv 6) (pa_cons (pv 9) pa_nil)))) pa_nil)))
      (pss_cons (ps_expr (pe_bm PySem.F.plainAttrs_list PySem.F.slot_list_append PySem.F.type_list_append mt_append (pv 4) (pa_cons (pe_met T M O D_law_met hgd rfl TB rfl hmT huT hr (LamX.lamS_by (sc := defScope s__law_right) (by decide +kernel)) rfl (fun _ _ _ _ _ => rfl) (fun A outer s H E f c' hr2 => pe_kxq (gq := false) C_length_of (takes_of rfl rfl rfl rfl) (fun z => Bool.noConfusion z) hr2 (by decide) rfl (pa_cons (pv 6) (pa_cons (pe_op op_repD (pe_tup (pa_cons (pe_tup (pa_cons pe_int (pa_cons pe_int pa_nil))) pa_nil)) pe_int) pa_nil)))) pa_nil)))
      (pss_cons (ps_expr (pe_bm PySem.F.plainAttrs_list PySem.F.slot_list_append PySem.F.type_list_append mt_append (pv 4) (pa_cons (pe_met T M O D_law_met hgd rfl TB rfl hmT huT hr (LamX.lamS_by (sc := defScope s__law_right) (by decide +kernel)) rfl (fun _ _ _ _ _ => rfl) (fun A outer s H E f c' hr2 => pe_kxq (gq := false) C_levels_for (takes_of rfl rfl rfl rfl) (fun z => Bool.noConfusion z) hr2 (by decide) rfl (pa_cons (pv 6) (pa_cons (pv 7) pa_nil)))) pa_nil)))
      (pss_cons (ps_expr (pe_bm PySem.F.plainAttrs_list PySem.F.slot_list_append PySem.F.type_list_append mt_append (pv 4) (pa_cons (pe_met T M O D_law_met hgd rfl TB rfl hmT huT hr (LamX.lamS_by (sc := defScope s__law_right) (by decide +kernel)) rfl (fun _ _ _ _ _ => rfl) (fun A outer s H E f c' hr2 => pe_kxq (gq := false) C_write_row (takes_of rfl rfl rfl rfl) (fun z => Bool.noConfusion z) hr2 (by decide) rfl (pa_cons (pv 9) pa_nil))) pa_nil)))
      (pss_cons (ps_expr (pe_bm PySem.F.plainAttrs_list PySem.F.slot_list_append PySem.F.type_list_append mt_append (pv 4) (pa_cons (pe_met T M O D_law_met hgd rfl TB rfl hmT huT hr (LamX.lamS_by (sc := defScope s__law_right) (by decide +kernel)) rfl (fun _ _ _ _ _ => rfl) (fun A outer s H E f c' hr2 => pe_kxq (gq := false) C_mirrored_row (takes_of rfl rfl rfl rfl) (fun z => Bool.noConfusion z) hr2 (by decide) rfl (pa_cons (pv 9) pa_nil))) pa_nil)))
      (pss_cons (ps_expr (pe_bm PySem.F.plainAttrs_list PySem.F.slot_list_append PySem.F.type_list_append mt_append (pv 4) (pa_cons (pe_met T M O D_law_met hgd rfl TB rfl hmT huT hr (LamX.lamS_by (sc := defScope s__law_right) (by decide +kernel)) rfl (fun _ _ _ _ _ => rfl) (fun A outer s H E f c' hr2 => pe_kxq (gq := false) C_write_pair (takes_of rfl rfl rfl rfl) (fun z => Bool.noConfusion z) hr2 (by decide) rfl (pa_cons (pv 8) pa_nil))) pa_nil)))
      (pss_cons (ps_set (i := 5) nd rfl (.inl rfl) (pe_op op_cat (pe_op op_rep (pe_lst (pa_cons (pe_k C__law_first hgd hr (by decide) rfl (pa_cons (pe_lst (pa_cons (pv 2) (pa_cons pe_str pa_nil))) pa_nil)) pa_nil)) pe_int) (pe_lst (pa_cons (pv 2) pa_nil))))
      (pss_cons (ps_set (i := 5) nd rfl (.inl rfl) (pe_op op_cat (pv 5) (pe_lst (pa_cons (pe_k C__law_first hgd hr (by decide) rfl (pa_cons (pe_lst (pa_cons (pv 2) (pa_cons (pe_ifExp (pt_val (pv 3)) pe_str (pe_op op_add_str pe_str (pe_callB (call_reprX hgd hr.units) (by rfl) T.repr (by decide +kernel) (pa_cons (pv 7) pa_nil)))) pa_nil))) pa_nil)) (pa_cons pe_str (pa_cons pe_str (pa_cons pe_str pa_nil)))))))
      (pss_one (ps_ret (pe_cmpR (op_eqD hr.units) (pv 4) (pv 5) (nomark _)))))))))))))))))))), ?_⟩
    have m := MvT.refl hd ht

    refine a_set (fun v H' => ∃ dat, dat ∈ AR ∧ Dx (hide d H') v dat ∧ MvT (tabsT PR PT) d H H') (fun Q' kQ => ?_) ?_
    · refine ⟨_, rfl, _, _, rfl, rfl, (by show 1 ≤ sizeLine; decide), fun p1 n1 => ?_⟩
      obtain ⟨m, x1, gr⟩ := newT m n1 (.cons (.int _) .nil)
      clear gr
      refine ⟨(by show 0 ≤ sizeLine; decide), fun p2 n2 => ?_⟩
      obtain ⟨m, x2, gr⟩ := newL m n2 .nil
      replace x1 := gr x1
      clear gr
      refine fun p3 n3 => ?_
      obtain ⟨m, x3, gr⟩ := newD m n3
      replace x1 := gr x1
      replace x2 := gr x2
      clear gr
      refine ⟨(by show 14 ≤ sizeLine; decide), fun p4 n4 => ?_⟩
      obtain ⟨m, x4, gr⟩ := newL m n4 (.cons (.int _) (.cons (.int _) (.cons (.int _) (.cons (.int _) (.cons (.int _) (.cons (.int _) (.cons (.int _) (.cons (.int _) (.cons .non (.cons (.bl _) (.cons (.str _) (.cons x1 (.cons x2 (.cons x3 .nil))))))))))))))
      clear gr
      obtain ⟨xs, ha, ne, hxs⟩ := lst_in x4
      refine ⟨d, p4, xs, rfl, m.dice, SqL.of ha, ne, (by rw [hxs.len]; show 0 < 14; decide), (by rw [hxs.len]; show 14 ≤ 1000; decide), fun j x H9 ej mm _ => ?_⟩
      obtain ⟨dat, hm, hx⟩ := picked hxs mm ej
      exact kQ _ _ ⟨dat, hm, hx, m.mv mm⟩

    rintro vA H1 ⟨dA, hA, xA, m⟩
    -- odd
    refine a_set (fun v H' => ∃ p, v = .ref p ∧ Dx (hide d H') (.ref p) (.list ODD) ∧ Dx (hide d H') vA dA ∧ MvT (tabsT PR PT) d H H') (fun Q' kQ => ?_) ?_

    · refine ⟨(by show 2 ≤ sizeLine; decide), fun p1 n1 => ?_⟩
      obtain ⟨m, x1, gr⟩ := newT m n1 (.cons (.int _) (.cons (.int _) .nil))
      replace xA := gr xA
      clear gr
      refine ⟨(by show 1 ≤ sizeLine; decide), fun p2 n2 => ?_⟩
      obtain ⟨m, x2, gr⟩ := newL m n2 (.cons x1 .nil)
      replace xA := gr xA
      clear gr
      refine ⟨(by show 2 ≤ sizeLine; decide), fun p3 n3 => ?_⟩
      obtain ⟨m, x3, gr⟩ := newT m n3 (.cons (.int _) (.cons (.int _) .nil))
      replace xA := gr xA
      replace x2 := gr x2
      clear gr
      refine ⟨(by show 1 ≤ sizeLine; decide), fun p4 n4 => ?_⟩
      obtain ⟨m, x4, gr⟩ := newT m n4 (.cons x3 .nil)
      replace xA := gr xA
      replace x2 := gr x2
      clear gr
      refine ⟨_, _, rfl, rfl, (by show 2 ≤ sizeLine; decide), fun p5 n5 => ?_⟩
      obtain ⟨m, x5, gr⟩ := newT m n5 (.cons (.int _) (.cons (.int _) .nil))
      replace xA := gr xA
      replace x2 := gr x2
      replace x4 := gr x4
      clear gr
      refine ⟨(by show 1 ≤ sizeLine; decide), fun p6 n6 => ?_⟩
      obtain ⟨m, x6, gr⟩ := newT m n6 (.cons x5 .nil)
      replace xA := gr xA
      replace x2 := gr x2
      replace x4 := gr x4
      clear gr
      refine ⟨(by show 2 ≤ sizeLine; decide), fun p7 n7 => ?_⟩
      obtain ⟨m, x7, gr⟩ := newT m n7 (.cons (.int _) (.cons (.int _) .nil))
      replace xA := gr xA
      replace x2 := gr x2
      replace x4 := gr x4
      replace x6 := gr x6
      clear gr
      refine ⟨(by show 2 ≤ sizeLine; decide), fun p8 n8 => ?_⟩
      obtain ⟨m, x8, gr⟩ := newT m n8 (.cons (.int _) (.cons (.int _) .nil))
      replace xA := gr xA
      replace x2 := gr x2
      replace x4 := gr x4
      replace x6 := gr x6
      replace x7 := gr x7
      clear gr
      refine ⟨(by show 2 ≤ sizeLine; decide), fun p9 n9 => ?_⟩
      obtain ⟨m, x9, gr⟩ := newT m n9 (.cons x7 (.cons x8 .nil))
      replace xA := gr xA
      replace x2 := gr x2
      replace x4 := gr x4
      replace x6 := gr x6
      clear gr
      refine ⟨(by show 2 ≤ sizeLine; decide), fun p10 n10 => ?_⟩
      obtain ⟨m, x10, gr⟩ := newT m n10 (.cons (.int _) (.cons (.int _) .nil))
      replace xA := gr xA
      replace x2 := gr x2
      replace x4 := gr x4
      replace x6 := gr x6
      replace x9 := gr x9
      clear gr
      refine ⟨(by show 2 ≤ sizeLine; decide), fun p11 n11 => ?_⟩
      obtain ⟨m, x11, gr⟩ := newT m n11 (.cons (.int _) (.cons (.int _) .nil))
      replace xA := gr xA
      replace x2 := gr x2
      replace x4 := gr x4
      replace x6 := gr x6
      replace x9 := gr x9
      replace x10 := gr x10
      clear gr
      refine ⟨(by show 2 ≤ sizeLine; decide), fun p12 n12 => ?_⟩
      obtain ⟨m, x12, gr⟩ := newT m n12 (.cons x11 (.cons .non .nil))
      replace xA := gr xA
      replace x2 := gr x2
      replace x4 := gr x4
      replace x6 := gr x6
      replace x9 := gr x9
      replace x10 := gr x10
      clear gr
      refine fun p13 n13 => ?_
      obtain ⟨m, x13, gr⟩ := newD m n13
      replace xA := gr xA
      replace x2 := gr x2
      replace x4 := gr x4
      replace x6 := gr x6
      replace x9 := gr x9
      replace x10 := gr x10
      replace x12 := gr x12
      clear gr
      refine ⟨(by show 10 ≤ sizeLine; decide), fun p14 n14 => ?_⟩
      obtain ⟨m, x14, gr⟩ := newL m n14 (.cons .non (.cons (.int _) (.cons (.str _) (.cons x2 (.cons x4 (.cons x6 (.cons x9 (.cons x10 (.cons x12 (.cons x13 .nil))))))))))
      replace xA := gr xA
      clear gr
      exact kQ _ _ ⟨_, rfl, x14, xA, m⟩
    rintro _ H2 ⟨po, rfl, xo, xA, m⟩
    -- row
    refine a_set (fun v H' => ∃ dat, dat ∈ ODD ++ MORE ∧ Dx (hide d H') v dat ∧ Dx (hide d H') vA dA ∧ MvT (tabsT PR PT) d H H') (fun Q' kQ => ?_) ?_

    · refine ⟨_, rfl, _, rfl, (by show 2 ≤ sizeLine; decide), fun p1 n1 => ?_⟩
      obtain ⟨m, x1, gr⟩ := newT m n1 (.cons (.bl _) (.cons (.int _) .nil))
      replace xA := gr xA
      replace xo := gr xo
      clear gr
      refine ⟨(by show 1 ≤ sizeLine; decide), fun p2 n2 => ?_⟩
      obtain ⟨m, x2, gr⟩ := newT m n2 (.cons x1 .nil)
      replace xA := gr xA
      replace xo := gr xo
      clear gr
      refine ⟨(by show 2 ≤ sizeLine; decide), fun p3 n3 => ?_⟩
      obtain ⟨m, x3, gr⟩ := newT m n3 (.cons (.int _) (.cons (.int _) .nil))
      replace xA := gr xA
      replace xo := gr xo
      replace x2 := gr x2
      clear gr
      refine ⟨(by show 1 ≤ sizeLine; decide), fun p4 n4 => ?_⟩
      obtain ⟨m, x4, gr⟩ := newT m n4 (.cons x3 .nil)
      replace xA := gr xA
      replace xo := gr xo
      replace x2 := gr x2
      clear gr
      refine ⟨d, 201, _, rfl, m.dice, x4, List.cons_ne_nil _ _, (by decide), (by decide), (by show 1 ≤ 1000; decide), fun p5 H5 mv5 x5 => ?_⟩
      replace xA := mv5.dx xA
      replace xo := mv5.dx xo
      replace x2 := mv5.dx x2
      replace m := m.mv mv5
      refine ⟨(by show 1 ≤ sizeLine; decide), fun p6 n6 => ?_⟩
      obtain ⟨m, x6, gr⟩ := newT m n6 (.cons (.int _) .nil)
      replace xA := gr xA
      replace xo := gr xo
      replace x2 := gr x2
      replace x5 := gr x5
      clear gr
      refine ⟨(by show 1 ≤ sizeLine; decide), fun p7 n7 => ?_⟩
      obtain ⟨m, x7, gr⟩ := newT m n7 (.cons x6 .nil)
      replace xA := gr xA
      replace xo := gr xo
      replace x2 := gr x2
      replace x5 := gr x5
      clear gr
      refine ⟨(by show 3 ≤ sizeLine; decide), fun p8 n8 => ?_⟩
      obtain ⟨m, x8, gr⟩ := newT m n8 (.cons (.int _) (.cons (.int _) (.cons (.int _) .nil)))
      replace xA := gr xA
      replace xo := gr xo
      replace x2 := gr x2
      replace x5 := gr x5
      replace x7 := gr x7
      clear gr
      refine ⟨(by show 1 ≤ sizeLine; decide), fun p9 n9 => ?_⟩
      obtain ⟨m, x9, gr⟩ := newT m n9 (.cons x8 .nil)
      replace xA := gr xA
      replace xo := gr xo
      replace x2 := gr x2
      replace x5 := gr x5
      replace x7 := gr x7
      clear gr
      refine ⟨(by show 0 ≤ sizeLine; decide), fun p10 n10 => ?_⟩
      obtain ⟨m, x10, gr⟩ := newT m n10 .nil
      replace xA := gr xA
      replace xo := gr xo
      replace x2 := gr x2
      replace x5 := gr x5
      replace x7 := gr x7
      replace x9 := gr x9
      clear gr
      refine ⟨(by show 1 ≤ sizeLine; decide), fun p11 n11 => ?_⟩
      obtain ⟨m, x11, gr⟩ := newL m n11 (.cons x10 .nil)
      replace xA := gr xA
      replace xo := gr xo
      replace x2 := gr x2
      replace x5 := gr x5
      replace x7 := gr x7
      replace x9 := gr x9
      clear gr
      refine ⟨(by show 6 ≤ sizeLine; decide), fun p12 n12 => ?_⟩
      obtain ⟨m, x12, gr⟩ := newL m n12 (.cons x2 (.cons x5 (.cons x7 (.cons (.str _) (.cons x9 (.cons x11 .nil))))))
      replace xA := gr xA
      replace xo := gr xo
      clear gr
      obtain ⟨xs, ha, ne, hxs⟩ := lst_in xo
      obtain ⟨zs, hz, nez, hzs⟩ := lst_in x12
      refine ⟨po, p12, xs, zs, rfl, rfl, ha, hz, (by rw [hxs.len, hzs.len]; show 16 ≤ sizeLine; decide), fun q nq => ?_⟩
      obtain ⟨m, xq, gr⟩ := newL m nq (hxs.append hzs)
      replace xA := gr xA
      obtain ⟨ys, hy, ney, hys⟩ := lst_in xq
      refine ⟨d, q, ys, rfl, m.dice, SqL.of hy, ney, (by rw [hys.len]; show 0 < 16; decide), (by rw [hys.len]; show 16 ≤ 1000; decide), fun j x H9 ej mm _ => ?_⟩
      obtain ⟨dat, hm, hx⟩ := picked hys mm ej
      exact kQ _ _ ⟨dat, hm, hx, mm.dx xA, m.mv mm⟩
    rintro vR H3 ⟨dR, hR, xR, xA, m⟩
    -- length
    refine a_set (fun v H' => ∃ dat, dat ∈ LEN ∧ Dx (hide d H') v dat ∧ Dx (hide d H') vA dA ∧ Dx (hide d H') vR dR ∧ MvT (tabsT PR PT) d H H') (fun Q' kQ => ?_) ?_

    · refine ⟨_, rfl, _, _, rfl, rfl, ⟨by decide, by decide, by decide⟩, _, _, rfl, rfl, _, _, rfl, rfl, ⟨by decide, by decide, by decide⟩, _, _, rfl, rfl, (by show 1 ≤ sizeLine; decide), fun p1 n1 => ?_⟩
      obtain ⟨m, x1, gr⟩ := newT m n1 (.cons (.int _) .nil)
      replace xA := gr xA
      replace xR := gr xR
      clear gr
      refine ⟨(by show 0 ≤ sizeLine; decide), fun p2 n2 => ?_⟩
      obtain ⟨m, x2, gr⟩ := newL m n2 .nil
      replace xA := gr xA
      replace xR := gr xR
      replace x1 := gr x1
      clear gr
      refine ⟨(by show 10 ≤ sizeLine; decide), fun p3 n3 => ?_⟩
      obtain ⟨m, x3, gr⟩ := newL m n3 (.cons (.int _) (.cons (.int _) (.cons (.int _) (.cons (.int _) (.cons (.int _) (.cons .non (.cons (.bl _) (.cons (.str _) (.cons x1 (.cons x2 .nil))))))))))
      replace xA := gr xA
      replace xR := gr xR
      clear gr
      obtain ⟨xs, ha, ne, hxs⟩ := lst_in x3
      refine ⟨d, p3, xs, rfl, m.dice, SqL.of ha, ne, (by rw [hxs.len]; show 0 < 10; decide), (by rw [hxs.len]; show 10 ≤ 1000; decide), fun j x H9 ej mm _ => ?_⟩
      obtain ⟨dat, hm, hx⟩ := picked hxs mm ej
      exact kQ _ _ ⟨dat, hm, hx, mm.dx xA, mm.dx xR, m.mv mm⟩

    rintro vL H4 ⟨dL, hL, xL, xA, xR, m⟩
    -- pair
    refine a_set (fun v H' => ∃ dat, dat ∈ PAIR ∧ Dx (hide d H') v dat ∧ Dx (hide d H') vA dA ∧ Dx (hide d H') vR dR ∧ Dx (hide d H') vL dL ∧ MvT (tabsT PR PT) d H H') (fun Q' kQ => ?_) ?_

    · refine ⟨_, rfl, (by show 1 ≤ sizeLine; decide), fun p1 n1 => ?_⟩
      obtain ⟨m, x1, gr⟩ := newT m n1 (.cons (.int _) .nil)
      replace xA := gr xA
      replace xR := gr xR
      replace xL := gr xL
      clear gr
      refine ⟨(by show 3 ≤ sizeLine; decide), fun p2 n2 => ?_⟩
      obtain ⟨m, x2, gr⟩ := newT m n2 (.cons (.int _) (.cons (.int _) (.cons (.int _) .nil)))
      replace xA := gr xA
      replace xR := gr xR
      replace xL := gr xL
      replace x1 := gr x1
      clear gr
      refine ⟨(by show 2 ≤ sizeLine; decide), fun p3 n3 => ?_⟩
      obtain ⟨m, x3, gr⟩ := newL m n3 (.cons (.int _) (.cons (.int _) .nil))
      replace xA := gr xA
      replace xR := gr xR
      replace xL := gr xL
      replace x1 := gr x1
      replace x2 := gr x2
      clear gr
      refine ⟨(by show 2 ≤ sizeLine; decide), fun p4 n4 => ?_⟩
      obtain ⟨m, x4, gr⟩ := newT m n4 (.cons (.int _) (.cons .non .nil))
      replace xA := gr xA
      replace xR := gr xR
      replace xL := gr xL
      replace x1 := gr x1
      replace x2 := gr x2
      replace x3 := gr x3
      clear gr
      refine ⟨(by show 2 ≤ sizeLine; decide), fun p5 n5 => ?_⟩
      obtain ⟨m, x5, gr⟩ := newT m n5 (.cons (.bl _) (.cons (.int _) .nil))
      replace xA := gr xA
      replace xR := gr xR
      replace xL := gr xL
      replace x1 := gr x1
      replace x2 := gr x2
      replace x3 := gr x3
      replace x4 := gr x4
      clear gr
      refine ⟨_, _, rfl, rfl, ⟨by decide, by decide, by decide⟩, (by show 2 ≤ sizeLine; decide), fun p6 n6 => ?_⟩
      obtain ⟨m, x6, gr⟩ := newT m n6 (.cons (.int _) (.cons (.int _) .nil))
      replace xA := gr xA
      replace xR := gr xR
      replace xL := gr xL
      replace x1 := gr x1
      replace x2 := gr x2
      replace x3 := gr x3
      replace x4 := gr x4
      replace x5 := gr x5
      clear gr
      refine fun p7 n7 => ?_
      obtain ⟨m, x7, gr⟩ := newD m n7
      replace xA := gr xA
      replace xR := gr xR
      replace xL := gr xL
      replace x1 := gr x1
      replace x2 := gr x2
      replace x3 := gr x3
      replace x4 := gr x4
      replace x5 := gr x5
      replace x6 := gr x6
      clear gr
      refine ⟨(by show 0 ≤ sizeLine; decide), fun p8 n8 => ?_⟩
      obtain ⟨m, x8, gr⟩ := newT m n8 .nil
      replace xA := gr xA
      replace xR := gr xR
      replace xL := gr xL
      replace x1 := gr x1
      replace x2 := gr x2
      replace x3 := gr x3
      replace x4 := gr x4
      replace x5 := gr x5
      replace x6 := gr x6
      replace x7 := gr x7
      clear gr
      refine ⟨(by show 11 ≤ sizeLine; decide), fun p9 n9 => ?_⟩
      obtain ⟨m, x9, gr⟩ := newL m n9 (.cons .non (.cons (.int _) (.cons (.str _) (.cons x1 (.cons x2 (.cons x3 (.cons x4 (.cons x5 (.cons x6 (.cons x7 (.cons x8 .nil)))))))))))
      replace xA := gr xA
      replace xR := gr xR
      replace xL := gr xL
      clear gr
      obtain ⟨xs, ha, ne, hxs⟩ := lst_in x9
      refine ⟨d, p9, xs, rfl, m.dice, SqL.of ha, ne, (by rw [hxs.len]; show 0 < 11; decide), (by rw [hxs.len]; show 11 ≤ 1000; decide), fun j x H9 ej mm _ => ?_⟩
      obtain ⟨dat, hm, hx⟩ := picked hxs mm ej
      exact kQ _ _ ⟨dat, hm, hx, mm.dx xA, mm.dx xR, mm.dx xL, m.mv mm⟩

    rintro vP H5 ⟨dP, hP, xP, xA, xR, xL, m⟩
    obtain ⟨wA, okA, inA, szA, soA⟩ := ar_facts dA hA
    obtain ⟨wL, szL, soL⟩ := len_facts dL hL
    have nR := rows_wrong dR hR
    have nP := pairs_wrong dP hP
    -- wrong
    refine a_set (fun v H' => v = .str (wrongS dA) ∧ Same H5 H') (fun Q' kQ => ?_) ?_
    · refine ⟨_, rfl, (by show 2 ≤ sizeLine; decide), fun p np => ?_⟩
      have s1 := same_new (o := .tup [.int 2, .int 3]) np
      refine ⟨p, 2, 3, dA, rfl, upd_same, xA.seen.grow s1, okA, arityB dA, congrArg V.bl inA, ?_⟩
      cases hb : arityB dA with
      | true => exact iteT (kQ _ _ ⟨congrArg V.str (if_pos hb).symm, s1⟩)
      | false =>
        refine iteF ⟨_, rfl, _, dA, rfl, xA.seen.grow s1, wA, _, _, rfl, rfl, szA, ?_⟩
        exact kQ _ _ ⟨congrArg V.str (if_neg (by rw [hb]; exact Bool.false_ne_true)).symm, s1⟩
    rintro _ H6 ⟨rfl, s6⟩
    have g6 : ∀ {x : V} {dat : PyData}, Dx (hide d H5) x dat → Dx (hide d H6) x dat := fun h => Dx.grow ((Mv.refl m.dice).ofSame s6).same h
    replace xA := g6 xA
    replace xR := g6 xR
    replace xL := g6 xL
    replace xP := g6 xP
    replace m := m.same s6
    -- is_let
    refine a_set (fun v H' => v = .bl (countB dL) ∧ H6 = H') (fun Q' kQ => ?_) ?_
    · have xs := xL.seen
      cases xs with
      | int i =>
        refine ⟨_, rfl, _, _, _, _, true, rfl, .ty _, .base (.int i), kit_ty (by decide +kernel), true, rfl, iteT ?_⟩
        refine ⟨_, rfl, _, _, _, _, false, rfl, .ty _, .base (.int i), kit_ty (by decide +kernel), false, rfl, true, rfl, iteT ?_⟩
        have eB : (10 : Int) ^ Int.toNat 60 = BIG := by decide +kernel
        refine ⟨_, rfl, _, _, rfl, rfl, _, rfl, ite2 (fun h1 => ?_) (fun h1 => ?_)⟩
        · refine ⟨_, _, rfl, rfl, ⟨by decide, by decide, by decide⟩, _, _, rfl, rfl, kQ _ _ ⟨congrArg V.bl ?_, rfl⟩⟩
          rw [eB]
          have h0 : (0 : Int) ≤ i := of_decide_eq_true h1
          show decide (i < BIG) = (smallB i && decide (0 ≤ i))
          unfold smallB
          rw [decide_eq_true h0, Bool.and_true, decide_eq_true (show -BIG < i by unfold BIG; omega), Bool.true_and]
        · refine kQ _ _ ⟨congrArg V.bl ?_, rfl⟩
          show false = (smallB i && decide (0 ≤ i))
          rw [Bool.eq_false_iff.mpr h1, Bool.and_false]
      | bl b =>
        refine ⟨_, rfl, _, _, _, _, true, rfl, .ty _, .base (.bl b), kit_ty (by decide +kernel), true, rfl, iteT ?_⟩
        exact ⟨_, rfl, _, _, _, _, true, rfl, .ty _, .base (.bl b), kit_ty (by decide +kernel), true, rfl, false, rfl, iteF (kQ _ _ ⟨rfl, rfl⟩)⟩
      | non => exact ⟨_, rfl, _, _, _, _, false, rfl, .ty _, Dx.ty .non, kit_ty (by decide +kernel), false, rfl, iteF (kQ _ _ ⟨rfl, rfl⟩)⟩
      | str x => exact ⟨_, rfl, _, _, _, _, false, rfl, .ty _, Dx.ty (.str x), kit_ty (by show kitB "str" _ = _; decide +kernel), false, rfl, iteF (kQ _ _ ⟨rfl, rfl⟩)⟩
      | lst h1 h2 => exact ⟨_, rfl, _, _, _, _, false, rfl, .ty _, Dx.ty (.lst h1 h2), kit_ty (by show kitB "list" _ = _; decide +kernel), false, rfl, iteF (kQ _ _ ⟨rfl, rfl⟩)⟩
      | tup h1 h2 => exact ⟨_, rfl, _, _, _, _, false, rfl, .ty _, Dx.ty (.tup h1 h2), kit_ty (by show kitB "tuple" _ = _; decide +kernel), false, rfl, iteF (kQ _ _ ⟨rfl, rfl⟩)⟩
      | dct h1 h2 => exact ⟨_, rfl, _, _, _, _, false, rfl, .ty _, Dx.ty (.dct h1 h2), kit_ty (by show kitB "dict" _ = _; decide +kernel), false, rfl, iteF (kQ _ _ ⟨rfl, rfl⟩)⟩
    rintro _ _ ⟨rfl, rfl⟩
    have n := MvT.refl m.dice m.tabs
    -- told
    refine a_set (fun v H' => ∃ p, v = .ref p ∧ p ≠ d ∧ NewAt H6 p ∧ H' p = some (.lst ([firstW [wrongS dA, "row"]].map V.str)) ∧ MvT (tabsT PR PT) d H6 H') (fun Q' kQ => ?_) ?_
    · refine ⟨n.tabs, fun L1 e1 t1 => ?_⟩
      replace n := n.lam e1 t1
      refine ⟨_, rfl, _, rfl, vA, vR, dA, dR, rfl, (n.dx xA).seen, (n.dx xR).seen, fun c fs e2 e3 b1 b2 L2 s2 => absurd (nR.symm.trans b2) Bool.false_ne_true, fun hb L2 dd s2 ndd => ?_, fun hb hb2 L2 s2 => ?_⟩
      · refine .inr (.inr ⟨rfl, dd, vA, dA, rfl, upd_same, ((n.dx xA).seen.grow s2).grow (same_new ndd), wA, szA, ?_⟩)
        replace n := (n.same s2).new (o := .xd [(("value" : Str), vA)]) ndd
        exact ⟨(by show 1 ≤ sizeLine; decide), fun p np => kQ _ _ ⟨p, rfl, n.dice.ne np, n.newAt np, by rw [first_wrong hb]; exact upd_same, n.new np⟩⟩
      · refine .inr (.inl ⟨rfl, ?_⟩)
        replace n := n.same s2
        exact ⟨(by show 1 ≤ sizeLine; decide), fun p np => kQ _ _ ⟨p, rfl, n.dice.ne np, n.newAt np, by rw [first_right hb]; exact upd_same, n.new np⟩⟩
    rintro _ H7 ⟨p, rfl, pd, pn, hp, n⟩
    refine a_expr (fun H' => H' p = some (.lst ([firstW [wrongS dA, "row"], firstW [wrongS dA, "row"]].map V.str)) ∧ MvT (tabsT PR PT) d H6 H') (fun Q' kQ => ?_) (fun H8 h8 => ?_)
    · refine ⟨_, rfl, .inl ⟨rfl, _, SqL.of hp⟩, n.tabs, fun L1 e1 t1 => ?_⟩
      replace n := n.lam e1 t1
      replace hp := ext_lst e1 hp
      refine ⟨_, rfl, _, rfl, vA, vR, dA, dR, rfl, (n.dx xA).seen, (n.dx xR).seen, fun c fs e2 e3 b1 b2 => absurd (nR.symm.trans b2) Bool.false_ne_true, fun hb L2 dd s2 ndd => ?_, fun hb hb2 L2 s2 => ?_⟩
      · refine .inr (.inr ⟨rfl, dd, vA, dA, rfl, upd_same, ((n.dx xA).seen.grow s2).grow (same_new ndd), wA, szA, ?_⟩)
        replace hp := same_new (o := .xd [(("value" : Str), vA)]) ndd _ _ (s2 _ _ hp)
        replace n := (n.same s2).new (o := .xd [(("value" : Str), vA)]) ndd
        exact ⟨p, _, _, rfl, rfl, hp, (by show 1 < sizeLine; decide), kQ _ _ ⟨by rw [first_wrong hb]; exact upd_same, n.put2 pn pd hp⟩⟩
      · refine .inr (.inl ⟨rfl, ?_⟩)
        replace hp := s2 _ _ hp
        replace n := n.same s2
        exact ⟨p, _, _, rfl, rfl, hp, (by show 1 < sizeLine; decide), kQ _ _ ⟨by rw [first_right hb]; exact upd_same, n.put2 pn pd hp⟩⟩
    clear hp n
    obtain ⟨hp, n⟩ := h8
    refine a_expr (fun H' => H' p = some (.lst ([firstW [wrongS dA, "row"], firstW [wrongS dA, "row"], wrongS dA].map V.str)) ∧ MvT (tabsT PR PT) d H6 H') (fun Q' kQ => ?_) (fun H8 h8 => ?_)
    · refine ⟨_, rfl, .inl ⟨rfl, _, SqL.of hp⟩, n.tabs, fun L1 e1 t1 => ?_⟩
      replace n := n.lam e1 t1
      replace hp := ext_lst e1 hp
      refine ⟨_, rfl, (by show 2 ≤ sizeLine; decide), fun p1 n1 => ?_⟩
      replace hp := same_new (o := .tup [.int 1, .int 0]) n1 _ _ hp
      obtain ⟨n, x1, _⟩ := newT n n1 (.cons (.int 1) (.cons (.int 0) .nil))
      refine ⟨(by show 1 ≤ sizeLine; decide), fun p2 n2 => ?_⟩
      replace hp := same_new (o := .tup [.ref p1]) n2 _ _ hp
      obtain ⟨n, x2, _⟩ := newT n n2 (.cons x1 .nil)
      refine ⟨d, 200, _, rfl, n.dice, x2, List.cons_ne_nil _ _, (by decide), (by decide), (by show 1 ≤ 1000; decide), fun v3 L3 m3 x3 => ?_⟩
      replace hp := m3.get pd hp
      replace n := n.mv m3
      have r3 : rowB (.tuple (List.replicate (Int.toNat 200) [.tuple [.int 1, .int 0]]).flatten) = true := by decide +kernel
      refine ⟨vA, v3, dA, _, rfl, (n.dx xA).seen, x3.seen, fun c fs e2 e3 b1 b2 L2 s2 => ?_, fun hb L2 dd s2 ndd => ?_, fun hb hb2 => absurd (r3.symm.trans hb2) Bool.noConfusion⟩
      · replace hp := s2 _ _ hp
        replace n := n.same s2
        exact ⟨p, _, _, rfl, rfl, hp, (by show 2 < sizeLine; decide), kQ _ _ ⟨by rw [show wrongS dA = ("" : Str) from if_pos b1]; exact upd_same, n.put2 pn pd hp⟩⟩
      · refine .inr (.inr ⟨rfl, dd, vA, dA, rfl, upd_same, ((n.dx xA).seen.grow s2).grow (same_new ndd), wA, szA, ?_⟩)
        replace hp := same_new (o := .xd [(("value" : Str), vA)]) ndd _ _ (s2 _ _ hp)
        replace n := (n.same s2).new (o := .xd [(("value" : Str), vA)]) ndd
        exact ⟨p, _, _, rfl, rfl, hp, (by show 2 < sizeLine; decide), kQ _ _ ⟨by rw [show wrongS dA = ("number " : Str) ++ dA.shown from if_neg (by rw [hb]; exact Bool.false_ne_true)]; exact upd_same, n.put2 pn pd hp⟩⟩
    clear hp n
    obtain ⟨hp, n⟩ := h8
    refine a_expr (fun H' => H' p = some (.lst ([firstW [wrongS dA, "row"], firstW [wrongS dA, "row"], wrongS dA, firstW [wrongS dA, letS dL]].map V.str)) ∧ MvT (tabsT PR PT) d H6 H') (fun Q' kQ => ?_) (fun H8 h8 => ?_)
    · refine ⟨_, rfl, .inl ⟨rfl, _, SqL.of hp⟩, n.tabs, fun L1 e1 t1 => ?_⟩
      replace n := n.lam e1 t1
      replace hp := ext_lst e1 hp
      refine ⟨_, rfl, _, rfl, vA, vL, dA, dL, rfl, (n.dx xA).seen, (n.dx xL).seen, fun c N e2 e3 b1 b2 pp L M L2 s2 _ _ _ => ?_, fun hb L2 dd s2 ndd => ?_, fun hb hb2 L2 dd s2 ndd => ?_⟩
      · replace hp := s2 _ _ hp
        replace n := n.same s2
        exact ⟨p, _, _, rfl, rfl, hp, (by show 3 < sizeLine; decide), kQ _ _ ⟨by rw [first_right b1 (letS dL), show letS dL = ("" : Str) from if_pos b2]; exact upd_same, n.put2 pn pd hp⟩⟩
      · refine .inr (.inr ⟨rfl, dd, vA, dA, rfl, upd_same, ((n.dx xA).seen.grow s2).grow (same_new ndd), wA, szA, ?_⟩)
        replace hp := same_new (o := .xd [(("value" : Str), vA)]) ndd _ _ (s2 _ _ hp)
        replace n := (n.same s2).new (o := .xd [(("value" : Str), vA)]) ndd
        exact ⟨p, _, _, rfl, rfl, hp, (by show 3 < sizeLine; decide), kQ _ _ ⟨by rw [first_wrong hb (letS dL)]; exact upd_same, n.put2 pn pd hp⟩⟩
      · refine .inr (.inr ⟨rfl, dd, vL, dL, rfl, upd_same, ((n.dx xL).seen.grow s2).grow (same_new ndd), wL, szL, ?_⟩)
        replace hp := same_new (o := .xd [(("value" : Str), vL)]) ndd _ _ (s2 _ _ hp)
        replace n := (n.same s2).new (o := .xd [(("value" : Str), vL)]) ndd
        exact ⟨p, _, _, rfl, rfl, hp, (by show 3 < sizeLine; decide), kQ _ _ ⟨by rw [first_right hb (letS dL), show letS dL = ("number " : Str) ++ dL.shown from if_neg (by rw [hb2]; exact Bool.false_ne_true)]; exact upd_same, n.put2 pn pd hp⟩⟩
    clear hp n
    obtain ⟨hp, n⟩ := h8
    refine a_expr (fun H' => H' p = some (.lst ([firstW [wrongS dA, "row"], firstW [wrongS dA, "row"], wrongS dA, firstW [wrongS dA, letS dL], "row"].map V.str)) ∧ MvT (tabsT PR PT) d H6 H') (fun Q' kQ => ?_) (fun H8 h8 => ?_)
    · refine ⟨_, rfl, .inl ⟨rfl, _, SqL.of hp⟩, n.tabs, fun L1 e1 t1 => ?_⟩
      replace n := n.lam e1 t1
      replace hp := ext_lst e1 hp
      refine ⟨_, rfl, vR, dR, rfl, (n.dx xR).seen, nR, fun L2 s2 => ?_⟩
      · refine .inr (.inl ⟨rfl, ?_⟩)
        replace hp := s2 _ _ hp
        replace n := n.same s2
        exact ⟨p, _, _, rfl, rfl, hp, (by show 4 < sizeLine; decide), kQ _ _ ⟨by exact upd_same, n.put2 pn pd hp⟩⟩
    clear hp n
    obtain ⟨hp, n⟩ := h8
    refine a_expr (fun H' => H' p = some (.lst ([firstW [wrongS dA, "row"], firstW [wrongS dA, "row"], wrongS dA, firstW [wrongS dA, letS dL], "row", "row"].map V.str)) ∧ MvT (tabsT PR PT) d H6 H') (fun Q' kQ => ?_) (fun H8 h8 => ?_)
    · refine ⟨_, rfl, .inl ⟨rfl, _, SqL.of hp⟩, n.tabs, fun L1 e1 t1 => ?_⟩
      replace n := n.lam e1 t1
      replace hp := ext_lst e1 hp
      refine ⟨_, rfl, vR, dR, rfl, (n.dx xR).seen, fun fs e b => absurd (nR.symm.trans b) Bool.false_ne_true, fun hb L2 s2 => ?_⟩
      · refine .inr (.inl ⟨rfl, ?_⟩)
        replace hp := s2 _ _ hp
        replace n := n.same s2
        exact ⟨p, _, _, rfl, rfl, hp, (by show 5 < sizeLine; decide), kQ _ _ ⟨by exact upd_same, n.put2 pn pd hp⟩⟩
    clear hp n
    obtain ⟨hp, n⟩ := h8
    refine a_expr (fun H' => H' p = some (.lst ([firstW [wrongS dA, "row"], firstW [wrongS dA, "row"], wrongS dA, firstW [wrongS dA, letS dL], "row", "row", "form"].map V.str)) ∧ MvT (tabsT PR PT) d H6 H') (fun Q' kQ => ?_) (fun H8 h8 => ?_)
    · refine ⟨_, rfl, .inl ⟨rfl, _, SqL.of hp⟩, n.tabs, fun L1 e1 t1 => ?_⟩
      replace n := n.lam e1 t1
      replace hp := ext_lst e1 hp
      refine ⟨_, rfl, vP, dP, rfl, (n.dx xP).seen, nP, fun L2 s2 => ?_⟩
      · refine .inl ⟨rfl, ?_⟩
        replace hp := s2 _ _ hp
        replace n := n.same s2
        exact ⟨p, _, _, rfl, rfl, hp, (by show 6 < sizeLine; decide), kQ _ _ ⟨by exact upd_same, n.put2 pn pd hp⟩⟩
    clear hp n
    obtain ⟨hp, n⟩ := h8
    have okW : ∀ w ∈ [wrongS dA, "row"], PyData.strOk w = true := fun w hw => by
      rcases List.mem_cons.mp hw with e | e
      · rw [e]; exact soA
      · rw [List.mem_singleton.mp e]; decide +kernel
    have okV : ∀ w ∈ [wrongS dA, letS dL], PyData.strOk w = true := fun w hw => by
      rcases List.mem_cons.mp hw with e | e
      · rw [e]; exact soA
      · rw [List.mem_singleton.mp e]; exact soL
    refine a_set (fun v H' => ∃ q, v = .ref q ∧ H' q = some (.lst ([firstW [wrongS dA, "row"], firstW [wrongS dA, "row"], wrongS dA].map V.str)) ∧ Same H8 H') (fun Q' kQ => ?_) ?_
    · refine ⟨_, rfl, (by show 2 ≤ sizeLine; decide), fun q1 n1 => ?_⟩
      refine ⟨q1, [wrongS dA, "row"], rfl, upd_same, (by show 2 ≤ 100; decide), okW, fun L1 s1 => ?_⟩
      refine ⟨(by show 1 ≤ sizeLine; decide), fun q2 n2 => ?_⟩
      refine ⟨q2, 2, _, rfl, rfl, upd_same, (by decide), (by decide), (by show 1 * 2 ≤ sizeLine; decide), fun q3 n3 => ?_⟩
      refine ⟨_, rfl, (by show 1 ≤ sizeLine; decide), fun q4 n4 => ?_⟩
      refine ⟨q3, q4, _, _, rfl, rfl, same_new n4 _ _ upd_same, upd_same, (by show 3 ≤ sizeLine; decide), fun q5 n5 => ?_⟩
      exact kQ _ _ ⟨q5, rfl, upd_same, (((((same_new n1).trans s1).trans (same_new n2)).trans (same_new n3)).trans (same_new n4)).trans (same_new n5)⟩
    rintro _ H9 ⟨q, rfl, hq, s9⟩
    refine a_set (fun v H' => ∃ q, v = .ref q ∧ H' q = some (.lst ([firstW [wrongS dA, "row"], firstW [wrongS dA, "row"], wrongS dA, firstW [wrongS dA, letS dL], "row", "row", "form"].map V.str)) ∧ Same H8 H') (fun Q' kQ => ?_) ?_
    · refine ⟨_, rfl, _, rfl, _, rfl, _, rfl, ?_⟩
      have fin : ∀ L : Hp, Same H9 L → ∀ (q1 : Addr) (n1 : L q1 = none), spFirst [.ref q1] (upd L q1 (.lst [.str (wrongS dA), .str (letS dL)])) (fun v L2 => 4 ≤ sizeLine ∧ ∀ q2, L2 q2 = none → rCat (.ref q) (.ref q2) (upd L2 q2 (.lst [v, .str "row", .str "row", .str "form"])) Q') E0 := by
        intro L s0 q1 n1
        refine ⟨q1, [wrongS dA, letS dL], rfl, upd_same, (by show 2 ≤ 100; decide), okV, fun L1 s1 => ?_⟩
        refine ⟨by decide, fun q2 n2 => ?_⟩
        have sA := ((s0.trans (same_new n1)).trans s1).trans (same_new (o := .lst [.str (firstW [wrongS dA, letS dL]), .str "row", .str "row", .str "form"]) n2)
        refine ⟨q, q2, _, _, rfl, rfl, sA _ _ hq, upd_same, (by show 7 ≤ sizeLine; decide), fun q5 n5 => ?_⟩
        exact kQ _ _ ⟨q5, rfl, upd_same, s9.trans (sA.trans (same_new n5))⟩
      cases hc : countB dL with
      | true =>
        refine iteT ⟨(by show 2 ≤ sizeLine; decide), fun q1 n1 => ?_⟩
        have f := fin _ (Same.refl _) q1 n1
        rw [show letS dL = ("" : Str) from if_pos hc] at f
        exact f
      | false =>
        refine iteF ⟨_, rfl, vL, dL, rfl, ((n.same s9).dx xL).seen, wL, _, _, rfl, rfl, szL, (by show 2 ≤ sizeLine; decide), fun q1 n1 => ?_⟩
        have f := fin _ (Same.refl _) q1 n1
        rw [show letS dL = ("number " : Str) ++ dL.shown from if_neg (by rw [hc]; exact Bool.false_ne_true)] at f
        exact f
    rintro _ HA ⟨q', rfl, hq', sA⟩
    refine a_ret (fun v H' => v = .bl true ∧ H' = HA) (fun Q' kQ => ?_) (fun v H' e => by rw [e.1, e.2]; exact k _ (m.trans (n.same sA)))
    have okAll : ∀ w ∈ [firstW [wrongS dA, "row"], firstW [wrongS dA, "row"], wrongS dA, firstW [wrongS dA, letS dL], "row", "row", "form"], PyData.strOk w = true := fun w hw => by
      simp only [List.mem_cons, List.not_mem_nil, or_false] at hw
      rcases hw with e | e | e | e | e | e | e <;> rw [e]
      · exact first_ok okW
      · exact first_ok okW
      · exact soA
      · exact first_ok okV
      · decide +kernel
      · decide +kernel
      · decide +kernel
    refine ⟨_, rfl, _, rfl, _, _, strsX _ (sA _ _ hp) K, strsX _ hq' K, shaped_strs _ okAll, shaped_strs _ okAll, ?_⟩
    exact kQ _ _ ⟨congrArg V.bl (eqv_strs _), rfl⟩

theorem c_trims {CF CR CN fI cT PR PT : Addr} (T : Txt K mg) (hne : PR ≠ PT) (M : MetTxt K mg CF CR CN) (O : OwnInvalidNumber.Txt K mg CN fI) (TB : LamX.TabB base mg cT PT)
    (C__law_pick : CalG P w K mg base 2 "_law_pick" ["_law_dice_here", "_law_items"] (spPick K)) (C_trimmed : CalXQ false P w K mg base 7 "trimmed" ["forms"] (spTrimX CR))
    (D_law_met : DefAt K mg "_law_met" s__law_met ["_law_call"]) (D : DefAtC K mg "_law_trims_right" s__law_trims_right ["_law_dice_here"] cT) :
    CalG P w K mg base 12 "_law_trims_right" ["_law_dice_here"] (spTrueT (tabsT PR PT)) := by
  refine calOkC D sc__law_trims_right (fun xs H Q E h => ?_) (fun f A out s H xs Q E hgd hr h => ?_)
  · obtain ⟨d, rfl, _⟩ := h
    rfl
  · obtain ⟨d, rfl, hd, ht, k⟩ := h
    have nd := sc__law_trims_right.nd
    have hmT : (PT, (envOfC "_law_trims_right" (defScope s__law_trims_right) 0 0 .none).qual ++ "<lambda>") ∈ tabsT PR PT := List.mem_cons_of_mem _ List.mem_cons_self
    have huT : ∀ p ∈ tabsT PR PT, p.1 = PT → p.2 = (envOfC "_law_trims_right" (defScope s__law_trims_right) 0 0 .none).qual ++ "<lambda>" := fun p hp e => by
      rcases List.mem_cons.mp hp with z | z
      · rw [z] at e
        exact absurd e hne
      · rw [List.mem_singleton.mp z]
    refine ⟨_, (pss_cons (ps_set (i := 1) nd rfl (.inl rfl) (pe_lst (pa_cons pe_non (pa_cons pe_int (pa_cons pe_str (pa_cons (pe_lst (pa_cons (pe_tup (pa_cons pe_int (pa_cons pe_int pa_nil))) pa_nil)) (pa_cons (pe_tup (pa_cons (pe_tup (pa_cons pe_int (pa_cons pe_int pa_nil))) pa_nil)) (pa_cons (pe_tup (pa_cons (pe_tup (pa_cons pe_int (pa_cons pe_int pa_nil))) (pa_cons pe_non pa_nil))) (pa_cons pe_dnewK (pa_cons (pe_op op_repD (pe_tup (pa_cons (pe_tup (pa_cons pe_int (pa_cons pe_int pa_nil))) pa_nil)) pe_int) (pa_cons (pe_tup (pa_cons (pe_tup (pa_cons pe_int (pa_cons pe_int pa_nil))) (pa_cons (pe_tup (pa_cons pe_int (pa_cons (pe_op op_sub pe_int pe_int) pa_nil))) pa_nil))) pa_nil)))))))))))
      (pss_cons (ps_set (i := 3) nd rfl (.inr rfl) (pe_k C__law_pick hgd hr (by decide) rfl (pa_cons (pv 0) (pa_cons (pe_op op_cat (pv 1) (pe_lst (pa_cons (pe_tup (pa_cons pe_int (pa_cons pe_int pa_nil))) (pa_cons (pe_tup (pa_cons (pe_tup (pa_cons pe_int pa_nil)) pa_nil)) pa_nil)))) pa_nil))))
      (pss_cons (ps_set (i := 2) nd rfl (.inl rfl) (pe_lst (pa_cons (pe_met T M O D_law_met hgd rfl TB rfl hmT huT hr (LamX.lamS_by (sc := defScope s__law_trims_right) (by decide +kernel)) rfl (fun _ _ _ _ _ => rfl) (fun A outer s H E f c' hr2 => pe_kxq (gq := false) C_trimmed (takes_of rfl rfl rfl rfl) (fun z => Bool.noConfusion z) hr2 (by decide) rfl (pa_cons (pv 3) pa_nil))) pa_nil)))
      (pss_cons (ps_expr (pe_bm PySem.F.plainAttrs_list PySem.F.slot_list_append PySem.F.type_list_append mt_append (pv 2) (pa_cons (pe_met T M O D_law_met hgd rfl TB rfl hmT huT hr (LamX.lamS_by (sc := defScope s__law_trims_right) (by decide +kernel)) rfl (fun _ _ _ _ _ => rfl) (fun A outer s H E f c' hr2 => pe_kxq (gq := false) C_trimmed (takes_of rfl rfl rfl rfl) (fun z => Bool.noConfusion z) hr2 (by decide) rfl (pa_cons (pe_op op_repD (pe_tup (pa_cons (pe_tup (pa_cons pe_int (pa_cons pe_int pa_nil))) pa_nil)) pe_int) pa_nil))) pa_nil)))
      (pss_cons (ps_expr (pe_bm PySem.F.plainAttrs_list PySem.F.slot_list_append PySem.F.type_list_append mt_append (pv 2) (pa_cons (pe_met T M O D_law_met hgd rfl TB rfl hmT huT hr (LamX.lamS_by (sc := defScope s__law_trims_right) (by decide +kernel)) rfl (fun _ _ _ _ _ => rfl) (fun A outer s H E f c' hr2 => pe_kxq (gq := false) C_trimmed (takes_of rfl rfl rfl rfl) (fun z => Bool.noConfusion z) hr2 (by decide) rfl (pa_cons (pe_tup (pa_cons (pe_tup (pa_cons pe_int (pa_cons pe_int pa_nil))) (pa_cons (pe_tup (pa_cons pe_int (pa_cons pe_int pa_nil))) pa_nil))) pa_nil))) pa_nil)))
      (pss_one (ps_ret (pe_cmpR (op_eqD hr.units) (pv 2) (pe_lst (pa_cons pe_str (pa_cons pe_str (pa_cons pe_str pa_nil)))) (nomark _))))))))), ?_⟩
    have m := MvT.refl hd ht
    -- odd
    refine a_set (fun v H' => ∃ p, v = .ref p ∧ Dx (hide d H') (.ref p) (.list TODD) ∧ MvT (tabsT PR PT) d H H') (fun Q' kQ => ?_) ?_

    · refine ⟨(by show 2 ≤ sizeLine; decide), fun p1 n1 => ?_⟩
      obtain ⟨m, x1, gr⟩ := newT m n1 (.cons (.int _) (.cons (.int _) .nil))
      clear gr
      refine ⟨(by show 1 ≤ sizeLine; decide), fun p2 n2 => ?_⟩
      obtain ⟨m, x2, gr⟩ := newL m n2 (.cons x1 .nil)
      clear gr
      refine ⟨(by show 2 ≤ sizeLine; decide), fun p3 n3 => ?_⟩
      obtain ⟨m, x3, gr⟩ := newT m n3 (.cons (.int _) (.cons (.int _) .nil))
      replace x2 := gr x2
      clear gr
      refine ⟨(by show 1 ≤ sizeLine; decide), fun p4 n4 => ?_⟩
      obtain ⟨m, x4, gr⟩ := newT m n4 (.cons x3 .nil)
      replace x2 := gr x2
      clear gr
      refine ⟨(by show 2 ≤ sizeLine; decide), fun p5 n5 => ?_⟩
      obtain ⟨m, x5, gr⟩ := newT m n5 (.cons (.int _) (.cons (.int _) .nil))
      replace x2 := gr x2
      replace x4 := gr x4
      clear gr
      refine ⟨(by show 2 ≤ sizeLine; decide), fun p6 n6 => ?_⟩
      obtain ⟨m, x6, gr⟩ := newT m n6 (.cons x5 (.cons .non .nil))
      replace x2 := gr x2
      replace x4 := gr x4
      clear gr
      refine fun p7 n7 => ?_
      obtain ⟨m, x7, gr⟩ := newD m n7
      replace x2 := gr x2
      replace x4 := gr x4
      replace x6 := gr x6
      clear gr
      refine ⟨(by show 2 ≤ sizeLine; decide), fun p8 n8 => ?_⟩
      obtain ⟨m, x8, gr⟩ := newT m n8 (.cons (.int _) (.cons (.int _) .nil))
      replace x2 := gr x2
      replace x4 := gr x4
      replace x6 := gr x6
      replace x7 := gr x7
      clear gr
      refine ⟨(by show 1 ≤ sizeLine; decide), fun p9 n9 => ?_⟩
      obtain ⟨m, x9, gr⟩ := newT m n9 (.cons x8 .nil)
      replace x2 := gr x2
      replace x4 := gr x4
      replace x6 := gr x6
      replace x7 := gr x7
      clear gr
      refine ⟨d, 201, _, rfl, m.dice, x9, List.cons_ne_nil _ _, (by decide), (by decide), (by show 1 ≤ 1000; decide), fun p10 H10 mv10 x10 => ?_⟩
      replace x2 := mv10.dx x2
      replace x4 := mv10.dx x4
      replace x6 := mv10.dx x6
      replace x7 := mv10.dx x7
      replace m := m.mv mv10
      refine ⟨(by show 2 ≤ sizeLine; decide), fun p11 n11 => ?_⟩
      obtain ⟨m, x11, gr⟩ := newT m n11 (.cons (.int _) (.cons (.int _) .nil))
      replace x2 := gr x2
      replace x4 := gr x4
      replace x6 := gr x6
      replace x7 := gr x7
      replace x10 := gr x10
      clear gr
      refine ⟨_, _, rfl, rfl, (by show 2 ≤ sizeLine; decide), fun p12 n12 => ?_⟩
      obtain ⟨m, x12, gr⟩ := newT m n12 (.cons (.int _) (.cons (.int _) .nil))
      replace x2 := gr x2
      replace x4 := gr x4
      replace x6 := gr x6
      replace x7 := gr x7
      replace x10 := gr x10
      replace x11 := gr x11
      clear gr
      refine ⟨(by show 2 ≤ sizeLine; decide), fun p13 n13 => ?_⟩
      obtain ⟨m, x13, gr⟩ := newT m n13 (.cons x11 (.cons x12 .nil))
      replace x2 := gr x2
      replace x4 := gr x4
      replace x6 := gr x6
      replace x7 := gr x7
      replace x10 := gr x10
      clear gr
      refine ⟨(by show 9 ≤ sizeLine; decide), fun p14 n14 => ?_⟩
      obtain ⟨m, x14, gr⟩ := newL m n14 (.cons .non (.cons (.int _) (.cons (.str _) (.cons x2 (.cons x4 (.cons x6 (.cons x7 (.cons x10 (.cons x13 .nil)))))))))
      clear gr
      exact kQ _ _ ⟨_, rfl, x14, m⟩
    rintro _ H2 ⟨po, rfl, xo, m⟩
    -- wrong
    refine a_set (fun v H' => ∃ dat, dat ∈ TODD ++ TMORE ∧ Dx (hide d H') v dat ∧ MvT (tabsT PR PT) d H H') (fun Q' kQ => ?_) ?_

    · refine ⟨_, rfl, _, rfl, (by show 2 ≤ sizeLine; decide), fun p1 n1 => ?_⟩
      obtain ⟨m, x1, gr⟩ := newT m n1 (.cons (.int _) (.cons (.int _) .nil))
      replace xo := gr xo
      clear gr
      refine ⟨(by show 1 ≤ sizeLine; decide), fun p2 n2 => ?_⟩
      obtain ⟨m, x2, gr⟩ := newT m n2 (.cons (.int _) .nil)
      replace xo := gr xo
      replace x1 := gr x1
      clear gr
      refine ⟨(by show 1 ≤ sizeLine; decide), fun p3 n3 => ?_⟩
      obtain ⟨m, x3, gr⟩ := newT m n3 (.cons x2 .nil)
      replace xo := gr xo
      replace x1 := gr x1
      clear gr
      refine ⟨(by show 2 ≤ sizeLine; decide), fun p4 n4 => ?_⟩
      obtain ⟨m, x4, gr⟩ := newL m n4 (.cons x1 (.cons x3 .nil))
      replace xo := gr xo
      clear gr
      obtain ⟨xs, ha, ne, hxs⟩ := lst_in xo
      obtain ⟨zs, hz, nez, hzs⟩ := lst_in x4
      refine ⟨po, p4, xs, zs, rfl, rfl, ha, hz, (by rw [hxs.len, hzs.len]; show 11 ≤ sizeLine; decide), fun q nq => ?_⟩
      obtain ⟨m, xq, gr⟩ := newL m nq (hxs.append hzs)
      obtain ⟨ys, hy, ney, hys⟩ := lst_in xq
      refine ⟨d, q, ys, rfl, m.dice, SqL.of hy, ney, (by rw [hys.len]; show 0 < 11; decide), (by rw [hys.len]; show 11 ≤ 1000; decide), fun j x H9 ej mm _ => ?_⟩
      obtain ⟨dat, hm, hx⟩ := picked hys mm ej
      exact kQ _ _ ⟨dat, hm, hx, m.mv mm⟩
    rintro vW H6 ⟨dW, hW, xW, m⟩
    have nW := forms_wrong dW hW
    have n := MvT.refl m.dice m.tabs
    -- told
    refine a_set (fun v H' => ∃ p, v = .ref p ∧ p ≠ d ∧ NewAt H6 p ∧ H' p = some (.lst ([("row" : Str)].map V.str)) ∧ MvT (tabsT PR PT) d H6 H') (fun Q' kQ => ?_) ?_
    · refine ⟨n.tabs, fun L1 e1 t1 => ?_⟩
      replace n := n.lam e1 t1
      refine ⟨_, rfl, vW, dW, rfl, (n.dx xW).seen, fun fs e b => absurd (nW.symm.trans b) Bool.false_ne_true, fun hb L2 s2 => ?_⟩
      refine .inr (.inl ⟨rfl, ?_⟩)
      replace n := n.same s2
      exact ⟨(by show 1 ≤ sizeLine; decide), fun p np => kQ _ _ ⟨p, rfl, n.dice.ne np, n.newAt np, upd_same, n.new np⟩⟩
    rintro _ H7 ⟨p, rfl, pd, pn, hp, n⟩
    refine a_expr (fun H' => H' p = some (.lst ([("row" : Str), ""].map V.str)) ∧ MvT (tabsT PR PT) d H6 H') (fun Q' kQ => ?_) (fun H8 h8 => ?_)
    · refine ⟨_, rfl, .inl ⟨rfl, _, SqL.of hp⟩, n.tabs, fun L1 e1 t1 => ?_⟩
      replace n := n.lam e1 t1
      replace hp := ext_lst e1 hp
      refine ⟨(by show 2 ≤ sizeLine; decide), fun p1 n1 => ?_⟩
      replace hp := same_new (o := .tup [.int 0, .int 0]) n1 _ _ hp
      obtain ⟨n, x1, _⟩ := newT n n1 (.cons (.int 0) (.cons (.int 0) .nil))
      refine ⟨(by show 1 ≤ sizeLine; decide), fun p2 n2 => ?_⟩
      replace hp := same_new (o := .tup [.ref p1]) n2 _ _ hp
      obtain ⟨n, x2, _⟩ := newT n n2 (.cons x1 .nil)
      refine ⟨d, 200, _, rfl, n.dice, x2, List.cons_ne_nil _ _, (by decide), (by decide), (by show 1 ≤ 1000; decide), fun v3 L3 m3 x3 => ?_⟩
      replace hp := m3.get pd hp
      replace n := n.mv m3
      have r3 : formsB (.tuple (List.replicate (Int.toNat 200) [.tuple [.int 0, .int 0]]).flatten) = true := by decide +kernel
      refine ⟨v3, _, rfl, x3.seen, fun fs e b v4 L2 s2 _ => ?_, fun hb => absurd (r3.symm.trans hb) Bool.noConfusion⟩
      replace hp := s2 _ _ hp
      replace n := n.same s2
      exact ⟨p, _, _, rfl, rfl, hp, (by show 1 < sizeLine; decide), kQ _ _ ⟨upd_same, n.put2 pn pd hp⟩⟩
    clear hp n
    obtain ⟨hp, n⟩ := h8
    refine a_expr (fun H' => H' p = some (.lst ([("row" : Str), "", ""].map V.str)) ∧ MvT (tabsT PR PT) d H6 H') (fun Q' kQ => ?_) (fun H9 h9 => ?_)
    · refine ⟨_, rfl, .inl ⟨rfl, _, SqL.of hp⟩, n.tabs, fun L1 e1 t1 => ?_⟩
      replace n := n.lam e1 t1
      replace hp := ext_lst e1 hp
      refine ⟨(by show 2 ≤ sizeLine; decide), fun p1 n1 => ?_⟩
      replace hp := same_new (o := .tup [.int 1, .int 7]) n1 _ _ hp
      obtain ⟨n, x1, g1⟩ := newT n n1 (.cons (.int 1) (.cons (.int 7) .nil))
      refine ⟨(by show 2 ≤ sizeLine; decide), fun p2 n2 => ?_⟩
      replace hp := same_new (o := .tup [.int 0, .int 0]) n2 _ _ hp
      obtain ⟨n, x2, g2⟩ := newT n n2 (.cons (.int 0) (.cons (.int 0) .nil))
      refine ⟨(by show 2 ≤ sizeLine; decide), fun p3 n3 => ?_⟩
      replace hp := same_new (o := .tup [.ref p1, .ref p2]) n3 _ _ hp
      obtain ⟨n, x3, g3⟩ := newT n n3 (.cons (g2 x1) (.cons x2 .nil))
      have r3 : formsB (.tuple [.tuple [.int 1, .int 7], .tuple [.int 0, .int 0]]) = true := by decide +kernel
      refine ⟨.ref p3, _, rfl, x3.seen, fun fs e b v4 L2 s2 _ => ?_, fun hb => absurd (r3.symm.trans hb) Bool.noConfusion⟩
      replace hp := s2 _ _ hp
      replace n := n.same s2
      exact ⟨p, _, _, rfl, rfl, hp, (by show 2 < sizeLine; decide), kQ _ _ ⟨upd_same, n.put2 pn pd hp⟩⟩
    clear hp n
    obtain ⟨hp, n⟩ := h9
    refine a_ret (fun v H' => v = .bl true ∧ Same H9 H') (fun Q' kQ => ?_) (fun v H' e => by rw [e.1]; exact k _ (m.trans (n.same e.2)))
    have okAll : ∀ w ∈ [("row" : Str), "", ""], PyData.strOk w = true := by decide +kernel
    refine ⟨_, rfl, (by show 3 ≤ sizeLine; decide), fun q nq => ?_⟩
    have s1 := same_new (o := .lst [.str "row", .str "", .str ""]) nq
    refine ⟨_, _, strsX _ (s1 _ _ hp) K, strsX [("row" : Str), "", ""] upd_same K, shaped_strs _ okAll, shaped_strs _ okAll, ?_⟩
    exact kQ _ _ ⟨congrArg V.bl (eqv_strs _), s1⟩
/-! ## the law -/
def spLawT (K : PySem.W.Frag) (T : List (Addr × Str)) : Sp := fun vs H Q _ => ∃ (a : Addr) (ns : List Int), vs = [.ref a] ∧ SqL K H a (ns.map V.int) ∧ ns.length ≤ 63 ∧ LamX.Tabs T H ∧ ∀ H', Q (.bl true) H'
theorem sql_ext {H H' : Hp} {a : Addr} {xs : List V} (e : LamX.ExtN H H') (h : SqL K H a xs) : SqL K H' a xs := by
  rcases h with (h | ⟨o, h⟩) | h
  · exact .inl (.inl (e _ _ h fun _ z => by cases z))
  · exact .inl (.inr ⟨o, e _ _ h fun _ z => by cases z⟩)
  · exact .inr h
theorem MvT.out {T : List (Addr × Str)} {d : Addr} {H H' : Hp} {o : HO} (n : H d = none) (m : MvT T d (upd H d o) H') : LamX.ExtN H H' := fun b u e k => by
  have nb : b ≠ d := ne_of_none e n
  have q := m.ext b u (by rw [hide_ne nb, upd_ne nb]; exact e) k
  rw [hide_ne nb] at q
  exact q
theorem tabs_new {T : List (Addr × Str)} {H : Hp} {p : Addr} {o : HO} (t : LamX.Tabs T H) (n : H p = none) : LamX.Tabs T (upd H p o) := t.ext (same_new n)
end

section
variable {P : Program} {w : World} {K : PySem.W.Frag} {mg : Str → Option Value}
theorem c_law {fa CF CR CN fI cR PR cT PT : Addr} (T : Txt K mg) (hf : mg "law" = some (.ref fa)) (hne : PR ≠ PT) (M : MetTxt K mg CF CR CN) (O_InvalidNumber : OwnInvalidNumber.Txt K mg CN fI)
    (X_InvalidRow : ErrAt K mg "InvalidRow" CR veL "ValueError.__new__") (X_InvalidForm : ErrAt K mg "InvalidForm" CF veL "ValueError.__new__")

    (D_is_integer : DefAt K mg "is_integer" s_is_integer ["value"])
    (D_is_count : DefAt K mg "is_count" s_is_count ["value"])
    (D_is_within : DefAt K mg "is_within" s_is_within ["value", "least", "greatest"])
    (D_is_pair_within : DefAt K mg "is_pair_within" s_is_pair_within ["value", "least", "greatest"])
    (D_check_forms : DefAt K mg "check_forms" s_check_forms ["forms"])
    (D_without : DefAt K mg "without_empty_end" s_without_empty_end ["forms"])
    (D_mirrored_pair : DefAt K mg "mirrored_pair" s_mirrored_pair ["pair"])
    (D_sums_of : DefAt K mg "sums_of" s_sums_of ["arity", "row"])
    (D_is_pair : DefAt K mg "is_pair" s_is_pair ["value"])
    (D_is_form : DefAt K mg "is_form" s_is_form ["value"])
    (D_are_forms : DefAt K mg "are_forms" s_are_forms ["value"])
    (D_is_row : DefAt K mg "is_row" s_is_row ["value"])
    (D_check_row : DefAt K mg "check_row" s_check_row ["row"])
    (D_check_arity : DefAt K mg "check_arity" s_check_arity ["arity"])
    (D_write_pair : DefAt K mg "write_pair" s_write_pair ["pair"])
    (D_write_row : DefAt K mg "write_row" s_write_row ["row"])
    (D_trimmed : DefAt K mg "trimmed" s_trimmed ["forms"])
    (D_mirrored_row : DefAt K mg "mirrored_row" s_mirrored_row ["row"])
    (D_length_of : DefAt K mg "length_of" s_length_of ["arity", "row"])
    (D_sides_of : DefAt K mg "sides_of" s_sides_of ["arity", "row"])
    (D_levels_for : DefAt K mg "levels_for" s_levels_for ["arity", "length"])
    (D__least_levels : DefAt K mg "_least_levels" s__least_levels ["arity", "length"])
    (D__greatest_levels : DefAt K mg "_greatest_levels" s__greatest_levels ["arity", "length"])
    (D__law_dice : DefAt K mg "_law_dice" s__law_dice ["_law_script", "_law_spot"])
    (D__law_roll : DefAt K mg "_law_roll" s__law_roll ["_law_dice_here", "_law_total"])
    (D__law_pick : DefAt K mg "_law_pick" s__law_pick ["_law_dice_here", "_law_items"])
    (D__law_met : DefAt K mg "_law_met" s__law_met ["_law_call"])
    (D__law_first : DefAt K mg "_law_first" s__law_first ["_law_words"])
    (D_law : DefAt K mg "law" s_law ["_law_script"])
    (DC_right : DefAtC K mg "_law_right" s__law_right ["_law_dice_here"] cR) (DC_trims : DefAtC K mg "_law_trims_right" s__law_trims_right ["_law_dice_here"] cT) :
    ∃ fd : FuncData, (∀ (s : Shared) (u : Value), BindsTo s fd ⟨[u], []⟩ [("_law_script", u)]) ∧
      ∀ base : Heap, K.In base → base.Ns mainGlobals mg → (∀ p ∈ [(cR, PR), (cT, PT)], LamX.TabB base mg p.1 p.2) → FnG P w K mg base CX0 13 fa fd ["_law_script"] (spLawT K (tabsT PR PT)) := by
  refine lawOkT hf D_law sc_law (fun xs H Q E h => ?_) (fun base hK hN hTB f cdv A out s H xs Q E hgd hr h => ?_)
  · obtain ⟨a, ns, rfl, _⟩ := h
    rfl
  · obtain ⟨a, ns, rfl, hS, hlen, hT, k⟩ := h
    have nd := sc_law.nd
    have TBR : LamX.TabB base mg cR PR := hTB (cR, PR) List.mem_cons_self
    have TBT : LamX.TabB base mg cT PT := hTB (cT, PT) (List.mem_cons_of_mem _ List.mem_cons_self)
    have C_is_integer : CalQ false P w K mg base 1 "is_integer" ["value"] (spJ intB) := c_is_integer T D_is_integer
    have C_is_count : CalQ false P w K mg base 2 "is_count" ["value"] (spJ countB) := c_countJ T C_is_integer D_is_count
    have C_is_pair : CalQ false P w K mg base 2 "is_pair" ["value"] (spJ pairB) := c_is_pair T C_is_integer D_is_pair
    have C_is_within : CalQ false P w K mg base 2 "is_within" ["value", "least", "greatest"] spWithin := c_is_within T C_is_integer D_is_within
    have C_is_pair_within : CalQ false P w K mg base 3 "is_pair_within" ["value", "least", "greatest"] spPairWithin := c_is_pair_within T C_is_pair D_is_pair_within
    have C_is_form : CalQ false P w K mg base 4 "is_form" ["value"] (spJ formB) := c_is_form T C_is_pair_within D_is_form
    have C_are_forms : CalQ false P w K mg base 5 "are_forms" ["value"] (spJ formsB) := c_are_forms T C_is_form D_are_forms
    have C_is_row : CalQ false P w K mg base 6 "is_row" ["value"] (spJ rowB) := c_is_row T C_are_forms D_is_row
    have C_check_row : CalXQ false P w K mg base 7 "check_row" ["row"] (spCheckX rowB CR) := x_check_row T X_InvalidRow C_is_row D_check_row
    have C_check_arity : CalXQ false P w K mg base 3 "check_arity" ["arity"] (spArityX CN) := x_check_arity T O_InvalidNumber C_is_within D_check_arity
    have C_trimmed : CalXQ false P w K mg base 7 "trimmed" ["forms"] (spTrimX CR) := x_trimmed T (x_check_forms T X_InvalidRow C_are_forms D_check_forms) (c_without T D_without) D_trimmed
    have C_mirrored_row : CalXQ false P w K mg base 8 "mirrored_row" ["row"] (spMirrorX CR) := x_mirrored T (c_mirrored_pair T D_mirrored_pair) C_check_row D_mirrored_row
    have C_sides_of : CalXQ false P w K mg base 8 "sides_of" ["arity", "row"] (spSidesX CN CR) := x_sides T C_check_arity C_check_row (c_sums T D_sums_of) D_sides_of
    have C_length_of : CalXQ false P w K mg base 9 "length_of" ["arity", "row"] (spLengthX CN CR) := x_length T C_sides_of D_length_of
    have C_levels_for : CalXQ false P w K mg base 4 "levels_for" ["arity", "length"] (spLevelsX CN) := x_levels T O_InvalidNumber C_check_arity C_is_count (c_least T D__least_levels) (c_most T D__greatest_levels) D_levels_for
    have C_write_row : CalXQ false P w K mg base 8 "write_row" ["row"] (spBadX rowB CR) := x_write_row T C_check_row D_write_row
    have C_write_pair : CalXQ false P w K mg base 3 "write_pair" ["pair"] (spBadX pairB CF) := x_write_pair T X_InvalidForm C_is_pair D_write_pair
    have C__law_dice : CalG P w K mg base 1 "_law_dice" ["_law_script", "_law_spot"] (spDice K) := c_dice T D__law_dice
    have C__law_roll : CalG P w K mg base 1 "_law_roll" ["_law_dice_here", "_law_total"] spRoll := c_roll T D__law_roll
    have C__law_pick : CalG P w K mg base 2 "_law_pick" ["_law_dice_here", "_law_items"] (spPick K) := c_pick T C__law_roll D__law_pick
    have C__law_first := c_first (P := P) (w := w) (base := base) T D__law_first
    have C__law_right : CalG P w K mg base 12 "_law_right" ["_law_dice_here"] (spTrueT (tabsT PR PT)) := c_right T hne M O_InvalidNumber TBR C__law_pick C__law_first C_length_of C_sides_of C_levels_for C_write_row C_mirrored_row C_write_pair D__law_met DC_right
    have C__law_trims_right : CalG P w K mg base 12 "_law_trims_right" ["_law_dice_here"] (spTrueT (tabsT PR PT)) := c_trims T hne M O_InvalidNumber TBT C__law_pick C_trimmed D__law_met DC_trims
    refine ⟨_, (pss_cons (ps_for PassesOwn.never rfl (pi_range1 rfl T.range (pa_cons (pe_callB (call_max2 rfl) (by rfl) T.max (by decide +kernel) (pa_cons pe_int (pa_cons (pe_callB (call_min2 rfl) (by rfl) T.min (by decide +kernel) (pa_cons pe_int (pa_cons (pe_callB call_len_seq (by rfl) T.len (by decide +kernel) (pa_cons (pv 0) pa_nil)) pa_nil))) pa_nil))) pa_nil)) (pg_name (i := 1) nd rfl (.inl rfl)) (pss_cons (ps_set (i := 2) nd rfl (.inl rfl) (pe_k C__law_dice hgd hr (by decide) rfl (pa_cons (pv 0) (pa_cons (pv 1) pa_nil))))
        (pss_one (ps_for PassesOwn.never rfl (pi_range1 rfl T.range (pa_cons pe_int pa_nil)) (pg_name (i := 3) nd rfl (.inl rfl)) (pss_one (ps_if (PW.pt (pw_or (pt_not (pt_val (pe_k C__law_right hgd hr (by decide) rfl (pa_cons (pv 2) pa_nil)))) (pw_or1 (pt_not (pt_val (pe_k C__law_trims_right hgd hr (by decide) rfl (pa_cons (pv 2) pa_nil))))))) (pss_one (ps_ret pe_bl)) pss_nil))))))
      (pss_one (ps_ret pe_bl))), ?_⟩
    refine ⟨_, rfl, _, _, rfl, .inl hS, _, _, rfl, _, _, rfl, _, rfl, ?_, ?_, ?_⟩
    · rw [List.length_map]; split <;> split <;> omega
    · rw [List.length_map]; split <;> split <;> omega
    refine for_range (fun i σ H' => ∃ v1 v2 v3, σ = [some (.ref a), v1, v2, v3] ∧ LamX.ExtN H H' ∧ LamX.Tabs (tabsT PR PT) H') ?_ ?_ ?_
    · exact ⟨_, _, _, rfl, LamX.ExtN.refl _, hT⟩
    · rintro i σ H0 hi ⟨v1, v2, v3, rfl, e0, t0⟩
      refine ⟨_, rfl, _, rfl, a, ns, i, (by show [V.ref a, V.int (0 + (i : Int))] = _; rw [Int.zero_add]), sql_ext e0 hS, Nat.le_trans hlen (by decide), fun d l0 q0 c0 nd0 => ?_⟩
      have dd : DiceAt (upd H0 d (.lst [.int l0, .int q0, .int c0])) d := ⟨_, _, _, upd_same⟩
      refine ⟨4, rfl, (by decide), (by decide), ?_⟩
      refine for_range (fun i σ H' => ∃ v1 v3, σ = [some (.ref a), v1, some (.ref d), v3] ∧ MvT (tabsT PR PT) d (upd H0 d (.lst [.int l0, .int q0, .int c0])) H') ?_ ?_ ?_
      · exact ⟨_, _, rfl, MvT.refl dd (tabs_new t0 nd0)⟩
      · rintro i' σ H1 hi' ⟨v1, v3, rfl, m0⟩
        refine a_if1 (fun b H' => b = false ∧ MvT (tabsT PR PT) d (upd H0 d (.lst [.int l0, .int q0, .int c0])) H') (fun Q' kQ => ?_) (fun H' h => nomatch h.1) (fun H6 h => ?_)
        · refine ⟨_, rfl, d, rfl, m0.dice, m0.tabs, fun H2 m2 => ⟨_, rfl, ?_⟩⟩
          refine ⟨_, rfl, d, rfl, m2.dice, m2.tabs, fun H3 m3 => ⟨_, rfl, ?_⟩⟩
          exact kQ _ _ ⟨rfl, (m0.trans m2).trans m3⟩
        · exact ⟨_, _, rfl, h.2⟩
      · rintro σ H1 ⟨v1, v3, rfl, m0⟩
        exact ⟨_, _, _, rfl, e0.trans (MvT.out nd0 m0), m0.tabs⟩
    · rintro σ H' ⟨v1, v2, v3, rfl, e0, t0⟩
      exact k H'
end
end G

set_option Elab.async false
set_option linter.all false
open PySem PySem.W PyProof.Rows in
set_option maxRecDepth 100000 in
set_option maxHeartbeats 0 in
theorem PySem.Challenge.cw_fingerbooks_k07_errors_of_forms_holds : PySem.Challenge.rw_fingerbooks_k07_errors_of_forms.Holds := by
  w_on; o_law; k_head; (case hw => w_witness2)
  k_fill
  refine G.endGT (n := 63) (k := 13) (x := "_law_script") rfl (by decide) rfl ⟨rfl, by decide, by decide⟩ (fun w h Y => PySem.W.km_in_of Y) ?F
  case F =>
    intro w mg fa h HT KX gl hmg
    have H_law_right := HT _ "_law_right" 265 261 rfl (by kernel_rfl)
    have H_law_trims_right := HT _ "_law_trims_right" 272 268 rfl (by kernel_rfl)
    refine' G.packT (cs := [(265, 261), (272, 268)]) ?tb ?tn ?tc ?sp (G.c_law (cR := 265) (PR := 261) (cT := 272) (PT := 268) ⟨PySem.W.mg_none_of KX gl ?z1, PySem.W.mg_none_of KX gl ?z2, PySem.W.mg_none_of KX gl ?z3, PySem.W.mg_none_of KX gl ?z4, PySem.W.mg_none_of KX gl ?z5, PySem.W.mg_none_of KX gl ?z6, PySem.W.mg_none_of KX gl ?z7, PySem.W.mg_none_of KX gl ?z8, PySem.W.mg_none_of KX gl ?z9, PySem.W.mg_none_of KX gl ?z10, PySem.W.mg_none_of KX gl ?z11, PySem.W.mg_none_of KX gl ?z12, ⟨_, PySem.W.mg_of KX gl ?z13, ?z14⟩, ⟨_, PySem.W.mg_of KX gl ?z15, ?z16⟩, ⟨_, PySem.W.mg_of KX gl ?z17, ?z18⟩⟩ hmg (by decide) ⟨PySem.W.mg_of KX gl ?z19, PySem.W.mg_of KX gl ?z20, PySem.W.mg_of KX gl ?z21, ?z22, ?z23, ?z24, ?z25, ?z26, ?z27⟩ (OwnInvalidNumber.mk_txt KX gl ?z28 ?z29 ?z30 ?z31 ?z32 ?z33 ?z34 ?z35 ?z36 ?z37 ?z38 ?z39 ?z40 ?z41 ?z42 ?z43 ?z44 ?z45) ⟨PySem.W.mg_of KX gl ?z46, ?z47, ?z48, ?z49, ?z50⟩ ⟨PySem.W.mg_of KX gl ?z51, ?z52, ?z53, ?z54, ?z55⟩ (G.defAt KX gl ?z56 ?z57 ?z58 ?z59 ?z60) (G.defAt KX gl ?z61 ?z62 ?z63 ?z64 ?z65) (G.defAt KX gl ?z66 ?z67 ?z68 ?z69 ?z70) (G.defAt KX gl ?z71 ?z72 ?z73 ?z74 ?z75) (G.defAt KX gl ?z76 ?z77 ?z78 ?z79 ?z80) (G.defAt KX gl ?z81 ?z82 ?z83 ?z84 ?z85) (G.defAt KX gl ?z86 ?z87 ?z88 ?z89 ?z90) (G.defAt KX gl ?z91 ?z92 ?z93 ?z94 ?z95) (G.defAt KX gl ?z96 ?z97 ?z98 ?z99 ?z100) (G.defAt KX gl ?z101 ?z102 ?z103 ?z104 ?z105) (G.defAt KX gl ?z106 ?z107 ?z108 ?z109 ?z110) (G.defAt KX gl ?z111 ?z112 ?z113 ?z114 ?z115) (G.defAt KX gl ?z116 ?z117 ?z118 ?z119 ?z120) (G.defAt KX gl ?z121 ?z122 ?z123 ?z124 ?z125) (G.defAt KX gl ?z126 ?z127 ?z128 ?z129 ?z130) (G.defAt KX gl ?z131 ?z132 ?z133 ?z134 ?z135) (G.defAt KX gl ?z136 ?z137 ?z138 ?z139 ?z140) (G.defAt KX gl ?z141 ?z142 ?z143 ?z144 ?z145) (G.defAt KX gl ?z146 ?z147 ?z148 ?z149 ?z150) (G.defAt KX gl ?z151 ?z152 ?z153 ?z154 ?z155) (G.defAt KX gl ?z156 ?z157 ?z158 ?z159 ?z160) (G.defAt KX gl ?z161 ?z162 ?z163 ?z164 ?z165) (G.defAt KX gl ?z166 ?z167 ?z168 ?z169 ?z170) (G.defAt KX gl ?z171 ?z172 ?z173 ?z174 ?z175) (G.defAt KX gl ?z176 ?z177 ?z178 ?z179 ?z180) (G.defAt KX gl ?z181 ?z182 ?z183 ?z184 ?z185) (G.defAt KX gl ?z186 ?z187 ?z188 ?z189 ?z190) (G.defAt KX gl ?z191 ?z192 ?z193 ?z194 ?z195) (G.defAt KX gl ?z196 ?z197 ?z198 ?z199 ?z200) (G.defAtC KX gl ?z201 ?z202 ?z203 ?z204 ?z205) (G.defAtC KX gl ?z206 ?z207 ?z208 ?z209 ?z210))
    (case z1 => k_is)
    (case z2 => k_is)
    (case z3 => k_is)
    (case z4 => k_is)
    (case z5 => k_is)
    (case z6 => k_is)
    (case z7 => k_is)
    (case z8 => k_is)
    (case z9 => k_is)
    (case z10 => k_is)
    (case z11 => k_is)
    (case z12 => k_is)
    (case z13 => k_is)
    (case z14 => exact ⟨_, rfl⟩)
    (case z15 => k_is)
    (case z16 => exact ⟨_, rfl⟩)
    (case z17 => k_is)
    (case z18 => exact ⟨_, rfl⟩)
    (case z19 => k_is)
    (case z20 => k_is)
    (case z21 => k_is)
    (case z22 => first | k_is | kernel_rfl)
    (case z23 => first | k_is | kernel_rfl)
    (case z24 => first | k_is | kernel_rfl)
    (case z25 => first | k_is | kernel_rfl)
    (case z26 => first | k_is | kernel_rfl)
    (case z27 => first | k_is | kernel_rfl)
    (case z28 => k_is)
    (case z29 => k_is)
    (case z30 => decide +kernel)
    (case z31 => first | k_is | kernel_rfl)
    (case z32 => first | k_is | kernel_rfl)
    (case z33 => first | k_is | kernel_rfl)
    (case z34 => first | k_is | kernel_rfl)
    (case z35 => first | k_is | kernel_rfl)
    (case z36 => first | k_is | kernel_rfl)
    (case z37 => first | k_is | kernel_rfl)
    (case z38 => first | k_is | kernel_rfl)
    (case z39 => first | k_is | kernel_rfl)
    (case z40 => first | k_is | kernel_rfl)
    (case z41 => first | k_is | kernel_rfl)
    (case z42 => first | k_is | kernel_rfl)
    (case z43 => first | k_is | kernel_rfl)
    (case z44 => k_is)
    (case z45 => k_is)
    (case z46 => k_is)
    (case z47 => k_exc)
    (case z48 => k_is)
    (case z49 => k_is)
    (case z50 => k_is)
    (case z51 => k_is)
    (case z52 => k_exc)
    (case z53 => k_is)
    (case z54 => k_is)
    (case z55 => k_is)
    (case z56 => exact fun us hl => match us, hl with | [_], _ => rfl)
    (case z57 => k_is)
    (case z58 => k_is)
    (case z59 => k_is)
    (case z60 => k_is)
    (case z61 => exact fun us hl => match us, hl with | [_], _ => rfl)
    (case z62 => k_is)
    (case z63 => k_is)
    (case z64 => k_is)
    (case z65 => k_is)
    (case z66 => exact fun us hl => match us, hl with | [_, _, _], _ => rfl)
    (case z67 => k_is)
    (case z68 => k_is)
    (case z69 => k_is)
    (case z70 => k_is)
    (case z71 => exact fun us hl => match us, hl with | [_, _, _], _ => rfl)
    (case z72 => k_is)
    (case z73 => k_is)
    (case z74 => k_is)
    (case z75 => k_is)
    (case z76 => exact fun us hl => match us, hl with | [_], _ => rfl)
    (case z77 => k_is)
    (case z78 => k_is)
    (case z79 => k_is)
    (case z80 => k_is)
    (case z81 => exact fun us hl => match us, hl with | [_], _ => rfl)
    (case z82 => k_is)
    (case z83 => k_is)
    (case z84 => k_is)
    (case z85 => k_is)
    (case z86 => exact fun us hl => match us, hl with | [_], _ => rfl)
    (case z87 => k_is)
    (case z88 => k_is)
    (case z89 => k_is)
    (case z90 => k_is)
    (case z91 => exact fun us hl => match us, hl with | [_, _], _ => rfl)
    (case z92 => k_is)
    (case z93 => k_is)
    (case z94 => k_is)
    (case z95 => k_is)
    (case z96 => exact fun us hl => match us, hl with | [_], _ => rfl)
    (case z97 => k_is)
    (case z98 => k_is)
    (case z99 => k_is)
    (case z100 => k_is)
    (case z101 => exact fun us hl => match us, hl with | [_], _ => rfl)
    (case z102 => k_is)
    (case z103 => k_is)
    (case z104 => k_is)
    (case z105 => k_is)
    (case z106 => exact fun us hl => match us, hl with | [_], _ => rfl)
    (case z107 => k_is)
    (case z108 => k_is)
    (case z109 => k_is)
    (case z110 => k_is)
    (case z111 => exact fun us hl => match us, hl with | [_], _ => rfl)
    (case z112 => k_is)
    (case z113 => k_is)
    (case z114 => k_is)
    (case z115 => k_is)
    (case z116 => exact fun us hl => match us, hl with | [_], _ => rfl)
    (case z117 => k_is)
    (case z118 => k_is)
    (case z119 => k_is)
    (case z120 => k_is)
    (case z121 => exact fun us hl => match us, hl with | [_], _ => rfl)
    (case z122 => k_is)
    (case z123 => k_is)
    (case z124 => k_is)
    (case z125 => k_is)
    (case z126 => exact fun us hl => match us, hl with | [_], _ => rfl)
    (case z127 => k_is)
    (case z128 => k_is)
    (case z129 => k_is)
    (case z130 => k_is)
    (case z131 => exact fun us hl => match us, hl with | [_], _ => rfl)
    (case z132 => k_is)
    (case z133 => k_is)
    (case z134 => k_is)
    (case z135 => k_is)
    (case z136 => exact fun us hl => match us, hl with | [_], _ => rfl)
    (case z137 => k_is)
    (case z138 => k_is)
    (case z139 => k_is)
    (case z140 => k_is)
    (case z141 => exact fun us hl => match us, hl with | [_], _ => rfl)
    (case z142 => k_is)
    (case z143 => k_is)
    (case z144 => k_is)
    (case z145 => k_is)
    (case z146 => exact fun us hl => match us, hl with | [_, _], _ => rfl)
    (case z147 => k_is)
    (case z148 => k_is)
    (case z149 => k_is)
    (case z150 => k_is)
    (case z151 => exact fun us hl => match us, hl with | [_, _], _ => rfl)
    (case z152 => k_is)
    (case z153 => k_is)
    (case z154 => k_is)
    (case z155 => k_is)
    (case z156 => exact fun us hl => match us, hl with | [_, _], _ => rfl)
    (case z157 => k_is)
    (case z158 => k_is)
    (case z159 => k_is)
    (case z160 => k_is)
    (case z161 => exact fun us hl => match us, hl with | [_, _], _ => rfl)
    (case z162 => k_is)
    (case z163 => k_is)
    (case z164 => k_is)
    (case z165 => k_is)
    (case z166 => exact fun us hl => match us, hl with | [_, _], _ => rfl)
    (case z167 => k_is)
    (case z168 => k_is)
    (case z169 => k_is)
    (case z170 => k_is)
    (case z171 => exact fun us hl => match us, hl with | [_, _], _ => rfl)
    (case z172 => k_is)
    (case z173 => k_is)
    (case z174 => k_is)
    (case z175 => k_is)
    (case z176 => exact fun us hl => match us, hl with | [_, _], _ => rfl)
    (case z177 => k_is)
    (case z178 => k_is)
    (case z179 => k_is)
    (case z180 => k_is)
    (case z181 => exact fun us hl => match us, hl with | [_, _], _ => rfl)
    (case z182 => k_is)
    (case z183 => k_is)
    (case z184 => k_is)
    (case z185 => k_is)
    (case z186 => exact fun us hl => match us, hl with | [_], _ => rfl)
    (case z187 => k_is)
    (case z188 => k_is)
    (case z189 => k_is)
    (case z190 => k_is)
    (case z191 => exact fun us hl => match us, hl with | [_], _ => rfl)
    (case z192 => k_is)
    (case z193 => k_is)
    (case z194 => k_is)
    (case z195 => k_is)
    (case z196 => exact fun us hl => match us, hl with | [_], _ => rfl)
    (case z197 => k_is)
    (case z198 => k_is)
    (case z199 => k_is)
    (case z200 => k_is)
    (case z201 => exact fun us hl => match us, hl with | [_], _ => rfl)
    (case z202 => k_is)
    (case z203 => k_is)
    (case z204 => k_is)
    (case z205 => k_is)
    (case z206 => exact fun us hl => match us, hl with | [_], _ => rfl)
    (case z207 => k_is)
    (case z208 => k_is)
    (case z209 => k_is)
    (case z210 => k_is)
    (case tb =>
      intro p hp
      simp only [List.mem_cons, List.not_mem_nil, or_false] at hp
      rcases hp with rfl | rfl
      · exact H_law_right.2
      · exact H_law_trims_right.2)
    (case tc =>
      intro p hp
      simp only [List.mem_cons, List.not_mem_nil, or_false] at hp
      rcases hp with rfl | rfl
      · exact H_law_right.1
      · exact H_law_trims_right.1)
    (case tn =>
      intro p hp
      simp only [List.mem_cons, List.not_mem_nil, or_false] at hp
      rcases hp with rfl | rfl
      · kernel_rfl
      · kernel_rfl)
    (case sp =>
      intro H a ns hl hT hS
      refine ⟨a, ns, rfl, hS, hl, fun p hp => ?_, fun _ => rfl⟩
      simp only [G.tabsT, List.mem_cons, List.not_mem_nil, or_false] at hp
      rcases hp with rfl | rfl
      · exact LamX.TabS.nil (hT (265, 261) (by simp))
      · exact LamX.TabS.nil (hT (272, 268) (by simp)))

