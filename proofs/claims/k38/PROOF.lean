import PyProof.Rows.All
import Wide.All
import OpenK.AllK
import Wide.FinOn
import PyProof.ReprReads
import PyProof.ReprText
import PyProof.ReprLen
import PyProof.ReprBulk
import PyProof.ReprRoads
import HandS.ForMost
import HandS.IsInst
import HandS.Wide
import HandS.StrMore
import HandS.Codes
import KE.DataMinMax
import HandS.TupAny
import HandS.TupMul
import HandS.Style
import HandS.Conv
import HandS.Walk
import HandS.Exc
import HandS.ExcOwn
import HandS.WordsExc
import HandS.TryOnly
import HandS.TryMany
import HandS.Small
import PyProof.EqAt
import PyProof.EqKinds
import PyProof.TupleCall
import KE.KExcInit
import HandS.ForExc
import HandS.ExcInit
import Open.SpecLaws
import KE.OsGo
import HandS.Lambda
import HandS.EndTab
import KE.KNest
import PyProof.P3In
import PyProof.FactsAll.dict
import KE.GoesEnum
import HandS.Iter
import HandS.FStr
import HandS.Strs
import PySem.Challenge.RW_fingerbooks_k38_whole_places_judged
set_option Elab.async false
set_option linter.all false
set_option maxRecDepth 100000
set_option maxHeartbeats 2000000
namespace G
open PySem PySem.Spec PyProof.Rows L2

/-! ## Promises that hold where no text of an object is being written (guards empty) -/
structure FnG (P : Program) (w : World) (K : PySem.W.Frag) (mg : Str → Option Value) (base : Heap)
    (CX : CXT) (k : Nat) (f : Addr) (fd : FuncData) (ps : List Str) (sp : Sp) : Prop where
  len : ∀ xs H Q E, sp xs H Q E → xs.length = ps.length
  go : ∀ (A : Around) (out : List Env) (s : Shared) (H : Hp) (args : Args) (us : List Value) (xs : List V) (Q : VK) (E : XK),
    A.guards = some [] → Room k A → Env0 P w K mg base A out s H → BindsTo s fd args (ps.zip us) → Vals xs us → sp xs H Q E →
    codeAny (model P w) A (.call (.ref f) args) (CR CX out P w H s Q E) s

theorem FnG.ofOk {P w K mg base CX k f fd ps sp} (F : FnOk P w K mg base CX k f fd ps sp) : FnG P w K mg base CX k f fd ps sp :=
  ⟨F.len, fun A out s H args us xs Q E _ => F.run A out s H args us xs Q E⟩
theorem FnG.mono {P w K mg base CX j k f fd ps sp} (F : FnG P w K mg base CX j f fd ps sp) (h : j ≤ k) : FnG P w K mg base CX k f fd ps sp :=
  ⟨F.len, fun A out s H args us xs Q E hg hr => F.go A out s H args us xs Q E hg (hr.mono h)⟩

section
variable {X : Cx} {CX : CXT} {k : Nat} {f : Addr} {fd : FuncData} {ps : List Str} {sp : Sp} {dvs : List V} {ds : List Value} {E : XK}
theorem runG {pins : List (Addr × Obj)} {σ : L2.St} {H : Hp} {s : Shared} {Q : VK} {us : List Value} {xs : List V}
    (F : FnG X.prog X.w X.K X.mg X.base CX k f fd ps sp) (hgd : X.A.guards = some []) (hr : Room k X.A)
    (hb : Binds X.K fd ps ds) (hd : Vals dvs ds) (hx : Passes CX X E) (I : Inv X pins σ H s) (r : Vals xs us) (h : sp (xs ++ dvs) H Q E) :
    wpAny (model X.prog X.w) X.A (call (.ref f) us) (EP X pins σ Q) X.xe s := by
  have both : Vals (xs ++ dvs) (us ++ ds) := r.append hd
  have sz : (us ++ ds).length = ps.length := both.length.symm.trans (F.len _ _ _ _ h)
  have body := F.go X.A X.stack s H ⟨us, []⟩ (us ++ ds) (xs ++ dvs) Q E hgd hr I.env0 (hb s us I.kIn sz) both h
  refine wpAny_call (codeAny_mono body fun res t hq => ?_)
  match res, hq with
  | .error e, hq => exact hx pins σ H s e t I hq
  | .ok (.ret u), hq => exact I.after hq
  | .ok .next, hq => exact hq.elim
  | .ok .brk, hq => exact hq.elim
  | .ok .cont, hq => exact hq.elim

theorem pe_g {x : Str} {p pos : Pos} {e : Expr} {es : List Expr} {t : TA} (F : FnG X.prog X.w X.K X.mg X.base CX k f fd ps sp)
    (hgd : X.A.guards = some []) (hr : Room k X.A) (hg : Gl X x) (hm : X.mg x = some (.ref f)) (hk : PySem.W.keepIn X.K (.ref f) = true)
    (hb : Binds X.K fd ps ds) (hd : Vals dvs ds) (hx : Passes CX X E) (ha : PA X (e :: es) t)
    (hdb : (x == ("__debug__" : Str)) = false := by decide)
    (he : starEach (e :: es) X.env = (false, eval e X.env) :: starEach es X.env := by rfl)
    (hpl : (backTo pos (starEach es X.env)).any (·.1) = false := by rfl) :
    PE X (.Call (.Name x p) (e :: es) [] pos) (tCall sp dvs E t) :=
  ⟨fun pins s σ H Q I h => wpAny_Call_Name_kw (ld_glob I hg hm
    (PySem.W.callWith_K (h₀ := X.base) I.ok.mod.kin hk
      (thn (ha.run pos pins s σ H _ I h) fun us s1 ⟨xs, H1, I1, r, q⟩ => ⟨I1.kIn, runG F hgd hr hb hd hx I1 r q⟩) he hpl) hdb)⟩
theorem pe_g0 {x : Str} {p pos : Pos} (F : FnG X.prog X.w X.K X.mg X.base CX k f fd ps sp)
    (hgd : X.A.guards = some []) (hr : Room k X.A) (hg : Gl X x) (hm : X.mg x = some (.ref f)) (hk : PySem.W.keepIn X.K (.ref f) = true)
    (hb : Binds X.K fd ps ds) (hd : Vals dvs ds) (hx : Passes CX X E) (hdb : (x == ("__debug__" : Str)) = false := by decide) :
    PE X (.Call (.Name x p) [] [] pos) (tCall sp dvs E tNil) :=
  ⟨fun pins s σ H Q I h => wpAny_Call_Name_kw (ld_glob I hg hm (PySem.W.callWith_K0 I.kIn hk (runG (us := []) F hgd hr hb hd hx I .nil h)) hdb)⟩
end

/-- a def by its body, guards known -/
theorem okG {P : Program} {w : World} {K : PySem.W.Frag} {mg : Str → Option Value} {base : Heap} {x qual : Str} {st : Stmt} {f : Addr} {fd : FuncData}
    {N ps : List Str} {k : Nat} {sp : Sp} (F : Fun K x qual st f fd) (S : FnScope N ps (defScope st)) (len : ∀ xs H Q E, sp xs H Q E → xs.length = ps.length)
    (hbody : ∀ (cdv : Value) (A : Around) (out : List Env) (s : Shared) (H : Hp) (xs : List V) (Q : VK) (E : XK), A.guards = some [] →
      Room k (A.deeper (envOfC qual (defScope st) s.heap.objs.size f cdv)) → sp xs H Q E →
      ∃ t, PSs (cxOf CX0 P w K mg base N qual (defScope st) f cdv A out s H E).nox (defBody st) t ∧
        t { nx := fun _ H' => Q .non H', rt := Q } (start N xs) H) :
    FnG P w K mg base CX0 (k + 1) f fd ps sp := by
  obtain ⟨oc, od, kV, doc, pm, an, cdv, ct, osl, rfl, lk, hcd⟩ := F.ex
  constructor
  · exact len
  intro A out s H args us xs Q E gA hr e0 hb r hsp
  have old : ∀ b o, base.get? b = some o → s.heap.get? b = some o := fun b o q => (e0.bs b o q).1
  have KX : K.In s.heap := e0.mod.kin.keeps old
  have lim : s.heap.NoLimit := e0.mod.nolimit.keeps old
  refine codeAny_call_function hr.depth (KX _ _ lk) rfl S.co S.gen rfl (PySem.W.codeRec_of KX hcd) (hb _ _ _ _ ?_)
  refine wpAny_newFunctionEnv_cells S.kind (fun y hy => ?_) fun env he s1 x1 => ?_
  · have q := S.par y.1 (List.of_mem_zip (a := y.1) (b := y.2) hy).1
    exact q.elim .inl fun q => .inr ⟨q, PySem.W.cellsFrom_some _ _ _ (.inl q)⟩
  · subst he
    refine ⟨lim.keeps x1.toInCall.keep, codeAny_func ?_⟩
    obtain ⟨t, ht, hq⟩ := hbody cdv A out s H xs Q E gA (hr.deeper _) hsp
    have I := inv_start (CX := CX0) (P := P) (w := w) (K := K) (mg := mg) (base := base) (N := N) (ps := ps) (E := E) S hr.hd e0 (len _ _ _ _ hsp) r x1
    refine wpAny_mono (ht.nox.run [] s1 (start N xs) H _ I hq) (fun fl s2 hs => ?_) fun _ _ z => z
    match fl, hs with
    | .ret u, ⟨v, σ', H', J, rv, q⟩ => exact ⟨v, H', J.os, J.bare, J.base, J.hok, rv, q⟩
    | .next, ⟨σ', H', J, q⟩ => exact ⟨V.non, H', J.os, J.bare, J.base, J.hok, rfl, q⟩
    | .brk, ⟨_, _, _, q⟩ => exact q.elim
    | .cont, ⟨_, _, _, q⟩ => exact q.elim

/-! ## the end of a row -/
theorem endG {l : PySem.W.OpenLaw} {n k : Nat} {q : Program} {loose : List Str} {XP : (Str → Option Value) → Heap → Prop} {YP : World → Heap → Prop} {d : DefRec}
    {K : Params → PySem.W.Frag} {sp : PySem.W.Frag → Sp} {x : Str}
    (hn : l.most = some n) (hn2 : n ≤ sizeLine) (hdf : d.params.defaults = []) (hr : Room k callerA)
    (hY : ∀ (w : World) (h : Heap), YP w h → (K w.params).In h)
    (F : ∀ (w : World) (mg : Str → Option Value) (fa : Addr) (h : Heap), (K w.params).In h → h.Ns mainGlobals mg → mg d.name = some (.ref fa) →
      ∃ fd : FuncData, (∀ (s : Shared) (u : Value), BindsTo s fd ⟨[u], []⟩ [(x, u)]) ∧
        ∀ base : Heap, (K w.params).In base → base.Ns mainGlobals mg → FnG l.prog w (K w.params) mg base CX0 k fa fd [x] (sp (K w.params)))
    (hsp : ∀ (K : PySem.W.Frag) (H : Hp) (a : Addr) (ns : List Int), ns.length ≤ n → SqL K H a (ns.map V.int) →
      sp K [.ref a] H (fun v _ => v = .bl true) fun _ _ _ => False) :
    PySem.W.WalkO q loose XP YP l.row.toRowW d [] (fun f vs => PySem.call f vs) := by
  refine Att.attach_call hn hdf fun w s0 s1 mg mb fa o pm cd doc a vs ns gr Y ho hd hcd hmg ha hi hl hgn => ?_
  have KX := hY w _ Y
  obtain ⟨fd, hbind, F⟩ := F w mg fa _ KX gr.T.g hmg
  have rv := vals_ints hi
  have lenV := hi.length
  have nsz : ns.length ≤ sizeLine := Nat.le_trans hl hn2
  -- the tracked heap T: nothing, or the script alone
  have main : ∀ T : Hp, (∀ b, T b = none ∨ ∃ ob xs, T b = some (.frz ob (.lst xs))) → SqL (K w.params) T a (ns.map V.int) → HOk l.prog w T s1.heap →
      (∀ b, T b ≠ none → b = a) → (T a ≠ none → (K w.params).lookup a = none) →
      codeAny (model l.prog w) callerA (.call (.ref fa) ⟨[.ref a], []⟩)
        (fun r t => r = .ok (.ret (.bool true)) ∧ OldK s1.heap t.heap ∧ t.os = s1.os ∧ AllBare t.gens) s1 := by
    intro T only hS hok only_a notK
    have keepD : ∀ {b : Addr} {ob : Obj}, s1.heap.get? b = some ob → (∃ es ep, ob.data = .dict es ep) → (hidT s1.heap T).get? b = some ob := by
      intro b ob e ⟨es, ep, ed⟩
      refine hidT_get e ?_
      match q : T b with
      | none => rfl
      | some u =>
        have hb : b = a := only_a b (by rw [q]; exact Option.some_ne_none _)
        subst hb
        rw [ha] at e
        cases e
        cases (show Data.seq vs.toArray _ = Data.dict es ep from ed)
    have nsT : ∀ {b : Addr} {m : Str → Option Value}, s1.heap.Ns b m → (hidT s1.heap T).Ns b m := by
      rintro b m ⟨ob, es, ep, e, ed, r⟩
      exact ⟨ob, es, ep, keepD e ⟨es, ep, ed⟩, ed, r⟩
    have inT : (K w.params).In (hidT s1.heap T) := by
      intro b ob e
      refine hidT_get (KX b ob e) ?_
      match q : T b with
      | none => rfl
      | some u =>
        have hb : b = a := only_a b (by rw [q]; exact Option.some_ne_none _)
        subst hb
        rw [notK (by rw [q]; exact Option.some_ne_none _)] at e
        cases e
    have nolim : (hidT s1.heap T).NoLimit := by
      obtain ⟨mc, h1, h2⟩ := gr.T.nolimit
      exact ⟨mc, nsT h1, h2⟩
    have md : Mod (K w.params) mg (hidT s1.heap T) := ⟨inT, nsT gr.T.g, ⟨mb, nsT gr.T.b, gr.T.builtins⟩, nolim⟩
    have e0 : Env0 l.prog w (K w.params) mg (hidT s1.heap T) callerA [] s1 T := by
      refine ⟨rfl, md, fun b ob e => of_hidT e, Nat.le_of_eq (hidT_size _ _), trivial, fun b hb => ?_, hok, .of_eq hgn⟩
      cases (show b ∈ ([] : List Addr) from hb)
    have run := (F _ inT (nsT gr.T.g)).go callerA [] s1 T ⟨[.ref a], []⟩ [.ref a] [.ref a] _ _ rfl hr e0 (hbind s1 (.ref a)) (.cons rfl .nil) (hsp (K w.params) T a ns hl hS)
    refine codeAny_mono run fun res t hq => ?_
    match res, hq with
    | .error e, hq => exact hq.elim
    | .ok .next, hq => exact hq.elim
    | .ok .brk, hq => exact hq.elim
    | .ok .cont, hq => exact hq.elim
    | .ok (.ret u), ⟨v, T', os, bare, un, hok', rr, qq⟩ =>
      obtain rfl : v = .bl true := qq
      obtain rfl : u = Value.bool true := rr
      refine ⟨rfl, OldK.of_keep fun b ob e => ?_, os, bare⟩
      match q : T b with
      | none => exact un.keep b ob e q (fun z => nomatch (show b ∈ ([] : List Addr) from z)) (fun z => nomatch z)
      | some u =>
        rcases only b with z | ⟨fo, xs, z⟩
        · rw [q] at z
          cases z
        · obtain ⟨e1, _⟩ := hok b _ z
          obtain ⟨e2, _⟩ := hok' b _ (un.frzs b fo _ z)
          rw [e] at e1
          cases e1
          exact e2
  match hk : (K w.params).lookup a with
  | some ob =>
    have e := KX a ob hk
    rw [ha] at e
    cases e
    refine main (fun _ => none) (fun _ => .inl rfl) (.inr ⟨_, vs.toArray, _, hk, rfl, rfl, rfl, ?_, ?_⟩) (fun b u z => nomatch (show (none : Option HO) = some u from z)) (fun b z => absurd rfl z) (fun z => absurd rfl z)
    · rw [List.size_toArray, lenV]
      exact nsz
    · simpa using rv
  | none =>
    have atA : ∀ b, b = a → (if b = a then some (HO.frz { cls := .type "list", data := .seq vs.toArray } (.lst (ns.map V.int))) else none) = some (HO.frz { cls := .type "list", data := .seq vs.toArray } (.lst (ns.map V.int))) := fun b hb => if_pos hb
    have offA : ∀ b, b ≠ a → (if b = a then some (HO.frz { cls := .type "list", data := .seq vs.toArray } (.lst (ns.map V.int))) else none) = none := fun b hb => if_neg hb
    refine main (fun b => if b = a then some (.frz { cls := .type "list", data := .seq vs.toArray } (.lst (ns.map V.int))) else none) (fun b => ?_) (.inl (.inr ⟨{ cls := .type "list", data := .seq vs.toArray }, atA a rfl⟩)) (fun b u z => ?_) (fun b z => ?_) fun _ => hk
    · by_cases hb : b = a
      · exact .inr ⟨_, _, atA b hb⟩
      · exact .inl (offA b hb)
    · by_cases hb : b = a
      · have z2 := (atA b hb).symm.trans z
        cases z2
        subst hb
        exact ⟨ha, by rw [List.length_map]; exact nsz, vs, _, rv, ha⟩
      · have z2 := (offA b hb).symm.trans z
        cases z2
    · by_cases hb : b = a
      · exact hb
      · exact absurd (offA b hb) z

/-! ## repr of data -/
mutual
/-- data whose text is written: no dict, numbers and texts of bounded size -/
def nice : PyData → Bool
  | .none | .bool _ => true
  | .int i => decide (i.natAbs.log2 < 1200)
  | .str x => x.cps.toList.all fun c => decide (c < 16 ^ 8)
  | .list xs | .tuple xs => niceAll xs
  | .dict _ => false
def niceAll : List PyData → Bool
  | [] => true
  | x :: xs => nice x && niceAll xs
end
structure Shw (d : PyData) : Prop where
  noDict : d.hasDict = false
  able : d.showable = true
  deep : d.depth ≤ 60
  fits : d.shown.length ≤ sizeLine
mutual
theorem nice_facts : ∀ d : PyData, nice d = true → d.hasDict = false ∧ d.showable = true ∧ d.leavesShort 1201 = true
  | .none, _ => by simp [PyData.hasDict, PyData.showable, PyData.leavesShort]
  | .bool _, _ => by simp [PyData.hasDict, PyData.showable, PyData.leavesShort]
  | .int i, h => by
    have h2 : i.natAbs.log2 < 1200 := by simpa [nice] using h
    have h3 := int_text_length_le (a := i) (by decide) h2
    have h4 : (PyData.shown (.int i)).length ≤ 1201 := by
      rw [PyData.shown_int]
      rw [PySem.ofString_length]
      exact h3
    refine ⟨by simp [PyData.hasDict], ?_, ?_⟩
    · simp only [PyData.showable]
      exact decide_eq_true (by omega)
    · simp only [PyData.leavesShort]
      exact decide_eq_true h4
  | .str x, h => by
    refine ⟨by simp [PyData.hasDict], by simp [PyData.showable], ?_⟩
    simpa only [PyData.leavesShort, nice] using h
  | .list xs, h => by
    have q := nice_factsAll xs (by simpa only [nice] using h)
    exact ⟨by simpa only [PyData.hasDict] using q.1, by simpa only [PyData.showable] using q.2.1, by simpa only [PyData.leavesShort] using q.2.2⟩
  | .tuple xs, h => by
    have q := nice_factsAll xs (by simpa only [nice] using h)
    exact ⟨by simpa only [PyData.hasDict] using q.1, by simpa only [PyData.showable] using q.2.1, by simpa only [PyData.leavesShort] using q.2.2⟩
  | .dict _, h => by simp [nice] at h
theorem nice_factsAll : ∀ ds : List PyData, niceAll ds = true → PyData.hasDictAll ds = false ∧ PyData.showableAll ds = true ∧ PyData.leavesShortAll 1201 ds = true
  | [], _ => by simp [PyData.hasDictAll, PyData.showableAll, PyData.leavesShortAll]
  | x :: xs, h => by
    have h' : nice x = true ∧ niceAll xs = true := by simpa [niceAll] using h
    obtain ⟨a1, a2, a3⟩ := nice_facts x h'.1
    obtain ⟨b1, b2, b3⟩ := nice_factsAll xs h'.2
    simp only [PyData.hasDictAll, PyData.showableAll, PyData.leavesShortAll, a1, a2, a3, b1, b2, b3, Bool.or_self, Bool.and_self, and_self]
end
theorem shw {d : PyData} (h : nice d = true) (hd : d.depth ≤ 60) (hb : d.bulk ≤ 10000) : Shw d := by
  obtain ⟨a1, a2, a3⟩ := nice_facts d h
  refine ⟨a1, a2, hd, ?_⟩
  have q := PyData.shown_le_bulk 1201 (by decide) d a3
  have e2 : 16777216 ≤ sizeLine := by decide
  omega
section
variable {X : Cx}
def rRepr (K : PySem.W.Frag) : List V → Hp → VK → Prop := fun xs H Q => ∃ (x : V) (d : PyData), xs = [x] ∧ Dp K H x d ∧ Shw d ∧ Q (.str d.shown) H
theorem call_repr (hgd : X.A.guards = some []) (hu : X.A.units + 64 < cLine) : CallR X (.builtin "repr") (rRepr X.K) := by
  intro pins s σ H xs us Q I r h
  obtain ⟨x, d, rfl, hd, ⟨hn, hs, hp, hz⟩, q⟩ := h
  obtain ⟨u, rfl, ru⟩ := vals1 r
  obtain ⟨as, rd⟩ := Dp.reads I d x u hd ru
  have fin : ∀ h' t tk, (∀ b o, s.heap.get? b = some o → h'.get? b = some o) → EP X pins σ Q (.str d.shown t) { s with heap := h', toks := tk } :=
    fun h' t tk kp => ⟨.str d.shown, H, I.kept kp, ⟨t, rfl⟩, q⟩
  cases hd with
  | lst hl ha =>
    cases (show u = Value.ref _ from ru)
    exact repr_of_reads' rd hs (PyData.noDict_hsm hn) hgd (by omega) (fun _ _ e => e) fin hz
  | tup hl ha =>
    cases (show u = Value.ref _ from ru)
    exact repr_of_reads' rd hs (PyData.noDict_hsm hn) hgd (by omega) (fun _ _ e => e) fin hz
  | int i =>
    obtain ⟨t, rfl⟩ := (show ∃ t, u = Value.int i t from ru)
    have e : (PyData.int i).shown = ((toString i : String) : Str) := PyData.shown_int i
    rw [e] at q
    exact PySem.P.repr_of_int (by simpa [PyData.showable] using hs) ⟨.str _, H, I.tok _, ⟨_, rfl⟩, q⟩
  | non =>
    cases (show u = Value.none from ru)
    rw [PyData.shown_none] at q
    exact PySem.P.repr_of_none ⟨.str _, H, I.tok _, ⟨_, rfl⟩, q⟩
  | bl b =>
    cases (show u = Value.bool b from ru)
    rw [PyData.shown_bool] at q
    refine PySem.P.repr_of_bool ⟨.str _, H, I.tok _, ⟨_, rfl⟩, ?_⟩
    cases b <;> exact q
  | str x =>
    obtain ⟨t, rfl⟩ := (show ∃ t, u = Value.str x t from ru)
    rw [PyData.shown_str] at q hz
    exact PySem.P.repr_of_str ⟨.str _, H, I.tok _, ⟨_, rfl⟩, q⟩ hz
end
/-! ## Defs of the text as constants -/
structure DefAt (K : PySem.W.Frag) (mg : Str → Option Value) (x : Str) (st : Stmt) (ps : List Str) : Prop where
  ex : ∃ f fd, Fun K x x st f fd ∧ mg x = some (.ref f) ∧ ∀ us : List Value, us.length = ps.length → bindArgs fd ⟨us, []⟩ = pure (ps.zip us)
theorem defAt {K : PySem.W.Frag} {h : Heap} {mg : Str → Option Value} {x : Str} {st : Stmt} {ps : List Str} {f : Addr} {oc : Value} {od an : Option Addr} {osl : Array (Option Value)}
    {kV doc pm cdv ct : Value} (KX : K.In h) (gl : h.Ns mainGlobals mg)
    (hb : ∀ us : List Value, us.length = ps.length → bindArgs (PySem.W.fnOf x x (defArgs st) (defBody st) (defScope st) .none kV doc pm an cdv ct) ⟨us, []⟩ = pure (ps.zip us))
    (a : PySem.W.nsIn K mainGlobals x = some (some (.ref f)))
    (l : K.lookup f = some ⟨oc, od, .func (PySem.W.fnOf x x (defArgs st) (defBody st) (defScope st) .none kV doc pm an cdv ct), osl⟩)
    (c : PySem.W.codeIn K cdv x = true) (k : PySem.W.keepIn K (.ref f) = true) : DefAt K mg x st ps :=
  ⟨f, _, fun_mk l c k, PySem.W.mg_of KX gl a, hb⟩
structure CalG (P : Program) (w : World) (K : PySem.W.Frag) (mg : Str → Option Value) (base : Heap) (k : Nat) (x : Str) (ps : List Str) (sp : Sp) : Prop where
  ex : ∃ f fd, FnG P w K mg base CX0 k f fd ps sp ∧ mg x = some (.ref f) ∧ PySem.W.keepIn K (.ref f) = true ∧ Binds K fd ps []
theorem calOk {P : Program} {w : World} {K : PySem.W.Frag} {mg : Str → Option Value} {base : Heap} {x : Str} {st : Stmt} {N ps : List Str} {k : Nat} {sp : Sp}
    (D : DefAt K mg x st ps) (S : FnScope N ps (defScope st)) (len : ∀ xs H Q E, sp xs H Q E → xs.length = ps.length)
    (hbody : ∀ (f : Addr) (cdv : Value) (A : Around) (out : List Env) (s : Shared) (H : Hp) (xs : List V) (Q : VK) (E : XK), A.guards = some [] →
      Room k (A.deeper (envOfC x (defScope st) s.heap.objs.size f cdv)) → sp xs H Q E →
      ∃ t, PSs (cxOf CX0 P w K mg base N x (defScope st) f cdv A out s H E).nox (defBody st) t ∧
        t { nx := fun _ H' => Q .non H', rt := Q } (start N xs) H) : CalG P w K mg base (k + 1) x ps sp := by
  obtain ⟨f, fd, F, m, b⟩ := D.ex
  exact ⟨f, fd, okG F S len (hbody f), m, F.kp, Binds.all b⟩
section
variable {X : Cx} {k j : Nat} {ps : List Str} {sp : Sp} {x : Str} {p pos : Pos} {e : Expr} {es : List Expr} {t : TA}
theorem pe_k (c : CalG X.prog X.w X.K X.mg X.base k x ps sp) (hgd : X.A.guards = some []) (hr : Room j X.A) (hk : k ≤ j) (hg : Gl X x) (ha : PA X (e :: es) t)
    (hdb : (x == ("__debug__" : Str)) = false := by decide)
    (he : starEach (e :: es) X.env = (false, eval e X.env) :: starEach es X.env := by rfl)
    (hpl : (backTo pos (starEach es X.env)).any (·.1) = false := by rfl) :
    PE X (.Call (.Name x p) (e :: es) [] pos) (tCall sp [] E0 t) := by
  obtain ⟨f, fd, F, m, kp, b⟩ := c.ex
  exact pe_g F hgd (hr.mono hk) hg m kp b .nil pass0 ha hdb he hpl
theorem pe_k0 (c : CalG X.prog X.w X.K X.mg X.base k x ps sp) (hgd : X.A.guards = some []) (hr : Room j X.A) (hk : k ≤ j) (hg : Gl X x)
    (hdb : (x == ("__debug__" : Str)) = false := by decide) : PE X (.Call (.Name x p) [] [] pos) (tCall sp [] E0 tNil) := by
  obtain ⟨f, fd, F, m, kp, b⟩ := c.ex
  exact pe_g0 F hgd (hr.mono hk) hg m kp b .nil pass0 hdb
end
/-- the law's own def, at the address that the row names -/
theorem lawOk {P : Program} {w : World} {K : PySem.W.Frag} {mg : Str → Option Value} {x y : Str} {st : Stmt} {N : List Str} {k : Nat} {sp : Sp} {fa : Addr}
    (hf : mg x = some (.ref fa)) (D : DefAt K mg x st [y]) (S : FnScope N [y] (defScope st)) (len : ∀ xs H Q E, sp xs H Q E → xs.length = [y].length)
    (hbody : ∀ base : Heap, K.In base → base.Ns mainGlobals mg → ∀ (f : Addr) (cdv : Value) (A : Around) (out : List Env) (s : Shared) (H : Hp) (xs : List V) (Q : VK) (E : XK), A.guards = some [] →
      Room k (A.deeper (envOfC x (defScope st) s.heap.objs.size f cdv)) → sp xs H Q E →
      ∃ t, PSs (cxOf CX0 P w K mg base N x (defScope st) f cdv A out s H E).nox (defBody st) t ∧
        t { nx := fun _ H' => Q .non H', rt := Q } (start N xs) H) :
    ∃ fd : FuncData, (∀ (s : Shared) (u : Value), BindsTo s fd ⟨[u], []⟩ [(y, u)]) ∧
      ∀ base : Heap, K.In base → base.Ns mainGlobals mg → FnG P w K mg base CX0 (k + 1) fa fd [y] sp := by
  obtain ⟨f, fd, F, m, b⟩ := D.ex
  obtain rfl : f = fa := by
    rw [m] at hf
    cases hf
    rfl
  exact ⟨fd, fun s u => .of_eq (b [u] rfl), fun base h1 h2 => okG F S len (hbody base h1 h2 f)⟩

section
variable {X : Cx} {x : Str} {pos : Pos}
theorem pe_gv {v : V} (hg : Gl X x) (h : ∃ u, X.mg x = some u ∧ RelV v u) (hd : (x == ("__debug__" : Str)) = false := by decide) : PE X (.Name x pos) (tC v) :=
  let ⟨_, hm, r⟩ := h
  pe_glob hg hm r hd
theorem pe_ty (n : String) (hg : Gl X x) (hm : X.mg x = none) (hv : bootBuiltins x = some (.type n)) (hn : x ≠ "__name__" := by decide) (hd : (x == ("__debug__" : Str)) = false := by decide) : PE X (.Name x pos) (tC (.ty n)) :=
  pe_bltn hg hm hv rfl hn hd
end
/-! ## Heaps: what is new, what is rolled -/
theorem same_new {H : Hp} {p : Addr} {o : HO} (h : H p = none) : Same H (upd H p o) := fun b u e => by
  rw [upd_ne (ne_of_none e h)]
  exact e
mutual
theorem Dp.grow {K : PySem.W.Frag} {H H' : Hp} (s : Same H H') : ∀ {x : V} {d : PyData}, Dp K H x d → Dp K H' x d
  | _, _, .non => .non
  | _, _, .bl b => .bl b
  | _, _, .int i => .int i
  | _, _, .str x => .str x
  | _, _, .lst h a => .lst (s.seq h) (DpAll.grow s a)
  | _, _, .tup h a => .tup (by
      rcases h with (h | ⟨o, h⟩) | h
      · exact .inl (.inl (s _ _ h))
      · exact .inl (.inr ⟨o, s _ _ h⟩)
      · exact .inr h) (DpAll.grow s a)
theorem DpAll.grow {K : PySem.W.Frag} {H H' : Hp} (s : Same H H') : ∀ {xs : List V} {ds : List PyData}, DpAll K H xs ds → DpAll K H' xs ds
  | _, _, .nil => .nil
  | _, _, .cons a b => .cons (Dp.grow s a) (DpAll.grow s b)
end
/-- the heap without what stands at d -/
def hide (d : Addr) (H : Hp) : Hp := fun b => if b = d then none else H b
theorem hide_ne {d b : Addr} {H : Hp} (h : b ≠ d) : hide d H b = H b := if_neg h
theorem hide_at {d : Addr} {H : Hp} : hide d H d = none := if_pos rfl
theorem hide_le {d : Addr} {H : Hp} : Same (hide d H) H := fun b o e => by
  by_cases h : b = d
  · subst h
    rw [hide_at] at e
    cases e
  · rw [hide_ne h] at e
    exact e
/-- the dice at d: three numbers -/
def DiceAt (H : Hp) (d : Addr) : Prop := ∃ l s c : Int, H d = some (.lst [.int l, .int s, .int c])
/-- from H to H': the dice at d may have been rolled, what else stood stands -/
structure Mv (d : Addr) (H H' : Hp) : Prop where
  same : Same (hide d H) (hide d H')
  dice : DiceAt H' d
theorem Mv.refl {d : Addr} {H : Hp} (h : DiceAt H d) : Mv d H H := ⟨Same.refl _, h⟩
theorem Mv.trans {d : Addr} {H H1 H2 : Hp} (a : Mv d H H1) (b : Mv d H1 H2) : Mv d H H2 := ⟨a.same.trans b.same, b.dice⟩
theorem Mv.get {d : Addr} {H H' : Hp} (a : Mv d H H') {b : Addr} {o : HO} (n : b ≠ d) (h : H b = some o) : H' b = some o := by
  have := a.same b o (by rw [hide_ne n]; exact h)
  rw [hide_ne n] at this
  exact this
theorem Mv.free {d : Addr} {H H' : Hp} (a : Mv d H H') {p : Addr} (h : H' p = none) : H p = none := by
  by_cases e : p = d
  · subst e
    obtain ⟨l, s, c, q⟩ := a.dice
    rw [q] at h
    cases h
  · match q : H p with
    | none => rfl
    | some o =>
      rw [a.get e q] at h
      cases h
theorem DiceAt.ne {d p : Addr} {H : Hp} (h : DiceAt H d) (n : H p = none) : p ≠ d := fun e => by
  obtain ⟨l, s, c, q⟩ := h
  rw [e, q] at n
  cases n
theorem hide_new {d p : Addr} {H : Hp} {o : HO} (n : p ≠ d) : hide d (upd H p o) = upd (hide d H) p o := by
  funext b
  by_cases h1 : b = d
  · subst h1
    rw [hide_at, upd_ne n.symm, hide_at]
  · rw [hide_ne h1]
    by_cases h2 : b = p
    · subst h2
      rw [upd_same, upd_same]
    · rw [upd_ne h2, upd_ne h2, hide_ne h1]
theorem Mv.new {d p : Addr} {H H' : Hp} {o : HO} (a : Mv d H H') (n : H' p = none) : Mv d H (upd H' p o) := by
  have ne := a.dice.ne n
  refine ⟨fun b u e => ?_, ?_⟩
  · rw [hide_new ne]
    refine same_new ?_ b u (a.same b u e)
    rw [hide_ne ne]
    exact n
  · obtain ⟨l, s, c, q⟩ := a.dice
    exact ⟨l, s, c, by rw [upd_ne ne.symm]; exact q⟩
/-- an own list (new since H) changed -/
theorem Mv.set {d p : Addr} {H H' : Hp} {o : HO} (a : Mv d H H') (n : H p = none) (ne : p ≠ d) : Mv d H (upd H' p o) := by
  refine ⟨fun b u e => ?_, ?_⟩
  · rw [hide_new ne]
    have nb : b ≠ p := fun q => by
      rw [q, hide_ne ne, n] at e
      cases e
    rw [upd_ne nb]
    exact a.same b u e
  · obtain ⟨l, s, c, q⟩ := a.dice
    exact ⟨l, s, c, by rw [upd_ne ne.symm]; exact q⟩
theorem same_new2 {H : Hp} {p : Addr} {o u : HO} (h : H p = none) : Same H (upd (upd H p o) p u) := by
  rw [upd_upd]
  exact same_new h
theorem Mv.new2 {d p : Addr} {H H' : Hp} {o u : HO} (a : Mv d H H') (n : H' p = none) : Mv d H (upd (upd H' p o) p u) := by
  rw [upd_upd]
  exact a.new n
theorem Mv.rolled {d : Addr} {H H' : Hp} {l s c : Int} (a : Mv d H H') : Mv d H (upd H' d (.lst [.int l, .int s, .int c])) := by
  refine ⟨fun b u e => ?_, l, s, c, upd_same⟩
  have q := a.same b u e
  by_cases h : b = d
  · subst h
    rw [hide_at] at q
    cases q
  · rw [hide_ne h] at q ⊢
    rw [upd_ne h]
    exact q
theorem Mv.sql {K : PySem.W.Frag} {d a : Addr} {H H' : Hp} {xs : List V} (m : Mv d H H') (n : a ≠ d) (h : SqL K H a xs) : SqL K H' a xs := by
  rcases h with (h | ⟨o, h⟩) | h
  · exact .inl (.inl (m.get n h))
  · exact .inl (.inr ⟨o, m.get n h⟩)
  · exact .inr h
theorem Mv.dp {K : PySem.W.Frag} {d : Addr} {H H' : Hp} {x : V} {dat : PyData} (m : Mv d H H') (h : Dp K (hide d H) x dat) : Dp K (hide d H') x dat := Dp.grow m.same h
theorem Dp.seen {K : PySem.W.Frag} {d : Addr} {H : Hp} {x : V} {dat : PyData} (h : Dp K (hide d H) x dat) : Dp K H x dat := Dp.grow hide_le h

theorem mul60 : CMulW (10 ^ Int.toNat 60) (10 ^ Int.toNat 60) := by
  unfold CMulW
  decide +kernel
theorem pos60 : (0 : Int) < 10 ^ Int.toNat 60 * 10 ^ Int.toNat 60 := by decide +kernel
theorem mul45 : CMulW (10 ^ Int.toNat 45) (10 ^ Int.toNat 45) := by
  unfold CMulW
  decide +kernel
/-! ## the promises of the dice -/
def spDice (K : PySem.W.Frag) : Sp := fun vs H Q _ => ∃ (a : Addr) (ns : List Int) (i : Nat), vs = [.ref a, .int (i : Int)] ∧ SqL K H a (ns.map V.int) ∧ ns.length ≤ 1000 ∧
  ∀ (p : Addr) (l s c : Int), H p = none → Q (.ref p) (upd H p (.lst [.int l, .int s, .int c]))
def spRoll : Sp := fun vs H Q _ => ∃ (d : Addr) (t : Int), vs = [.ref d, .int t] ∧ DiceAt H d ∧ 0 < t ∧ t.natAbs.log2 < 9000 ∧
  ∀ (r : Int) (H' : Hp), 0 ≤ r → r < t → Mv d H H' → (∀ b, H b = none → H' b = none) → Q (.int r) H'
def spPick (K : PySem.W.Frag) : Sp := fun vs H Q _ => ∃ (d a : Addr) (xs : List V), vs = [.ref d, .ref a] ∧ DiceAt H d ∧ SqL K H a xs ∧ a ≠ d ∧ 0 < xs.length ∧ xs.length ≤ 1000 ∧
  ∀ (i : Nat) (x : V) (H' : Hp), xs[i]? = some x → Mv d H H' → (∀ b, H b = none → H' b = none) → Q x H'
theorem DpAll.map {K : PySem.W.Frag} {H : Hp} {α : Type} (f : α → V) (g : α → PyData) : ∀ (xs : List α), (∀ x ∈ xs, Dp K H (f x) (g x)) → DpAll K H (xs.map f) (xs.map g)
  | [], _ => .nil
  | x :: r, h => .cons (h x List.mem_cons_self) (DpAll.map f g r fun y hy => h y (List.mem_cons_of_mem _ hy))
theorem canAll {α : Type} (g : α → PyData) : ∀ (xs : List α), (∀ x ∈ xs, (g x).canLay0 = true) → PyData.canLayAll0 (xs.map g) = true
  | [], _ => by simp [PyData.canLayAll0]
  | x :: r, h => by
    simp only [List.map_cons, PyData.canLayAll0, h x List.mem_cons_self, canAll g r fun y hy => h y (List.mem_cons_of_mem _ hy), Bool.and_self]
theorem depthAll0 {α : Type} (n : Nat) (g : α → PyData) : ∀ (xs : List α), (∀ x ∈ xs, (g x).depth ≤ n) → PyData.depthAll (xs.map g) ≤ n
  | [], _ => by simp [PyData.depthAll]
  | x :: r, h => by
    have h1 := h x List.mem_cons_self
    have h2 := depthAll0 n g r fun y hy => h y (List.mem_cons_of_mem _ hy)
    simp only [List.map_cons, PyData.depthAll]
    omega

/-! ## readings by statements: what an expression's reading hands on is said in one place -/
section
variable {te : TE} {tt : TT} {i : Nat} {t1 t2 rest : TS} {D : Ends} {σ : L2.St} {H : Hp}
theorem go_nx {t : TS} {r : VK} {b c : L2.St → Hp → Prop} (h : t D σ H) : Ends.nx ⟨t D, r, b, c⟩ σ H := h
theorem a_set (R : V → Hp → Prop) (h : ∀ Q' : VK, (∀ v H', R v H' → Q' v H') → te σ H Q') (k : ∀ v H', R v H' → rest D (σ.set i (some v)) H') :
    tSeq (tAsg te (gName i)) rest D σ H := h _ k
theorem a_set1 (R : V → Hp → Prop) (h : ∀ Q' : VK, (∀ v H', R v H' → Q' v H') → te σ H Q') (k : ∀ v H', R v H' → D.nx (σ.set i (some v)) H') :
    tAsg te (gName i) D σ H := h _ k
theorem a_ret (R : V → Hp → Prop) (h : ∀ Q' : VK, (∀ v H', R v H' → Q' v H') → te σ H Q') (k : ∀ v H', R v H' → D.rt v H') : tRet te D σ H := h _ k
theorem a_if (R : Bool → Hp → Prop) (h : ∀ Q' : Bool → Hp → Prop, (∀ b H', R b H' → Q' b H') → tt σ H Q') (k1 : ∀ H', R true H' → t1 { D with nx := rest D } σ H') (k2 : ∀ H', R false H' → t2 { D with nx := rest D } σ H') :
    tSeq (tIfS tt t1 t2) rest D σ H := h _ fun b H' r => by
  cases b with
  | true => exact iteT (k1 H' r)
  | false => exact iteF (k2 H' r)
theorem a_if1 (R : Bool → Hp → Prop) (h : ∀ Q' : Bool → Hp → Prop, (∀ b H', R b H' → Q' b H') → tt σ H Q') (k1 : ∀ H', R true H' → t1 D σ H') (k2 : ∀ H', R false H' → t2 D σ H') :
    tIfS tt t1 t2 D σ H := h _ fun b H' r => by
  cases b with
  | true => exact iteT (k1 H' r)
  | false => exact iteF (k2 H' r)
end
end G

set_option Elab.async false
set_option linter.all false
set_option maxRecDepth 100000
set_option maxHeartbeats 2000000
namespace G
open PySem PySem.Spec PyProof.Rows L2
/-! ## values as data, dicts among them -/
def keyD : Key → PyData
  | .inl i => .int i
  | .inr z => .str z
mutual
inductive Dx (H : Hp) : V → PyData → Prop
  | non : Dx H .non .none
  | bl (b : Bool) : Dx H (.bl b) (.bool b)
  | int (i : Int) : Dx H (.int i) (.int i)
  | str (x : Str) : Dx H (.str x) (.str x)
  | lst {a : Addr} {xs : List V} {ds : List PyData} : H a = some (.lst xs) → DxAll H xs ds → Dx H (.ref a) (.list ds)
  | tup {a : Addr} {xs : List V} {ds : List PyData} : H a = some (.tup xs) → DxAll H xs ds → Dx H (.ref a) (.tuple ds)
  | dct {a : Addr} {kvs : List (Key × V)} {ps : List (PyData × PyData)} : H a = some (.dK kvs) → DxKv H kvs ps → Dx H (.ref a) (.dict ps)
inductive DxAll (H : Hp) : List V → List PyData → Prop
  | nil : DxAll H [] []
  | cons {v : V} {vs : List V} {d : PyData} {ds : List PyData} : Dx H v d → DxAll H vs ds → DxAll H (v :: vs) (d :: ds)
inductive DxKv (H : Hp) : List (Key × V) → List (PyData × PyData) → Prop
  | nil : DxKv H [] []
  | cons {k : Key} {v : V} {r : List (Key × V)} {d : PyData} {ps : List (PyData × PyData)} : Dx H v d → DxKv H r ps → DxKv H ((k, v) :: r) ((keyD k, d) :: ps)
end
mutual
theorem Dx.grow {H H' : Hp} (s : Same H H') : ∀ {x : V} {d : PyData}, Dx H x d → Dx H' x d
  | _, _, .non => .non
  | _, _, .bl b => .bl b
  | _, _, .int i => .int i
  | _, _, .str x => .str x
  | _, _, .lst h a => .lst (s _ _ h) (DxAll.grow s a)
  | _, _, .tup h a => .tup (s _ _ h) (DxAll.grow s a)
  | _, _, .dct h a => .dct (s _ _ h) (DxKv.grow s a)
theorem DxAll.grow {H H' : Hp} (s : Same H H') : ∀ {xs : List V} {ds : List PyData}, DxAll H xs ds → DxAll H' xs ds
  | _, _, .nil => .nil
  | _, _, .cons a b => .cons (Dx.grow s a) (DxAll.grow s b)
theorem DxKv.grow {H H' : Hp} (s : Same H H') : ∀ {xs : List (Key × V)} {ds : List (PyData × PyData)}, DxKv H xs ds → DxKv H' xs ds
  | _, _, .nil => .nil
  | _, _, .cons a b => .cons (Dx.grow s a) (DxKv.grow s b)
end
mutual
theorem Dx.dp {K : PySem.W.Frag} {H : Hp} : ∀ {x : V} {d : PyData}, Dx H x d → d.hasDict = false → Dp K H x d
  | _, _, .non, _ => .non
  | _, _, .bl b, _ => .bl b
  | _, _, .int i, _ => .int i
  | _, _, .str x, _ => .str x
  | _, _, .lst h a, n => .lst (SqL.of h) (DxAll.dp a (by simpa [PyData.hasDict] using n))
  | _, _, .tup h a, n => .tup (SqT.of h) (DxAll.dp a (by simpa [PyData.hasDict] using n))
  | _, _, .dct h a, n => by simp [PyData.hasDict] at n
theorem DxAll.dp {K : PySem.W.Frag} {H : Hp} : ∀ {xs : List V} {ds : List PyData}, DxAll H xs ds → PyData.hasDictAll ds = false → DpAll K H xs ds
  | _, _, .nil, _ => .nil
  | _, _, .cons a b, n => by
    rw [PyData.hasDictAll, Bool.or_eq_false_iff] at n
    exact .cons (Dx.dp a n.1) (DxAll.dp b n.2)
end
theorem DxAll.len {H : Hp} : ∀ {xs : List V} {ds : List PyData}, DxAll H xs ds → xs.length = ds.length
  | _, _, .nil => rfl
  | _, _, .cons _ b => by rw [List.length_cons, List.length_cons, DxAll.len b]
theorem DxAll.at {H : Hp} : ∀ {xs : List V} {ds : List PyData}, DxAll H xs ds → ∀ (i : Nat) (d : PyData), ds[i]? = some d → ∃ x, xs[i]? = some x ∧ Dx H x d
  | _, _, .nil, _, _, e => by cases e
  | _, _, .cons a b, 0, d, e => by
    cases e
    exact ⟨_, rfl, a⟩
  | _, _, .cons a b, i + 1, d, e => DxAll.at b i d e
theorem DxAll.get {H : Hp} : ∀ {xs : List V} {ds : List PyData}, DxAll H xs ds → ∀ (i : Nat) (x : V), xs[i]? = some x → ∃ d, ds[i]? = some d ∧ Dx H x d
  | _, _, .nil, _, _, e => by cases e
  | _, _, .cons a b, 0, d, e => by
    cases e
    exact ⟨_, rfl, a⟩
  | _, _, .cons a b, i + 1, d, e => DxAll.get b i d e
theorem DxAll.append {H : Hp} : ∀ {xs ys : List V} {ds es : List PyData}, DxAll H xs ds → DxAll H ys es → DxAll H (xs ++ ys) (ds ++ es)
  | _, _, _, _, .nil, h => h
  | _, _, _, _, .cons a b, h => .cons a (DxAll.append b h)
theorem DxAll.take {H : Hp} : ∀ {xs : List V} {ds : List PyData} (n : Nat), DxAll H xs ds → DxAll H (xs.take n) (ds.take n)
  | _, _, 0, _ => .nil
  | _, _, _ + 1, .nil => .nil
  | _, _, n + 1, .cons a b => .cons a (DxAll.take n b)
theorem DxAll.drop {H : Hp} : ∀ {xs : List V} {ds : List PyData} (n : Nat), DxAll H xs ds → DxAll H (xs.drop n) (ds.drop n)
  | _, _, 0, h => h
  | _, _, _ + 1, .nil => .nil
  | _, _, n + 1, .cons a b => DxAll.drop n b
theorem DxAll.rep {H : Hp} {x : V} {d : PyData} (h : Dx H x d) : ∀ n, DxAll H (List.replicate n x) (List.replicate n d)
  | 0 => .nil
  | n + 1 => .cons h (DxAll.rep h n)
def tyName : PyData → String
  | .none => "NoneType" | .bool _ => "bool" | .int _ => "int" | .str _ => "str" | .list _ => "list" | .tuple _ => "tuple" | .dict _ => "dict"
theorem Dx.ty {K : PySem.W.Frag} {H : Hp} {x : V} {d : PyData} (h : Dx H x d) : TyX K H x (.type (tyName d)) := by
  cases h with
  | non => exact .base .non
  | bl b => exact .base (.bl b)
  | int i => exact .base (.int i)
  | str x => exact .base (.str x)
  | lst h _ => exact .base (.lst h)
  | tup h _ => exact .base (.tup h)
  | dct h _ => exact .base (.dK h)
theorem Same.put {H H' : Hp} {p : Addr} {o : HO} (s : Same H H') (n : H p = none) : Same H (upd H' p o) := fun b u e => by
  rw [upd_ne (ne_of_none e n)]
  exact s b u e
/-- a judge: what it says hangs on the value's data alone -/
def spJ (f : PyData → Bool) : Sp := fun vs H Q _ => ∃ (x : V) (d : PyData), vs = [x] ∧ Dx H x d ∧ ∀ H', Same H H' → Q (.bl (f d)) H'
theorem Mv.ofSame {d : Addr} {H H1 H2 : Hp} (a : Mv d H H1) (s : Same H1 H2) : Mv d H H2 := by
  refine ⟨fun b u e => ?_, ?_⟩
  · have q := a.same b u e
    by_cases h : b = d
    · subst h
      rw [hide_at] at q
      cases q
    · rw [hide_ne h] at q ⊢
      exact s _ _ q
  · obtain ⟨l, t, c, q⟩ := a.dice
    exact ⟨l, t, c, s _ _ q⟩
theorem Mv.dx {d : Addr} {H H' : Hp} {x : V} {dat : PyData} (m : Mv d H H') (h : Dx (hide d H) x dat) : Dx (hide d H') x dat := Dx.grow m.same h
theorem Dx.seen {d : Addr} {H : Hp} {x : V} {dat : PyData} (h : Dx (hide d H) x dat) : Dx H x dat := Dx.grow hide_le h

/-! ## the program's judges of forms and rows, as functions of data -/
abbrev BIG : Int := 1000000000000000000000000000000000000000000000000000000000000
def smallB (i : Int) : Bool := decide (-BIG < i) && decide (i < BIG)
def intB : PyData → Bool
  | .int i => smallB i
  | _ => false
def pairB : PyData → Bool
  | .tuple [a, b] => intB a && intB b
  | _ => false
def sideB : PyData → Bool
  | .int i => decide (0 ≤ i) && decide (i ≤ 7)
  | _ => false
def formB : PyData → Bool
  | .tuple [a, b] => sideB a && sideB b
  | _ => false
def formsB : PyData → Bool
  | .tuple ds => decide (ds.length ≤ 200) && ds.all formB
  | _ => false
def zeroD : PyData := .tuple [.int 0, .int 0]
def rowB : PyData → Bool
  | .tuple ds => formsB (.tuple ds) && (ds.isEmpty || !PyData.eqv (ds.getLastD .none) zeroD)
  | _ => false

section
variable {X : Cx}
/-- min and max of a tuple of two numbers -/
def rBest (f : Int → Int → Int) : List V → Hp → VK → Prop := fun vs H Q => ∃ (a : Addr) (i j : Int), vs = [.ref a] ∧ H a = some (.tup [.int i, .int j]) ∧ Q (.int (f i j)) H
open PySem.W in
theorem cr_max2T (hc : X.calm = true) (hu : X.A.units + 64 < cLine) : CallR X (.builtin "max") (rBest max) := by
  intro pins s σ H vs us Q I r h
  obtain ⟨a, i, j, rfl, ha, q⟩ := h
  rw [Vals.ref1 r]
  obtain ⟨its, rv, hl, _⟩ := I.tuple (SqT.of (K := X.K) ha)
  obtain ⟨u1, u2, rfl, r1, r2⟩ := vals2 rv
  obtain ⟨t1, rfl⟩ := (show ∃ t, u1 = Value.int i t from r1)
  obtain ⟨t2, rfl⟩ := (show ∃ t, u2 = Value.int j t from r2)
  refine max_tuple_data (x := .int i) (xs := [.int j]) (I.ok.hd hc) hl (.cons (.int i t1) (.cons (.int j t2) .nil)) ?_ ?_ fun k v h' tk bs hv rd kp => ?_
  · exact ⟨fun x hx y hy => by
      rcases List.mem_cons.mp hx with rfl | hx <;> rcases List.mem_cons.mp hy with rfl | hy
      · rfl
      · rw [List.mem_singleton.mp hy]; rfl
      · rw [List.mem_singleton.mp hx]; rfl
      · rw [List.mem_singleton.mp hy, List.mem_singleton.mp hx]; rfl, fun x hx z => by
      rcases List.mem_cons.mp hx with rfl | hx
      · cases z
      · rw [List.mem_singleton.mp hx] at z
        cases z⟩
  · have e : PyData.depthAll [.int i, .int j] = 0 := by simp [PyData.depthAll, PyData.depth]
    rw [e]
    omega
  · have e : maxD (.int i) [.int j] = .int (max i j) := maxD_ints i [j]
    rw [e] at rd
    cases rd with
    | int _ t => exact ⟨.int _, H, I.kept kp, ⟨t, rfl⟩, q⟩
open PySem.W in
theorem cr_min2T (hc : X.calm = true) (hu : X.A.units + 64 < cLine) : CallR X (.builtin "min") (rBest min) := by
  intro pins s σ H vs us Q I r h
  obtain ⟨a, i, j, rfl, ha, q⟩ := h
  rw [Vals.ref1 r]
  obtain ⟨its, rv, hl, _⟩ := I.tuple (SqT.of (K := X.K) ha)
  obtain ⟨u1, u2, rfl, r1, r2⟩ := vals2 rv
  obtain ⟨t1, rfl⟩ := (show ∃ t, u1 = Value.int i t from r1)
  obtain ⟨t2, rfl⟩ := (show ∃ t, u2 = Value.int j t from r2)
  refine min_tuple_data (x := .int i) (xs := [.int j]) (I.ok.hd hc) hl (.cons (.int i t1) (.cons (.int j t2) .nil)) ?_ ?_ fun k v h' tk bs hv rd kp => ?_
  · exact ⟨fun x hx y hy => by
      rcases List.mem_cons.mp hx with rfl | hx <;> rcases List.mem_cons.mp hy with rfl | hy
      · rfl
      · rw [List.mem_singleton.mp hy]; rfl
      · rw [List.mem_singleton.mp hx]; rfl
      · rw [List.mem_singleton.mp hy, List.mem_singleton.mp hx]; rfl, fun x hx z => by
      rcases List.mem_cons.mp hx with rfl | hx
      · cases z
      · rw [List.mem_singleton.mp hx] at z
        cases z⟩
  · have e : PyData.depthAll [.int i, .int j] = 0 := by simp [PyData.depthAll, PyData.depth]
    rw [e]
    omega
  · have e : minD (.int i) [.int j] = .int (min i j) := minD_ints i [j]
    rw [e] at rd
    cases rd with
    | int _ t => exact ⟨.int _, H, I.kept kp, ⟨t, rfl⟩, q⟩
end
/-! ## tuples put together, cut and repeated, over data -/
theorem fresh_same {d p : Addr} {H : Hp} {o : HO} (hd : DiceAt H d) (n : H p = none) : Same (hide d H) (hide d (upd H p o)) := ((Mv.refl hd).new n).same
theorem OpR.to {X : Cx} {f : Value → Value → Sem Value} {r r' : R2} (h : OpR X f r) (i : ∀ x y H Q, r' x y H Q → r x y H Q) : OpR X f r' :=
  fun pins s σ H x y v u Q I rx ry q => h pins s σ H x y v u Q I rx ry (i _ _ _ _ q)
theorem Dx.tupOf {H : Hp} {x : V} {ds : List PyData} (h : Dx H x (.tuple ds)) : ∃ a xs, x = .ref a ∧ H a = some (.tup xs) ∧ DxAll H xs ds := by
  cases h with
  | tup h1 h2 => exact ⟨_, _, rfl, h1, h2⟩
def rCatD : R2 := fun x y H Q => ∃ (d : Addr) (ds es : List PyData), DiceAt H d ∧ Dx (hide d H) x (.tuple ds) ∧ Dx (hide d H) y (.tuple es) ∧ ds.length + es.length ≤ 100000 ∧
  ∀ v H', Mv d H H' → Dx (hide d H') v (.tuple (ds ++ es)) → Q v H'
theorem op_catD {X : Cx} : OpR X (binaryOp .Add) rCatD := by
  refine OpR.to op_catA fun x y H Q h => ?_
  obtain ⟨d, ds, es, hd, hx, hy, hl, k⟩ := h
  obtain ⟨a, xs, rfl, ha, hxs⟩ := hx.tupOf
  obtain ⟨b, ys, rfl, hb, hys⟩ := hy.tupOf
  have l1 := hxs.len
  have l2 := hys.len
  refine ⟨a, b, xs, ys, rfl, rfl, SqT.of (hide_le _ _ ha), SqT.of (hide_le _ _ hb), Nat.le_trans (show xs.length + ys.length ≤ 100000 by omega) (by decide), fun e => ?_, fun _ e => ?_, fun _ _ p np => ?_⟩
  · subst e
    cases hxs
    exact k _ _ (Mv.refl hd) hy
  · subst e
    cases hys
    refine k _ _ (Mv.refl hd) ?_
    rw [List.append_nil]
    exact hx
  · refine k _ _ ((Mv.refl hd).new np) (.tup (by rw [hide_ne (hd.ne np)]; exact upd_same) (DxAll.grow (fresh_same hd np) (hxs.append hys)))
/-- the part of a tuple that a slice takes -/
def cutD (ds : List PyData) (lo hi : Option Int) : List PyData := (ds.drop (HT.sIx ds.length 0 lo)).take (HT.sIx ds.length ds.length hi - HT.sIx ds.length 0 lo)
def rSlD : V → Option Int → Option Int → Hp → VK → Prop := fun x lo hi H Q => ∃ (d : Addr) (ds : List PyData), DiceAt H d ∧ Dx (hide d H) x (.tuple ds) ∧
  ∀ v H', Mv d H H' → Dx (hide d H') v (.tuple (cutD ds lo hi)) → Q v H'
theorem sl_tupD {X : Cx} : SlR X rSlD := by
  intro pins s σ H x v vl vu lo hi sl Q I rx hs pl pu h
  obtain ⟨d, ds, hd, hx, k⟩ := h
  obtain ⟨a, xs, rfl, ha, hxs⟩ := hx.tupOf
  have l1 := hxs.len
  refine sl_tupA pins s σ H (.ref a) v vl vu lo hi sl Q I rx hs pl pu ⟨a, xs, rfl, SqT.of (hide_le _ _ ha), fun e => ?_, fun _ p np => ?_⟩
  · refine k _ _ (Mv.refl hd) ?_
    have e2 : cutD ds lo hi = ds := by
      unfold cutD
      rw [← l1, e.1, e.2]
      simp [l1]
    rw [e2]
    exact hx
  · refine k _ _ ((Mv.refl hd).new np) (.tup (by rw [hide_ne (hd.ne np)]; exact upd_same) (DxAll.grow (fresh_same hd np) ?_))
    have e2 : cutV xs lo hi = (xs.drop (HT.sIx ds.length 0 lo)).take (HT.sIx ds.length ds.length hi - HT.sIx ds.length 0 lo) := by
      unfold cutV
      rw [l1]
    rw [e2]
    exact (hxs.drop _).take _
def rRepD : R2 := fun x y H Q => ∃ (d : Addr) (k : Int) (ds : List PyData), y = .int k ∧ DiceAt H d ∧ Dx (hide d H) x (.tuple ds) ∧ ds ≠ [] ∧ 2 ≤ k ∧ k ≤ 1000 ∧ ds.length ≤ 1000 ∧
  ∀ v H', Mv d H H' → Dx (hide d H') v (.tuple (List.replicate k.toNat ds).flatten) → Q v H'
theorem DxAll.flat {H : Hp} {xs : List V} {ds : List PyData} (h : DxAll H xs ds) : ∀ n, DxAll H (List.replicate n xs).flatten (List.replicate n ds).flatten
  | 0 => .nil
  | n + 1 => by
    rw [List.replicate_succ, List.replicate_succ, List.flatten_cons, List.flatten_cons]
    exact h.append (DxAll.flat h n)
theorem op_repD {X : Cx} : OpR X (binaryOp .Mult) rRepD := by
  refine OpR.to op_repT fun x y H Q h => ?_
  obtain ⟨d, n, ds, rfl, hd, hx, h0, h2, h3, h4, k⟩ := h
  obtain ⟨a, xs, rfl, ha, hxs⟩ := hx.tupOf
  have l1 := hxs.len
  refine ⟨a, n, xs, rfl, rfl, SqT.of (hide_le _ _ ha), fun e => ?_, h2, h3, by omega, fun p np => ?_⟩
  · subst e
    cases hxs
    exact h0 rfl
  · exact k _ _ ((Mv.refl hd).new np) (.tup (by rw [hide_ne (hd.ne np)]; exact upd_same) (DxAll.grow (fresh_same hd np) (hxs.flat n.toNat)))
/-- a value picked out of a list of known data -/
theorem picked {d : Addr} {H H' : Hp} {xs : List V} {ds : List PyData} {i : Nat} {x : V} (h : DxAll (hide d H) xs ds) (m : Mv d H H') (e : xs[i]? = some x) : ∃ dat, dat ∈ ds ∧ Dx (hide d H') x dat := by
  obtain ⟨dat, h1, h2⟩ := h.get i x e
  exact ⟨dat, List.mem_of_getElem? h1, h2.grow m.same⟩
end G

set_option Elab.async false
set_option linter.all false
set_option maxRecDepth 100000
set_option maxHeartbeats 4000000
namespace G
open PySem PySem.Spec PyProof.Rows L2 HT
/-! ## a tuple read backwards: t[::-1] -/
theorem all_places {α : Type} : ∀ l : List α, (List.range l.length).filterMap (fun k => l[k]?) = l
  | [] => rfl
  | x :: r => by
    have ih := all_places r
    rw [List.length_cons, List.range_succ_eq_map, List.filterMap_cons]
    show x :: List.filterMap (fun k => (x :: r)[k]?) (List.map Nat.succ (List.range r.length)) = x :: r
    rw [List.filterMap_map]
    exact congrArg (x :: ·) ih
theorem fm_congr {α β : Type} {f g : α → Option β} : ∀ l : List α, (∀ x ∈ l, f x = g x) → l.filterMap f = l.filterMap g
  | [], _ => rfl
  | x :: r, h => by
    rw [List.filterMap_cons, List.filterMap_cons, h x List.mem_cons_self, fm_congr r fun y hy => h y (List.mem_cons_of_mem _ hy)]
theorem back_items (xs : Array Value) : ((List.range xs.size).filterMap fun (k : Nat) => xs[(((xs.size : Int) - 1) + (k : Int) * (-1)).toNat]?).toArray = xs.toList.reverse.toArray := by
  congr 1
  have e := all_places xs.toList.reverse
  rw [List.length_reverse, Array.length_toList] at e
  rw [← e]
  refine fm_congr _ fun k hk => ?_
  have hk' : k < xs.size := List.mem_range.mp hk
  rw [show (((xs.size : Int) - 1) + (k : Int) * (-1)).toNat = xs.size - 1 - k by omega]
  rw [← Array.getElem?_toList, List.getElem?_reverse (by rw [Array.length_toList]; exact hk'), Array.length_toList]
section
variable {prog : Program} {w : World} {A : Around} {E : Value → Shared → Prop} {s : Shared}
theorem applied_back {sl : Addr} {vl vu vs : Value} {n : Nat} {Q : Int × Int × Nat → Shared → Prop} (hs : s.heap.IsSliceOf sl vl vu vs) (pl : IsPart vl none) (pu : IsPart vu none) (ps : IsPart vs (some (-1)))
    (h : Q ((n : Int) - 1, -1, n) s) : wpAny (model prog w) A (Builtin.Slice.sliceApplied (.ref sl) (pure (n : Int))) Q E s := by
  obtain ⟨so, so1, so2, so3⟩ := id hs
  unfold Builtin.Slice.sliceApplied Builtin.Slice.sliceFields
  refine wpAny_bind (wpAny_bind (wpAny_field so1 so3 (x := vl) rfl (wpAny_bind (wpAny_field so1 so3 (x := vu) rfl (wpAny_bind (wpAny_field so1 so3 (x := vs) rfl (wpAny_pure ?_)))))))
  refine wpAny_bind (slicePart_ ps ?_)
  show wpAny _ _ (if ((-1 : Int) == 0) = true then _ else _) _ _ s
  rw [if_neg (by decide)]
  refine wpAny_bind (slicePart_ pl (wpAny_bind (slicePart_ pu (wpAny_bind (wpAny_pure ?_)))))
  have e1 : Builtin.Slice.sliceAdjust none none (-1) (n : Int) = ((n : Int) - 1, -1) := rfl
  have e2 : Builtin.Slice.slicePlaces ((n : Int) - 1) (-1) (-1) = n := by
    unfold Builtin.Slice.slicePlaces
    rw [if_neg (by decide)]
    by_cases q : (n : Int) - 1 > -1
    · rw [if_pos q]
      have : ((n : Int) - 1 - -1 - 1) / - -1 = (n : Int) - 1 - -1 - 1 := by
        rw [Int.neg_neg, Int.ediv_one]
      rw [this]
      omega
    · rw [if_neg q]
      omega
  show wpAny _ _ (match Builtin.Slice.sliceAdjust none none (-1) (n : Int) with | (lo, hi) => pure (lo, (-1 : Int), Builtin.Slice.slicePlaces lo hi (-1))) _ _ s
  rw [e1]
  show wpAny _ _ (pure ((n : Int) - 1, (-1 : Int), Builtin.Slice.slicePlaces ((n : Int) - 1) (-1) (-1))) _ _ s
  rw [e2]
  exact wpAny_pure h
theorem item_back {t sl : Addr} {items : Array Value} {vl vu vs : Value} {Q : Value → Shared → Prop} (ht : IsTup s.heap t items) (hs : s.heap.IsSliceOf sl vl vu vs) (pl : IsPart vl none) (pu : IsPart vu none) (ps : IsPart vs (some (-1)))
    (h : Q (.ref s.heap.objs.size) { s with heap := s.heap.push { cls := .type "tuple", data := .seq items.toList.reverse.toArray } }) (hsz : items.size ≤ sizeLine) : wpAny (model prog w) A (getItem (.ref t) (.ref sl)) Q E s := by
  have fits : sizeOk (.seq items.toList.reverse.toArray) := by
    show items.toList.reverse.toArray.size ≤ sizeLine
    rw [List.size_toArray, List.length_reverse, Array.length_toList]
    exact hsz
  obtain ⟨so, so1, so2, so3⟩ := id hs
  have kind : s.TypeIs (.ref sl) "slice" := ⟨so, so1, so2⟩
  unfold getItem
  try with_reducible refine wpAny_holding ?_
  first | refine wpAny_bind (wpAny_pure ?_) | skip
  refine wpAny_bind (wpAny_sequenceKey ht.typeIs (by decide) ?_)
  refine wpAny_bind (wpAny_callSpecial?_slot (name := Str.ofString "__getitem__") ht.typeIs PyProof.Rows.slot_tuple_getitem (wpAny_call_entry PyProof.Rows.slot_tuple_getitem ht.typeIs entry_tuple_getitem ?_ (args_tuple_getitem _ _)))
  show wpAny _ _ (Builtin.Tuple.tupleItemsOf (.ref t) >>= _) _ _ s
  refine wpAny_bind (tupleItemsOf_ ht (wpAny_bind (wpAny_typeOf kind ?_)))
  rw [if_pos (by decide)]
  refine wpAny_bind (applied_back hs pl pu ps ?_)
  have part : ¬ ((((items.size : Int) - 1) == 0 && (-1 : Int) == 1 && items.size == items.size) = true) := by
    intro q
    rw [Bool.and_eq_true, Bool.and_eq_true] at q
    exact absurd q.1.2 (by decide)
  show wpAny _ _ (if (((items.size : Int) - 1) == 0 && (-1 : Int) == 1 && items.size == items.size) = true then _ else _) _ _ s
  rw [if_neg part, back_items]
  first
    | exact wpAny_bind (m := Builtin.Tuple.tupleExact _) (wpAny_newObj_type (wpAny_pure ⟨_, rfl, wpAny_pure h⟩) fits)
    | exact wpAny_bind (m := Builtin.Tuple.tupleExact _) (wpAny_newObj_type (wpAny_bind (wpAny_pure (wpAny_pure ⟨_, rfl, wpAny_pure h⟩))) fits)
    | exact wpAny_bind (wpAny_bind (m := Builtin.Tuple.tupleExact _) (wpAny_newObj_type (wpAny_pure (wpAny_pure ⟨_, rfl, wpAny_pure h⟩)) fits))
    | exact wpAny_bind (wpAny_bind (m := Builtin.Tuple.tupleExact _) (wpAny_newObj_type (wpAny_pure ⟨_, rfl, wpAny_pure h⟩) fits))
end
def tRevT (K : PySem.W.Frag) (te : TE) : TE := fun σ H Q => te σ H fun x H1 => ∃ a xs, x = .ref a ∧ SqT K H1 a xs ∧ ∀ p, H1 p = none → Q (.ref p) (upd H1 p (.tup xs.reverse))
theorem pe_revT {X : Cx} {e : Expr} {te : TE} {k : Nat} {p1 p2 p3 pos : Pos} (he : PE X e te) : PE X (.Subscript e (.Slice none none (some (.UnaryOp .USub (.Constant (.int 1) k p1) p2)) p3) pos) (tRevT X.K te) := by
  constructor
  intro pins s σ H Q I h
  refine Subscript_ (thn (he.run pins s σ H _ I h) fun v s1 hv => ?_)
  obtain ⟨x, H1, I1, r1, a, xs, rfl, hx, q⟩ := hv
  cases r1
  have stp : PO X (some (.UnaryOp .USub (.Constant (.int 1) k p1) p2)) (tPart (tUn (rU fun i => .int (-i)) (tC (.int 1)))) := po_some (pe_un un_neg pe_int)
  refine wpAny_Slice (thn (po_none.run pins s1 σ H1 (fun o G => o = none ∧ G = H1) I1 ⟨rfl, rfl⟩) fun vl s2 hl => ?_)
  obtain ⟨l, H2, I2, pl, rfl, rfl⟩ := hl
  refine thn (po_none.run pins s2 σ H2 (fun o G => o = none ∧ G = H2) I2 ⟨rfl, rfl⟩) fun vu s3 hu => ?_
  obtain ⟨u, H3, I3, pu, rfl, rfl⟩ := hu
  refine thn (stp.run pins s3 σ H3 (fun o G => o = some (-1) ∧ G = H3) I3 ⟨1, rfl, -1, rfl, rfl, rfl⟩) fun vs s4 ho => ?_
  obtain ⟨o, H4, I4, ps, rfl, rfl⟩ := ho
  have I5 : Inv X pins σ H4 { s4 with heap := s4.heap.push { cls := .type "slice", data := .fields #[vl, vu, vs] } } := I4.kept (t' := s4.toks) fun b ob z => Heap.get?_push_of_some _ z
  obtain ⟨its, r, ht, hz⟩ := I5.tuple hx
  have hlen := r.length
  show wpAny (model X.prog X.w) X.A (subscriptTail e (.Slice none none (some (.UnaryOp .USub (.Constant (.int 1) k p1) p2)) p3) (.ref a) (.ref s4.heap.objs.size)) (EP X pins σ Q) X.xe { s4 with heap := s4.heap.push { cls := .type "slice", data := .fields #[vl, vu, vs] } }
  refine tail_any (ops := [.ref a, .ref s4.heap.objs.size]) ht.typeIs (PyProof.Rows.slot_tuple_getitem.lookup) ?_ (by with_unfolding_all rfl)
  refine item_back ht (Heap.IsSliceOf.new _ vl vu vs) pl pu ps ?_ (by rw [List.size_toArray]; omega)
  refine ⟨.ref _, _, I5.laid (t' := s4.toks) (o := .tup xs.reverse) (fun b ob z => Heap.get?_push_of_some _ z) (Nat.le_refl _) ?_, rfl, q _ (I5.hok.fresh (Nat.le_refl _))⟩
  refine ⟨by rw [List.length_reverse]; exact hz, its.reverse, r.reverse, _, Heap.get?_push_size _ rfl, rfl, 0, ?_⟩
  simp
end G

set_option Elab.async false
set_option linter.all false
set_option maxRecDepth 100000
set_option maxHeartbeats 4000000
namespace G
open PySem PySem.Spec PyProof.Rows L2
/-! ## Promises of defs that may raise (guards empty) -/
theorem okGX {P : Program} {w : World} {K : PySem.W.Frag} {mg : Str → Option Value} {base : Heap} {x qual : Str} {st : Stmt} {f : Addr} {fd : FuncData}
    {N ps : List Str} {k : Nat} {sp : Sp} (F : Fun K x qual st f fd) (S : FnScope N ps (defScope st)) (len : ∀ xs H Q E, sp xs H Q E → xs.length = ps.length)
    (hbody : ∀ (cdv : Value) (A : Around) (out : List Env) (s : Shared) (H : Hp) (xs : List V) (Q : VK) (E : XK), A.guards = some [] →
      Room k (A.deeper (envOfC qual (defScope st) s.heap.objs.size f cdv)) → sp xs H Q E →
      ∃ t, PSs (cxOf (L2.CX P w) P w K mg base N qual (defScope st) f cdv A out s H E) (defBody st) t ∧
        t { nx := fun _ H' => Q .non H', rt := Q } (start N xs) H) :
    FnG P w K mg base (L2.CX P w) (k + 1) f fd ps sp := by
  obtain ⟨oc, od, kV, doc, pm, an, cdv, ct, osl, rfl, lk, hcd⟩ := F.ex
  constructor
  · exact len
  intro A out s H args us xs Q E gA hr e0 hb r hsp
  have old : ∀ b o, base.get? b = some o → s.heap.get? b = some o := fun b o q => (e0.bs b o q).1
  have KX : K.In s.heap := e0.mod.kin.keeps old
  have lim : s.heap.NoLimit := e0.mod.nolimit.keeps old
  refine codeAny_call_function hr.depth (KX _ _ lk) rfl S.co S.gen rfl (PySem.W.codeRec_of KX hcd) (hb _ _ _ _ ?_)
  refine wpAny_newFunctionEnv_cells S.kind (fun y hy => ?_) fun env he s1 x1 => ?_
  · have q := S.par y.1 (List.of_mem_zip (a := y.1) (b := y.2) hy).1
    exact q.elim .inl fun q => .inr ⟨q, PySem.W.cellsFrom_some _ _ _ (.inl q)⟩
  · subst he
    refine ⟨lim.keeps x1.toInCall.keep, codeAny_func ?_⟩
    obtain ⟨t, ht, hq⟩ := hbody cdv A out s H xs Q E gA (hr.deeper _) hsp
    have I := inv_start (CX := L2.CX P w) (P := P) (w := w) (K := K) (mg := mg) (base := base) (N := N) (ps := ps) (E := E) S hr.hd e0 (len _ _ _ _ hsp) r x1
    refine wpAny_mono (ht.run [] s1 (start N xs) H _ I hq) (fun fl s2 hs => ?_) fun _ _ z => z
    match fl, hs with
    | .ret u, ⟨v, σ', H', J, rv, q⟩ => exact ⟨v, H', J.os, J.bare, J.base, J.hok, rv, q⟩
    | .next, ⟨σ', H', J, q⟩ => exact ⟨V.non, H', J.os, J.bare, J.base, J.hok, rfl, q⟩
    | .brk, ⟨_, _, _, q⟩ => exact q.elim
    | .cont, ⟨_, _, _, q⟩ => exact q.elim
structure CalX (P : Program) (w : World) (K : PySem.W.Frag) (mg : Str → Option Value) (base : Heap) (k : Nat) (x : Str) (ps : List Str) (sp : Sp) : Prop where
  ex : ∃ f fd, FnG P w K mg base (L2.CX P w) k f fd ps sp ∧ mg x = some (.ref f) ∧ PySem.W.keepIn K (.ref f) = true ∧ Binds K fd ps []
theorem calOkX {P : Program} {w : World} {K : PySem.W.Frag} {mg : Str → Option Value} {base : Heap} {x : Str} {st : Stmt} {N ps : List Str} {k : Nat} {sp : Sp}
    (D : DefAt K mg x st ps) (S : FnScope N ps (defScope st)) (len : ∀ xs H Q E, sp xs H Q E → xs.length = ps.length)
    (hbody : ∀ (f : Addr) (cdv : Value) (A : Around) (out : List Env) (s : Shared) (H : Hp) (xs : List V) (Q : VK) (E : XK), A.guards = some [] →
      Room k (A.deeper (envOfC x (defScope st) s.heap.objs.size f cdv)) → sp xs H Q E →
      ∃ t, PSs (cxOf (L2.CX P w) P w K mg base N x (defScope st) f cdv A out s H E) (defBody st) t ∧
        t { nx := fun _ H' => Q .non H', rt := Q } (start N xs) H) : CalX P w K mg base (k + 1) x ps sp := by
  obtain ⟨f, fd, F, m, b⟩ := D.ex
  exact ⟨f, fd, okGX F S len (hbody f), m, F.kp, Binds.all b⟩
section
variable {X : Cx} {CX : CXT} {k j : Nat} {f : Addr} {fd : FuncData} {ps : List Str} {sp : Sp} {E : L2.St → XK} {x : Str} {p pos : Pos} {e : Expr} {es : List Expr} {t : TA}
theorem runGS {pins : List (Addr × Obj)} {σ : L2.St} {H : Hp} {s : Shared} {Q : VK} {us : List Value} {xs : List V}
    (F : FnG X.prog X.w X.K X.mg X.base CX k f fd ps sp) (hgd : X.A.guards = some []) (hr : Room k X.A) (hb : Binds X.K fd ps []) (hx : PassesAt CX X σ (E σ))
    (I : Inv X pins σ H s) (r : Vals xs us) (h : sp xs H Q (E σ)) : wpAny (model X.prog X.w) X.A (call (.ref f) us) (EP X pins σ Q) X.xe s := by
  have sz : us.length = ps.length := r.length.symm.trans (F.len _ _ _ _ h)
  have body := F.go X.A X.stack s H ⟨us, []⟩ us xs Q (E σ) hgd hr I.env0 (by have := hb s us I.kIn (by rw [List.append_nil]; exact sz); rwa [List.append_nil] at this) r h
  refine wpAny_call (codeAny_mono body fun res t hq => ?_)
  match res, hq with
  | .error e, hq => exact hx pins H s e t I hq
  | .ok (.ret u), hq => exact I.after hq
  | .ok .next, hq => exact hq.elim
  | .ok .brk, hq => exact hq.elim
  | .ok .cont, hq => exact hq.elim
theorem pe_gS (F : FnG X.prog X.w X.K X.mg X.base CX k f fd ps sp)
    (hgd : X.A.guards = some []) (hr : Room k X.A) (hg : Gl X x) (hm : X.mg x = some (.ref f)) (hk : PySem.W.keepIn X.K (.ref f) = true)
    (hb : Binds X.K fd ps []) (hx : ∀ σ, PassesAt CX X σ (E σ)) (ha : PA X (e :: es) t)
    (hdb : (x == ("__debug__" : Str)) = false := by decide)
    (he : starEach (e :: es) X.env = (false, eval e X.env) :: starEach es X.env := by rfl)
    (hpl : (backTo pos (starEach es X.env)).any (·.1) = false := by rfl) :
    PE X (.Call (.Name x p) (e :: es) [] pos) (tCallS sp E t) :=
  ⟨fun pins s σ H Q I h => wpAny_Call_Name_kw (ld_glob I hg hm
    (PySem.W.callWith_K (h₀ := X.base) I.ok.mod.kin hk
      (thn (ha.run pos pins s σ H _ I h) fun us s1 ⟨xs, H1, I1, r, q⟩ => ⟨I1.kIn, runGS F hgd hr hb (hx σ) I1 r q⟩) he hpl) hdb)⟩
/-- a call of a def that may raise; what it lets out goes on to W -/
theorem pe_kx {W : WX} (c : CalX X.prog X.w X.K X.mg X.base k x ps sp) (tk : Takes X W) (hgd : X.A.guards = some []) (hr : Room j X.A) (hk : k ≤ j) (hg : Gl X x) (ha : PA X (e :: es) t)
    (hdb : (x == ("__debug__" : Str)) = false := by decide)
    (he : starEach (e :: es) X.env = (false, eval e X.env) :: starEach es X.env := by rfl)
    (hpl : (backTo pos (starEach es X.env)).any (·.1) = false := by rfl) :
    PE X (.Call (.Name x p) (e :: es) [] pos) (tCallS sp (WE W) t) := by
  obtain ⟨f, fd, F, m, kp, b⟩ := c.ex
  exact pe_gS F hgd (hr.mono hk) hg m kp b (fun σ => passAt tk σ) ha hdb he hpl
end
/-- a class of the text that is an exception over a built-in one, without an own __init__ -/
structure ErrAt (K : PySem.W.Frag) (mg : Str → Option Value) (x : Str) (C : Addr) (bm : List Value) (nid : String) : Prop where
  at_ : mg x = some (.ref C)
  exc : PySem.W.excIn K C bm nid = true
  keep : PySem.W.keepIn K (.ref C) = true
  base : PySem.W.subIn K (.ref C) (.type "BaseException") = some true
  ty : PySem.W.typeIn K (.ref C) = some (.type "type")
abbrev veL : List Value := [.type "ValueError", .type "Exception", .type "BaseException", .type "object"]
end G

set_option Elab.async false
set_option linter.all false
set_option maxRecDepth 100000
set_option maxHeartbeats 4000000
namespace G
open PySem PySem.W PySem.Calls PyProof.Rows
section
variable {prog : Program} {w : World} {A : Around} {E : Value → Shared → Prop} {R : Result → Shared → Prop} {s : Shared} {K : Frag} {B : String} {bmB : List Value}
/-- a local name of a def without cells -/
theorem ld_own {M : Model} {s : Shared} {name : Str} {scope : Scope} {L a : Addr} {cd : Value} {m : Str → Option Value} {x : Str} {pos : Pos} {v : Value} {Q : Value → Shared → Prop} {A : Around} {E : Value → Shared → Prop} (hn : s.heap.Ns L m) (hv : m x = some v) (h : Q v s)
    (hk : scope.kind = .function := by rfl) (hl : (envOfC name scope L a cd).kindOf x = some .local := by rfl) (hd : (x == ("__debug__" : Str)) = false := by decide) :
    wpAny M A (eval (.Name x pos) (envOfC name scope L a cd)) Q E s := wpAny_Name (wpAny_loadName_local hk hl hn hv h) hd
/-- the first field that is stored in a fresh exception of any base -/
theorem first_store {name : Str} {tk : Tok} {v : Value} {x C t : Addr} (SF : StoreFacts B bmB "object.__setattr__" "object") (X : K.In s.heap) (hx : s.heap.get? x = some (excObj C t none .none)) (ov : excOver K C bmB = true) (tn : takerIn K C name = some none) (hd : hasDictIn K C = true)
    (hq : ∀ h' tk' dx, (∀ b o, b ≠ x → s.heap.get? b = some o → h'.get? b = some o) → s.heap.objs.size ≤ dx → dx ≠ x → h'.get? x = some (excObj C t (some dx) .none) →
      h'.Ns1 dx (fun y => if y = name then some v else none) → R (.ok (.ret .none)) { s with heap := h', toks := tk' }) :
    codeAny (model prog w) A (.call (.builtin "object.__setattr__") ⟨[.ref x, .str name tk, v], []⟩) R s := by
  have low : x < s.heap.objs.size := Heap.lt_size hx
  refine osa_openX (od := none) SF X ⟨hx, rfl, rfl, trivial⟩ ov tn fun b => ?_
  obtain ⟨cd, hc, hd'⟩ := any_some hd
  refine wpAny_bind (wpAny_pure (wpAny_bind (instanceDict_exc hx (looks_clsIn X hc) hd' ?_)))
  have ne : x ≠ s.heap.objs.size := Nat.ne_of_lt low
  have hp : (s.heap.push (dictOf [] 0)).get? x = some (excObj C t none .none) := Heap.get?_push_of_some _ hx
  refine PySem.HandSPX.store_in_new (hp := (s.heap.push (dictOf [] 0)).update x fun o => { o with dict := some s.heap.objs.size }) ⟨_, #[], _, (Heap.get?_update_ne _ _ _ _ ne.symm).trans (Heap.get?_push_size _ rfl), rfl, fun e he => absurd he (by simp), fun _ => rfl⟩ fun h' tk' n sb => ?_
  refine hq h' tk' s.heap.objs.size (fun y o hy e => ?_) (Nat.le_refl _) ne.symm ?_ n
  · exact (sb.2 y (Nat.ne_of_lt (Heap.lt_size e))).trans ((Heap.get?_update_ne _ _ _ _ hy).trans (Heap.get?_push_of_some _ e))
  · exact (sb.2 x ne).trans (Heap.get?_update_self _ hp rfl)
end
end G

set_option Elab.async false
set_option linter.all false
set_option maxRecDepth 100000
set_option maxHeartbeats 4000000
namespace G
open PySem PySem.Spec PyProof.Rows L2
/-! ## try with clauses of both kinds: `except A:` and `except B as e:` -/
/-- behind a suite that had the error's name in slot i -/
def gone (i : Nat) (D : Ends) : Ends := { nx := fun σ H => D.nx (σ.set i none) H, rt := D.rt, bk := fun σ H => D.bk (σ.set i none) H, ct := fun σ H => D.ct (σ.set i none) H }
abbrev Clause := Value × Option Nat × (Addr → Value → Option Addr → TS)
def wMix (K : PySem.W.Frag) (Wout : WX) (D : Ends) : List Clause → WX
  | [] => Wout
  | (c, n, ts) :: r => fun cls d σ H => ∃ b, PySem.W.exmOne K cls c = some b ∧
      (b = true → ∀ a, H a = none → match n with | none => ts a cls d D σ H | some i => i < σ.length → ts a cls d (gone i D) (σ.set i (some (.ref a))) H) ∧ (b = false → wMix K Wout D r cls d σ H)
inductive MixOk (X : Cx) : List ExceptHandler → List Clause → Prop
  | nil : MixOk X [] []
  | plain {x : Str} {c : Value} {ts : Addr → Value → Option Addr → TS} {b0 : Stmt} {bs : List Stmt} {np hp : Pos} {hds : List ExceptHandler} {l : List Clause} (hc : Names X x c)
      (su : ∀ (a : Addr) (oe : Obj) (cls : Value) (d : Option Addr) (pn : List (Addr × Obj)), Zc cls d oe → (∃ vs, oe.data = .fields vs) → X.base.get? a = none → PSs (X.suite a ((a, oe) :: pn)) (b0 :: bs) (ts a cls d)) (r : MixOk X hds l) :
      MixOk X (.ExceptHandler (some (.Name x np)) none (b0 :: bs) hp :: hds) ((c, none, ts) :: l)
  | named {x n : Str} {i : Nat} {c : Value} {ts : Addr → Value → Option Addr → TS} {b0 : Stmt} {bs : List Stmt} {np hp : Pos} {hds : List ExceptHandler} {l : List Clause} (hc : Names X x c) (hN : X.N.Nodup) (hi : X.N[i]? = some n) (hl : X.env.kindOf n = some .local)
      (su : ∀ (a : Addr) (oe : Obj) (cls : Value) (d : Option Addr) (pn : List (Addr × Obj)), Zc cls d oe → (∃ vs, oe.data = .fields vs) → X.base.get? a = none → PSs (X.suite a ((a, oe) :: pn)) (b0 :: bs) (ts a cls d)) (r : MixOk X hds l) :
      MixOk X (.ExceptHandler (some (.Name x np)) (some n) (b0 :: bs) hp :: hds) ((c, some i, ts) :: l)
section
variable {X : Cx} {body : List Stmt} {h0 : ExceptHandler} {hds : List ExceptHandler} {l : List Clause} {pos : Pos} {tb : WX → TS} {Wout : WX}
theorem ps_mix (hs : X.stack = X.env :: X.outer) (hf : X.env.frame = some X.env.locals) (tk : Takes X Wout)
    (hb : ∀ (W : WX) (pn : List (Addr × Obj)) (xe : Value → Shared → Prop), Takes (X.tr pn xe) W → PassesOwn (model X.prog X.w) X.A X.env xe → PSs (X.tr pn xe) body (tb W))
    (hh : MixOk X (h0 :: hds) l) : PS X (.Try body (h0 :: hds) [] [] pos) (fun D σ H => tb (wMix X.K Wout D l) D σ H) := by
  constructor
  intro pins s σ H D I h
  have ok := I.ok
  have frames : X.A.frames = some (X.env :: X.outer) := ok.frames.trans (congrArg some hs)
  -- what meets an error that the body lets out
  let meets : Value → Shared → Prop := fun e s1 => wpAny (model X.prog X.w) X.A (noteFrame e X.env) (fun _ s2 => wpAny (model X.prog X.w) X.A (setFlight e none) (fun _ s3 => wpAny (model X.prog X.w) X.A (handleBy e X.env (h0 :: hds)) (SP X pins D) X.xe s3) X.xe s2) X.xe s1
  have catches : Takes (X.tr (X.pn ++ pins) meets) (wMix X.K Wout D l) := by
    rintro _ t ⟨a, B, sI, pins', σ', H', cls, d, rfl, J', nb, up, sky, na, os, ag, w⟩
    have J : Inv X pins σ' H' sI := J'.ofTry ok
    refine Sky.land Zc.steady frames hf (hs ▸ sky : Sky B (X.env :: X.outer) a (Zc cls d) X.env.locals t.heap) fun h3 fl up3 => ?_
    have J3 : Inv X pins σ' H' { t with heap := h3 } := J.landed nb fl.1 (up.trans up3) os ag
    obtain ⟨oe, vs, eo, zo, do_⟩ := fl.there
    have nbase : X.base.get? a = none := by
      cases q : X.base.get? a with
      | none => rfl
      | some ob =>
        have q1 := J'.bk a ob q
        have q2 : a ∉ frs X.stack := fun hm => by
          have z := (J'.stack.mem hm).1
          rw [show (X.tr (X.pn ++ pins) meets).base = X.base from rfl, q] at z
          cases z
        have q3 := nb a ob q1 q2
        rw [fl.2.1] at q3
        cases q3
    have away : a ∉ frs (X.env :: X.outer) := fun hm => by
      obtain ⟨_, o, e, nf⟩ := fl.2.2.1.mem hm
      rw [eo] at e
      cases e
      exact nf _ do_
    have nL : a ≠ X.env.locals := fun z => away (List.mem_filterMap.mpr ⟨X.env, List.mem_cons_self, hf.trans (congrArg some z.symm)⟩)
    have nF : a ∉ X.fs := fun hm => by
      obtain ⟨e, he, q⟩ := List.mem_filterMap.mp hm
      exact away (List.mem_filterMap.mpr ⟨e, List.mem_cons_of_mem _ he, q⟩)
    have S3 := J3.suite eo do_ na nL nF
    have isA : PySem.W.Looks (model X.prog X.w) h3 (typeOf (.ref a)) cls := fun A Q E s k q => wpAny_typeOf_ref (k _ _ eo) (zo.1.symm ▸ q)
    -- a clause's class is looked up
    have look : ∀ {x : Str} {c : Value} {np : Pos} {Q E : Value → Shared → Prop}, Names X x c → Q c { t with heap := h3 } → wpAny (model X.prog X.w) (X.A.mark (some (.ref a))) (eval (.Name x np) X.env) Q E { t with heap := h3 } := by
      rintro x c np Q E ⟨gx, nx, mx | ⟨mx, vx, ex⟩⟩ q
      · exact ld_glob (X := X.suite a ((a, oe) :: (X.pn ++ pins))) S3 gx mx q nx
      · exact ld_blt (X := X.suite a ((a, oe) :: (X.pn ++ pins))) S3 gx mx vx q ex nx
    have go : ∀ {hs' : List ExceptHandler} {l' : List Clause}, MixOk X hs' l' → wMix X.K Wout D l' cls d σ' H' → wpAny (model X.prog X.w) X.A (handleBy (.ref a) X.env hs') (SP X pins D) X.xe { t with heap := h3 } := by
      intro hs' l' m
      induction m with
      | nil =>
        intro w
        have flight := fl
        obtain ⟨_, _, _, oe2, vs2, T, _, _, e2, _, d2, i1, _⟩ := flight
        have out : wpAny (model X.prog X.w) X.A (setFlight (.ref a) X.env.frame) (fun _ s4 => wpAny (model X.prog X.w) X.A (throw (.ref a) : Sem Flow) (SP X pins D) X.xe s4) X.xe { t with heap := h3 } := by
          rw [hf]
          exact HandSPX.setFlight_upZ fl fun h4 held up4 => wpAny_throw (tk _ _ ⟨a, B, sI, pins, σ', H', cls, d, rfl, J, nb, (up.trans up3).trans up4, .inr (.inr (hs.symm ▸ held)), na, os, ag, w⟩)
        refine wpAny_handleBy_nil ?_
        unfold PySem.passOn
        refine wpAny_bind (wpAny_field e2 d2 i1 ?_)
        rw [if_neg (by simp : ¬ ((Value.ref T == Value.none) = true))]
        first
          | exact wpAny_bind out
          | exact wpAny_bind (wpAny_pure (wpAny_bind out))
      | plain hc su r ih =>
        rintro ⟨b, hb1, yes, no⟩
        refine wpAny_handleBy_cons (codeAny_handlers_test (look hc ((PySem.W.exm_one (M := model X.prog X.w) J3.kIn isA hb1).here ?_))) (fun q => nomatch q)
        match b, hb1, yes, no with
        | false, _, _, no => exact ih (no rfl)
        | true, _, yes, _ =>
          refine codeAny_handlers_suite (HandSPX.lands_againZ fl fun h4 fl4 up4 => ?_)
          have J4 : Inv X pins σ' H' { t with heap := h4 } := J.landed nb fl4.1 ((up.trans up3).trans up4) os ag
          obtain ⟨oe4, vs4, e4, z4, d4⟩ := fl4.there
          refine wpAny_mono ((su a oe4 cls d (X.pn ++ pins) z4 ⟨_, d4⟩ nbase).run [] _ _ H' _ (J4.suite e4 d4 na nL nF) (yes rfl a na)) (fun f s6 q => ?_) (fun _ _ z => z.elim)
          match f, q with
          | .next, ⟨σ6, H6, S6, q6⟩ => exact ⟨_, _, S6.unsuite ok, q6⟩
          | .brk, ⟨σ6, H6, S6, q6⟩ => exact ⟨_, _, S6.unsuite ok, q6⟩
          | .cont, ⟨σ6, H6, S6, q6⟩ => exact ⟨_, _, S6.unsuite ok, q6⟩
          | .ret u, ⟨v6, σ6, H6, S6, r6, q6⟩ => exact ⟨_, _, _, S6.unsuite ok, r6, q6⟩
      | @named x n i c ts b0 bs np hp hds2 l2 hc hN hi hl su r ih =>
        rintro ⟨b, hb1, yes, no⟩
        refine wpAny_handleBy_cons (codeAny_handlers_test (look hc ((PySem.W.exm_one (M := model X.prog X.w) J3.kIn isA hb1).here ?_))) (fun q => nomatch q)
        match b, hb1, yes, no with
        | false, _, _, no => exact ih (no rfl)
        | true, _, yes, _ =>
          refine codeAny_handlers_suite_as (HandSPX.lands_againZ fl fun h4 fl4 up4 => ?_)
          have J4 : Inv X pins σ' H' { t with heap := h4 } := J.landed nb fl4.1 ((up.trans up3).trans up4) os ag
          obtain ⟨oe4, vs4, e4, z4, d4⟩ := fl4.there
          refine store_ok (X := X.suite a ((a, oe4) :: (X.pn ++ pins))) (v := .ref a) (J4.suite e4 d4 na nL nF) hN hi (.inl hl) rfl (fun s5 S5 => ?_) (.inr hl)
          refine wpAny_mono ((su a oe4 cls d (X.pn ++ pins) z4 ⟨_, d4⟩ nbase).run [] s5 _ H' _ S5 (yes rfl a na (by rw [J.len]; exact (List.getElem?_eq_some_iff.mp hi).1))) (fun f s6 q => ?_) (fun _ _ z => z.elim)
          have fin : ∀ {σ6 : L2.St} {H6 : Hp} {Q : Shared → Prop}, Inv (X.suite a ((a, oe4) :: (X.pn ++ pins))) [] σ6 H6 s6 → (∀ s7, Inv X pins (σ6.set i none) H6 s7 → Q s7) →
              wpAny (model X.prog X.w) X.A (do bindName X.env n .none; unbindBehindTheSuite X.env n hp) (fun _ s7 => Q s7) X.xe s6 := fun {σ6 H6 Q} S6 k => gone_ok (S6.unsuite ok) hN hi hl k
          match f, q with
          | .next, ⟨σ6, H6, S6, q6⟩ => exact fin S6 fun s7 J7 => ⟨_, _, J7, q6⟩
          | .brk, ⟨σ6, H6, S6, q6⟩ => exact fin S6 fun s7 J7 => ⟨_, _, J7, q6⟩
          | .cont, ⟨σ6, H6, S6, q6⟩ => exact fin S6 fun s7 J7 => ⟨_, _, J7, q6⟩
          | .ret u, ⟨v6, σ6, H6, S6, r6, q6⟩ => exact fin S6 fun s7 J7 => ⟨_, _, _, J7, r6, q6⟩
    exact go hh w
  refine wpAny_Try_except (wpAny_mono ((hb (wMix X.K Wout D l) (X.pn ++ pins) meets catches PassesOwn.looking).run [] s σ H D (I.toTry _) h) (fun f s1 q => ?_) (fun e s1 z => z))
  match f, q with
  | .next, ⟨σ1, H1, J1, q1⟩ => exact wpAny_execs_nil ⟨σ1, H1, J1.ofTry ok, q1⟩
  | .brk, ⟨σ1, H1, J1, q1⟩ => exact ⟨σ1, H1, J1.ofTry ok, q1⟩
  | .cont, ⟨σ1, H1, J1, q1⟩ => exact ⟨σ1, H1, J1.ofTry ok, q1⟩
  | .ret u, ⟨v, σ1, H1, J1, r, q1⟩ => exact ⟨v, σ1, H1, J1.ofTry ok, r, q1⟩
end
end G

set_option Elab.async false
set_option linter.all false
set_option maxRecDepth 100000
set_option maxHeartbeats 4000000
namespace G
open PySem PySem.Spec PyProof.Rows L2
/-! ## Promises with a switch: gq = true asks for empty guards (texts of containers), gq = false asks nothing (so a lambda may call) -/
structure FnQ (gq : Bool) (P : Program) (w : World) (K : PySem.W.Frag) (mg : Str → Option Value) (base : Heap)
    (CX : CXT) (k : Nat) (f : Addr) (fd : FuncData) (ps : List Str) (sp : Sp) : Prop where
  len : ∀ xs H Q E, sp xs H Q E → xs.length = ps.length
  go : ∀ (A : Around) (out : List Env) (s : Shared) (H : Hp) (args : Args) (us : List Value) (xs : List V) (Q : VK) (E : XK),
    (gq = true → A.guards = some []) → Room k A → Env0 P w K mg base A out s H → BindsTo s fd args (ps.zip us) → Vals xs us → sp xs H Q E →
    codeAny (model P w) A (.call (.ref f) args) (CR CX out P w H s Q E) s
theorem FnQ.g {gq P w K mg base CX k f fd ps sp} (F : FnQ gq P w K mg base CX k f fd ps sp) : FnG P w K mg base CX k f fd ps sp :=
  ⟨F.len, fun A out s H args us xs Q E hg => F.go A out s H args us xs Q E fun _ => hg⟩
theorem FnQ.ok {P w K mg base CX k f fd ps sp} (F : FnQ false P w K mg base CX k f fd ps sp) : FnOk P w K mg base CX k f fd ps sp :=
  ⟨F.len, fun A out s H args us xs Q E => F.go A out s H args us xs Q E fun z => Bool.noConfusion z⟩
theorem FnQ.mono {gq P w K mg base CX j k f fd ps sp} (F : FnQ gq P w K mg base CX j f fd ps sp) (h : j ≤ k) : FnQ gq P w K mg base CX k f fd ps sp :=
  ⟨F.len, fun A out s H args us xs Q E hg hr => F.go A out s H args us xs Q E hg (hr.mono h)⟩
section
variable {gq : Bool} {X : Cx} {CX : CXT} {k j : Nat} {f : Addr} {fd : FuncData} {ps : List Str} {sp : Sp} {E : L2.St → XK} {x : Str} {p pos : Pos} {e : Expr} {es : List Expr} {t : TA}
theorem runQ {pins : List (Addr × Obj)} {σ : L2.St} {H : Hp} {s : Shared} {Q : VK} {us : List Value} {xs : List V}
    (F : FnQ gq X.prog X.w X.K X.mg X.base CX k f fd ps sp) (hgd : gq = true → X.A.guards = some []) (hr : Room k X.A) (hb : Binds X.K fd ps []) (hx : PassesAt CX X σ (E σ))
    (I : Inv X pins σ H s) (r : Vals xs us) (h : sp xs H Q (E σ)) : wpAny (model X.prog X.w) X.A (call (.ref f) us) (EP X pins σ Q) X.xe s := by
  have sz : us.length = ps.length := r.length.symm.trans (F.len _ _ _ _ h)
  have body := F.go X.A X.stack s H ⟨us, []⟩ us xs Q (E σ) hgd hr I.env0 (by have := hb s us I.kIn (by rw [List.append_nil]; exact sz); rwa [List.append_nil] at this) r h
  refine wpAny_call (codeAny_mono body fun res t hq => ?_)
  match res, hq with
  | .error e, hq => exact hx pins H s e t I hq
  | .ok (.ret u), hq => exact I.after hq
  | .ok .next, hq => exact hq.elim
  | .ok .brk, hq => exact hq.elim
  | .ok .cont, hq => exact hq.elim
theorem pe_q (F : FnQ gq X.prog X.w X.K X.mg X.base CX k f fd ps sp)
    (hgd : gq = true → X.A.guards = some []) (hr : Room k X.A) (hg : Gl X x) (hm : X.mg x = some (.ref f)) (hk : PySem.W.keepIn X.K (.ref f) = true)
    (hb : Binds X.K fd ps []) (hx : ∀ σ, PassesAt CX X σ (E σ)) (ha : PA X (e :: es) t)
    (hdb : (x == ("__debug__" : Str)) = false := by decide)
    (he : starEach (e :: es) X.env = (false, eval e X.env) :: starEach es X.env := by rfl)
    (hpl : (backTo pos (starEach es X.env)).any (·.1) = false := by rfl) :
    PE X (.Call (.Name x p) (e :: es) [] pos) (tCallS sp E t) :=
  ⟨fun pins s σ H Q I h => wpAny_Call_Name_kw (ld_glob I hg hm
    (PySem.W.callWith_K (h₀ := X.base) I.ok.mod.kin hk
      (thn (ha.run pos pins s σ H _ I h) fun us s1 ⟨xs, H1, I1, r, q⟩ => ⟨I1.kIn, runQ F hgd hr hb (hx σ) I1 r q⟩) he hpl) hdb)⟩
end
/-- a def that raises nothing -/
structure CalQ (gq : Bool) (P : Program) (w : World) (K : PySem.W.Frag) (mg : Str → Option Value) (base : Heap) (k : Nat) (x : Str) (ps : List Str) (sp : Sp) : Prop where
  ex : ∃ f fd, FnQ gq P w K mg base CX0 k f fd ps sp ∧ mg x = some (.ref f) ∧ PySem.W.keepIn K (.ref f) = true ∧ Binds K fd ps []
/-- a def that may raise -/
structure CalXQ (gq : Bool) (P : Program) (w : World) (K : PySem.W.Frag) (mg : Str → Option Value) (base : Heap) (k : Nat) (x : Str) (ps : List Str) (sp : Sp) : Prop where
  ex : ∃ f fd, FnQ gq P w K mg base (L2.CX P w) k f fd ps sp ∧ mg x = some (.ref f) ∧ PySem.W.keepIn K (.ref f) = true ∧ Binds K fd ps []
theorem CalQ.g {gq P w K mg base k x ps sp} (c : CalQ gq P w K mg base k x ps sp) : CalG P w K mg base k x ps sp :=
  let ⟨f, fd, F, r⟩ := c.ex
  ⟨f, fd, F.g, r⟩
theorem CalXQ.x {gq P w K mg base k x ps sp} (c : CalXQ gq P w K mg base k x ps sp) : CalX P w K mg base k x ps sp :=
  let ⟨f, fd, F, r⟩ := c.ex
  ⟨f, fd, F.g, r⟩
theorem okQ {gq : Bool} {CX : CXT} {P : Program} {w : World} {K : PySem.W.Frag} {mg : Str → Option Value} {base : Heap} {x qual : Str} {st : Stmt} {f : Addr} {fd : FuncData}
    {N ps : List Str} {k : Nat} {sp : Sp} (F : Fun K x qual st f fd) (S : FnScope N ps (defScope st)) (len : ∀ xs H Q E, sp xs H Q E → xs.length = ps.length)
    (hbody : ∀ (cdv : Value) (A : Around) (out : List Env) (s : Shared) (H : Hp) (xs : List V) (Q : VK) (E : XK), (gq = true → A.guards = some []) →
      Room k (A.deeper (envOfC qual (defScope st) s.heap.objs.size f cdv)) → sp xs H Q E →
      ∃ t, PSs (cxOf CX P w K mg base N qual (defScope st) f cdv A out s H E) (defBody st) t ∧
        t { nx := fun _ H' => Q .non H', rt := Q } (start N xs) H) :
    FnQ gq P w K mg base CX (k + 1) f fd ps sp := by
  obtain ⟨oc, od, kV, doc, pm, an, cdv, ct, osl, rfl, lk, hcd⟩ := F.ex
  constructor
  · exact len
  intro A out s H args us xs Q E gA hr e0 hb r hsp
  have old : ∀ b o, base.get? b = some o → s.heap.get? b = some o := fun b o q => (e0.bs b o q).1
  have KX : K.In s.heap := e0.mod.kin.keeps old
  have lim : s.heap.NoLimit := e0.mod.nolimit.keeps old
  refine codeAny_call_function hr.depth (KX _ _ lk) rfl S.co S.gen rfl (PySem.W.codeRec_of KX hcd) (hb _ _ _ _ ?_)
  refine wpAny_newFunctionEnv_cells S.kind (fun y hy => ?_) fun env he s1 x1 => ?_
  · have q := S.par y.1 (List.of_mem_zip (a := y.1) (b := y.2) hy).1
    exact q.elim .inl fun q => .inr ⟨q, PySem.W.cellsFrom_some _ _ _ (.inl q)⟩
  · subst he
    refine ⟨lim.keeps x1.toInCall.keep, codeAny_func ?_⟩
    obtain ⟨t, ht, hq⟩ := hbody cdv A out s H xs Q E gA (hr.deeper _) hsp
    have I := inv_start (CX := CX) (P := P) (w := w) (K := K) (mg := mg) (base := base) (N := N) (ps := ps) (E := E) S hr.hd e0 (len _ _ _ _ hsp) r x1
    refine wpAny_mono (ht.run [] s1 (start N xs) H _ I hq) (fun fl s2 hs => ?_) fun _ _ z => z
    match fl, hs with
    | .ret u, ⟨v, σ', H', J, rv, q⟩ => exact ⟨v, H', J.os, J.bare, J.base, J.hok, rv, q⟩
    | .next, ⟨σ', H', J, q⟩ => exact ⟨V.non, H', J.os, J.bare, J.base, J.hok, rfl, q⟩
    | .brk, ⟨_, _, _, q⟩ => exact q.elim
    | .cont, ⟨_, _, _, q⟩ => exact q.elim
theorem calOkQ {gq : Bool} {P : Program} {w : World} {K : PySem.W.Frag} {mg : Str → Option Value} {base : Heap} {x : Str} {st : Stmt} {N ps : List Str} {k : Nat} {sp : Sp}
    (D : DefAt K mg x st ps) (S : FnScope N ps (defScope st)) (len : ∀ xs H Q E, sp xs H Q E → xs.length = ps.length)
    (hbody : ∀ (f : Addr) (cdv : Value) (A : Around) (out : List Env) (s : Shared) (H : Hp) (xs : List V) (Q : VK) (E : XK), (gq = true → A.guards = some []) →
      Room k (A.deeper (envOfC x (defScope st) s.heap.objs.size f cdv)) → sp xs H Q E →
      ∃ t, PSs (cxOf CX0 P w K mg base N x (defScope st) f cdv A out s H E).nox (defBody st) t ∧
        t { nx := fun _ H' => Q .non H', rt := Q } (start N xs) H) : CalQ gq P w K mg base (k + 1) x ps sp := by
  obtain ⟨f, fd, F, m, b⟩ := D.ex
  refine ⟨f, fd, okQ F S len (fun cdv A out s H xs Q E g r h => ?_), m, F.kp, Binds.all b⟩
  obtain ⟨t, ht, q⟩ := hbody f cdv A out s H xs Q E g r h
  exact ⟨t, ht.nox, q⟩
theorem calOkXQ {gq : Bool} {P : Program} {w : World} {K : PySem.W.Frag} {mg : Str → Option Value} {base : Heap} {x : Str} {st : Stmt} {N ps : List Str} {k : Nat} {sp : Sp}
    (D : DefAt K mg x st ps) (S : FnScope N ps (defScope st)) (len : ∀ xs H Q E, sp xs H Q E → xs.length = ps.length)
    (hbody : ∀ (f : Addr) (cdv : Value) (A : Around) (out : List Env) (s : Shared) (H : Hp) (xs : List V) (Q : VK) (E : XK), (gq = true → A.guards = some []) →
      Room k (A.deeper (envOfC x (defScope st) s.heap.objs.size f cdv)) → sp xs H Q E →
      ∃ t, PSs (cxOf (L2.CX P w) P w K mg base N x (defScope st) f cdv A out s H E) (defBody st) t ∧
        t { nx := fun _ H' => Q .non H', rt := Q } (start N xs) H) : CalXQ gq P w K mg base (k + 1) x ps sp := by
  obtain ⟨f, fd, F, m, b⟩ := D.ex
  exact ⟨f, fd, okQ F S len (hbody f), m, F.kp, Binds.all b⟩
section
variable {gq : Bool} {X : Cx} {k j : Nat} {ps : List Str} {sp : Sp} {x : Str} {p pos : Pos} {e : Expr} {es : List Expr} {t : TA}
theorem pe_kq (c : CalQ gq X.prog X.w X.K X.mg X.base k x ps sp) (hgd : gq = true → X.A.guards = some []) (hr : Room j X.A) (hk : k ≤ j) (hg : Gl X x) (ha : PA X (e :: es) t)
    (hdb : (x == ("__debug__" : Str)) = false := by decide)
    (he : starEach (e :: es) X.env = (false, eval e X.env) :: starEach es X.env := by rfl)
    (hpl : (backTo pos (starEach es X.env)).any (·.1) = false := by rfl) :
    PE X (.Call (.Name x p) (e :: es) [] pos) (tCallS sp (fun _ => E0) t) := by
  obtain ⟨f, fd, F, m, kp, b⟩ := c.ex
  exact pe_q F hgd (hr.mono hk) hg m kp b (fun σ pins H s e s' I c => c.elim) ha hdb he hpl
theorem pe_kxq {W : WX} (c : CalXQ gq X.prog X.w X.K X.mg X.base k x ps sp) (tk : Takes X W) (hgd : gq = true → X.A.guards = some []) (hr : Room j X.A) (hk : k ≤ j) (hg : Gl X x) (ha : PA X (e :: es) t)
    (hdb : (x == ("__debug__" : Str)) = false := by decide)
    (he : starEach (e :: es) X.env = (false, eval e X.env) :: starEach es X.env := by rfl)
    (hpl : (backTo pos (starEach es X.env)).any (·.1) = false := by rfl) :
    PE X (.Call (.Name x p) (e :: es) [] pos) (tCallS sp (WE W) t) := by
  obtain ⟨f, fd, F, m, kp, b⟩ := c.ex
  exact pe_q F hgd (hr.mono hk) hg m kp b (fun σ => passAt tk σ) ha hdb he hpl
end
end G

set_option Elab.async false
set_option linter.all false
set_option maxRecDepth 100000
set_option maxHeartbeats 4000000
namespace G
open PySem PySem.Spec PyProof.Rows L2
/-! ## all but the tables of code objects stays -/
mutual
theorem Dx.ext {H H' : Hp} (s : LamX.ExtN H H') : ∀ {x : V} {d : PyData}, Dx H x d → Dx H' x d
  | _, _, .non => .non
  | _, _, .bl b => .bl b
  | _, _, .int i => .int i
  | _, _, .str x => .str x
  | _, _, .lst h a => .lst (s _ _ h fun _ z => by cases z) (DxAll.ext s a)
  | _, _, .tup h a => .tup (s _ _ h fun _ z => by cases z) (DxAll.ext s a)
  | _, _, .dct h a => .dct (s _ _ h fun _ z => by cases z) (DxKv.ext s a)
theorem DxAll.ext {H H' : Hp} (s : LamX.ExtN H H') : ∀ {xs : List V} {ds : List PyData}, DxAll H xs ds → DxAll H' xs ds
  | _, _, .nil => .nil
  | _, _, .cons a b => .cons (Dx.ext s a) (DxAll.ext s b)
theorem DxKv.ext {H H' : Hp} (s : LamX.ExtN H H') : ∀ {xs : List (Key × V)} {ds : List (PyData × PyData)}, DxKv H xs ds → DxKv H' xs ds
  | _, _, .nil => .nil
  | _, _, .cons a b => .cons (Dx.ext s a) (DxKv.ext s b)
end
theorem ext_of_same {H H' : Hp} (s : Same H H') : LamX.ExtN H H' := fun b o h _ => s b o h
theorem ext_hide {d : Addr} {H H' : Hp} (e : LamX.ExtN H H') : LamX.ExtN (hide d H) (hide d H') := fun b o h n => by
  by_cases q : b = d
  · subst q
    rw [hide_at] at h
    cases h
  · rw [hide_ne q] at h ⊢
    exact e b o h n
theorem dice_ext {d : Addr} {H H' : Hp} (dd : DiceAt H d) (e : LamX.ExtN H H') : DiceAt H' d :=
  let ⟨l, s, c, h⟩ := dd
  ⟨l, s, c, e _ _ h fun _ z => by cases z⟩
theorem tabs_mv {T : List (Addr × Str)} {d : Addr} {H H' : Hp} (t : LamX.Tabs T H) (dd : DiceAt H d) (m : Mv d H H') : LamX.Tabs T H' := fun p hp => by
  obtain ⟨l, s, c, hd⟩ := dd
  obtain ⟨ps, h1, h2, h3⟩ := t p hp
  have ne1 : p.1 ≠ d := fun e => by
    rw [e, hd] at h1
    cases h1
  refine ⟨ps, m.get ne1 h1, h2, fun pos cv hc => ?_⟩
  obtain ⟨c0, e1, e2⟩ := h3 pos cv hc
  refine ⟨c0, e1, m.get (fun e => ?_) e2⟩
  rw [e, hd] at e2
  unfold LamX.CodeO at e2
  cases e2
theorem tabs_put {T : List (Addr × Str)} {p : Addr} {H : Hp} {xs : List V} {o : HO} (t : LamX.Tabs T H) (hp : H p = some (.lst xs)) : LamX.Tabs T (upd H p o) := fun q hq => by
  obtain ⟨ps, h1, h2, h3⟩ := t q hq
  have ne1 : q.1 ≠ p := fun e => by
    rw [e, hp] at h1
    cases h1
  refine ⟨ps, by rw [upd_ne ne1]; exact h1, h2, fun pos cv hc => ?_⟩
  obtain ⟨c0, e1, e2⟩ := h3 pos cv hc
  refine ⟨c0, e1, ?_⟩
  rw [upd_ne (fun e => ?_)]
  · exact e2
  · rw [e, hp] at e2
    unfold LamX.CodeO at e2
    cases e2
structure MvT (T : List (Addr × Str)) (d : Addr) (H H' : Hp) : Prop where
  ext : LamX.ExtN (hide d H) (hide d H')
  dice : DiceAt H' d
  tabs : LamX.Tabs T H'
theorem MvT.refl {T : List (Addr × Str)} {d : Addr} {H : Hp} (dd : DiceAt H d) (t : LamX.Tabs T H) : MvT T d H H := ⟨LamX.ExtN.refl _, dd, t⟩
theorem MvT.trans {T : List (Addr × Str)} {d : Addr} {H H1 H2 : Hp} (a : MvT T d H H1) (b : MvT T d H1 H2) : MvT T d H H2 := ⟨a.ext.trans b.ext, b.dice, b.tabs⟩
theorem MvT.mv {T : List (Addr × Str)} {d : Addr} {H H1 H2 : Hp} (a : MvT T d H H1) (b : Mv d H1 H2) : MvT T d H H2 := ⟨a.ext.trans (ext_of_same b.same), b.dice, tabs_mv a.tabs a.dice b⟩
theorem MvT.same {T : List (Addr × Str)} {d : Addr} {H H1 H2 : Hp} (a : MvT T d H H1) (b : Same H1 H2) : MvT T d H H2 := a.mv ((Mv.refl a.dice).ofSame b)
theorem MvT.lam {T : List (Addr × Str)} {d : Addr} {H H1 H2 : Hp} (a : MvT T d H H1) (e : LamX.ExtN H1 H2) (t : LamX.Tabs T H2) : MvT T d H H2 := ⟨a.ext.trans (ext_hide e), dice_ext a.dice e, t⟩
theorem MvT.dx {T : List (Addr × Str)} {d : Addr} {H H' : Hp} {x : V} {dat : PyData} (m : MvT T d H H') (h : Dx (hide d H) x dat) : Dx (hide d H') x dat := Dx.ext m.ext h
theorem MvT.new {T : List (Addr × Str)} {d p : Addr} {H H' : Hp} {o : HO} (a : MvT T d H H') (n : H' p = none) : MvT T d H (upd H' p o) := a.same (same_new n)
theorem MvT.put {T : List (Addr × Str)} {d p : Addr} {H H' : Hp} {xs : List V} {o : HO} (a : MvT T d H H') (n : H p = none) (ne : p ≠ d) (hp : H' p = some (.lst xs)) : MvT T d H (upd H' p o) := by
  refine ⟨fun b u e k => ?_, ?_, tabs_put a.tabs hp⟩
  · have nb : b ≠ p := fun q => by
      rw [q, hide_ne ne, n] at e
      cases e
    have q := a.ext b u e k
    by_cases h : b = d
    · subst h
      rw [hide_at] at q
      cases q
    · rw [hide_ne h] at q ⊢
      rw [upd_ne nb]
      exact q
  · obtain ⟨l, s, c, q⟩ := a.dice
    exact ⟨l, s, c, by rw [upd_ne ne.symm]; exact q⟩
/-- what is a list, kept through the making of a lambda -/
theorem ext_lst {H H' : Hp} {p : Addr} {xs : List V} (e : LamX.ExtN H H') (h : H p = some (.lst xs)) : H' p = some (.lst xs) := e _ _ h fun _ z => by cases z
/-! ## the empty dict: its text, and that no number is equal to it -/
def ShwX (d : PyData) : Prop := Shw d ∨ d = .dict []
section
variable {X : Cx}
theorem dx_empty {pins : List (Addr × Obj)} {σ : L2.St} {H : Hp} {s : Shared} {x : V} {u : Value} (I : Inv X pins σ H s) (h : Dx H x (.dict [])) (r : RelV x u) :
    ∃ a o n, u = .ref a ∧ (a == sysModules) = false ∧ s.heap.get? a = some o ∧ o.cls = .type "dict" ∧ o.data = .dict #[] n := by
  cases h with
  | dct ha hk =>
    cases hk
    obtain ⟨_, hs, vs, kv, D⟩ := I.hok _ _ ha
    cases (show u = Value.ref _ from r)
    have ev : vs = [] := by
      cases kv
      rfl
    subst ev
    obtain ⟨o, es, n, ho, hx, hd, _, hp, _⟩ := D
    refine ⟨_, o, n, rfl, hs, ho, hx.1, ?_⟩
    rw [hd]
    have e2 : es.toList = [] := by
      cases q : es.toList with
      | nil => rfl
      | cons z r =>
        rw [q] at hp
        cases hp
    have : es = #[] := by
      cases es
      simpa using e2
    rw [this]
def rReprX : List V → Hp → VK → Prop := fun xs H Q => ∃ (x : V) (d : PyData), xs = [x] ∧ Dx H x d ∧ ShwX d ∧ Q (.str d.shown) H
theorem call_reprX (hgd : X.A.guards = some []) (hu : X.A.units + 64 < cLine) : CallR X (.builtin "repr") rReprX := by
  intro pins s σ H xs us Q I r h
  obtain ⟨x, d, rfl, hx, hw, q⟩ := h
  rcases hw with hw | rfl
  · exact call_repr hgd hu pins s σ H _ us Q I r ⟨x, d, rfl, hx.dp hw.noDict, hw, q⟩
  · obtain ⟨u, rfl, ru⟩ := vals1 r
    obtain ⟨a, o, n, rfl, hs, ho, hc, hd⟩ := dx_empty I hx ru
    have rd : Reads s.heap (.ref a) (.dict []) (a :: [] ++ []) := .dict ho hc hd .nil .nil
    refine repr_of_reads' rd (by simp [PyData.showable, PyData.showableKv]) (fun _ z => ?_) hgd (by simp [PyData.depth, PyData.depthKv]; omega) (fun _ _ e => e) (fun h' t tk kp => ⟨.str _, H, I.kept kp, ⟨t, rfl⟩, q⟩) (by decide +kernel)
    simp at z
    rw [z] at hs
    simp at hs
end
end G
namespace PySem.SeqAt
open MeetsSeq
open AutoSeq1 (wpAny_loadPart')
theorem int_eq_declines_dict (b : Int) (u : Tok) (l : Addr) (es : Array DictEntry) (n : Nat) (dd : Option Addr) (sl : Array (Option Value)) :
    Meets (Builtin.«int.__eq__» ⟨[.int b u, .ref l], []⟩) (fun _ R s => s.heap.get? l = some { cls := .type "dict", dict := dd, data := .dict es n, slots := sl } ∧ R (.ok (.ret .notImplemented)) s) :=
  .of_wp fun prog w A R s h => by obtain ⟨hp, g, d, tk, os⟩ := s; obtain ⟨hl, h⟩ := h; wp_walk using wpAny_loadPart' hl, wpAny_load hl; exact ⟨_, rfl, h⟩
theorem dict_eq_declines_int (l : Addr) (es : Array DictEntry) (n : Nat) (dd : Option Addr) (sl : Array (Option Value)) (b : Int) (u : Tok) :
    Meets (Builtin.«dict.__eq__» ⟨[.ref l, .int b u], []⟩) (fun _ R s => s.heap.get? l = some { cls := .type "dict", dict := dd, data := .dict es n, slots := sl } ∧ R (.ok (.ret .notImplemented)) s) :=
  .of_wp fun prog w A R s h => by obtain ⟨hp, g, d, tk, os⟩ := s; obtain ⟨hl, h⟩ := h; have f1 := F.sub_int_dict; wp_walk using wpAny_loadPart' hl; exact ⟨_, rfl, h⟩
section
variable {A : Around} {s : Shared}
theorem RcAt.int_dict {l : Addr} {o : Obj} {es : Array DictEntry} {n : Nat} (b : Int) (u : Tok) (ho : s.heap.get? l = some o) (hc : o.cls = .type "dict") (hd : o.data = .dict es n) (hu : A.units < cLine) : RcAt A s (.int b u) (.ref l) false := fun prog w E Q h => by
  obtain ⟨cls, dd, data, sl⟩ := o
  simp only at hc hd
  subst hc hd
  exact rc_eq_decline_or (k := false) (typeIs_int s b u) ⟨_, ho, rfl⟩ (by decide) F.sub_dict_int F.slot_int_eq F.slot_dict_eq_refl
    (fun _ hq => call_meets F.slot_int_eq (typeIs_int s b u) F.entry_int_eq (F.args_int_eq_2 _ _) (int_eq_declines_dict b u l es n dd sl) ⟨ho, hq⟩)
    (fun _ hq => call_meets F.slot_dict_eq_refl ⟨_, ho, rfl⟩ F.entry_dict_eq (F.args_dict_eq_2 _ _) (dict_eq_declines_int l es n dd sl b u) ⟨ho, hq⟩)
    (fun _ hq => wpAny_of_eq (rfl : isSame (.int b u) (.ref l) = pure false) hq) (.inr hu) h
theorem EqAt.int_dict {l : Addr} {o : Obj} {es : Array DictEntry} {n : Nat} (b : Int) (u : Tok) (ho : s.heap.get? l = some o) (hc : o.cls = .type "dict") (hd : o.data = .dict es n) (hu : A.units < cLine) : EqAt A s (.int b u) (.ref l) false := fun prog w E Q h => by
  unfold eqBool
  refine wpAny_holding ?_
  refine wpAny_ite_split (fun hab => absurd (eq_of_beq hab) nofun) (fun _ => ?_)
  exact wpAny_bind (RcAt.int_dict b u ho hc hd hu prog w E _ (wpAny_truthy_bool h))
end
end PySem.SeqAt
namespace G
open PySem PySem.Spec PyProof.Rows L2
section
variable {X : Cx}
/-- x in (i, j) for data of any kind, the empty dict among them -/
def rInTwo (K : PySem.W.Frag) : R2 := fun x y H Q => ∃ (a : Addr) (i j : Int) (d : PyData), y = .ref a ∧ H a = some (.tup [.int i, .int j]) ∧ Dx H x d ∧ ((d.hasDict = false ∧ SeqAt.shaped d = true) ∨ d = .dict []) ∧
  Q (.bl (([.int i, .int j] : List PyData).any fun z => PyData.eqv z d)) H
theorem op_inTwo (hu : X.A.units + 65 < cLine) : OpR X (compareOp .In) (rInTwo X.K) := by
  intro pins s σ H x y v u Q I rx ry h
  obtain ⟨a, i, j, d, rfl, ha, hx, hd, q⟩ := h
  have hT : Dp X.K H (.ref a) (.tuple [.int i, .int j]) := .tup (SqT.of ha) (.cons (.int i) (.cons (.int j) .nil))
  rcases hd with ⟨nd, sd⟩ | rfl
  · obtain ⟨as, r1⟩ := Dp.reads I d x v (hx.dp nd) rx
    obtain ⟨bs, r2⟩ := Dp.reads I _ _ u hT ry
    refine SeqAt.in_tuple_reads r2 r1 (by simp [PyData.canLayAll0, PyData.canLay0]) (SeqAt.canLay_of_shaped sd) ?_ ⟨.bl _, H, I, rfl, q⟩
    simp only [PyData.depthAll, PyData.depth]
    omega
  · obtain ⟨b, o, n, rfl, _, ho, hc, hdt⟩ := dx_empty I hx rx
    obtain ⟨as, r2⟩ := Dp.reads I _ _ u hT ry
    cases r2 with
    | tuple h1 h2 h3 h4 =>
      refine SeqAt.in_tupleAt (fun _ => false) ⟨_, h1, h2, _, h3⟩ (fun w hw => ?_) ⟨.bl _, H, I, rfl, ?_⟩
      · have hw' : w ∈ _ := (Array.mem_toList_iff ..).mpr hw
        have : ∃ k t, w = Value.int k t := by
          revert hw' h4
          generalize Array.toList _ = l
          intro h4 hw'
          cases h4 with
          | cons a1 r1 =>
            cases r1 with
            | cons a2 r2 =>
              cases r2
              cases a1
              cases a2
              rcases List.mem_cons.mp hw' with e | e
              · exact ⟨_, _, e⟩
              · rcases List.mem_cons.mp e with e | e
                · exact ⟨_, _, e⟩
                · cases e
        obtain ⟨k, t, rfl⟩ := this
        exact SeqAt.EqAt.int_dict k t ho hc hdt (by show X.A.units + 1 < cLine; omega)
      · have e1 : (([.int i, .int j] : List PyData).any fun z => PyData.eqv z (.dict [])) = false := by simp [PyData.eqv]
        rw [e1] at q
        rw [show Array.any _ (fun _ => false) = false by simp]
        exact q
end
/-! ## a def whose code object is known, for the lambdas in it -/
structure DefAtC (K : PySem.W.Frag) (mg : Str → Option Value) (x : Str) (st : Stmt) (ps : List Str) (c : Addr) : Prop where
  ex : ∃ (f : Addr) (oc : Value) (od an : Option Addr) (osl : Array (Option Value)) (kV doc pm ct : Value),
    K.lookup f = some ⟨oc, od, .func (PySem.W.fnOf x x (defArgs st) (defBody st) (defScope st) .none kV doc pm an (.ref c) ct), osl⟩ ∧ PySem.W.codeIn K (.ref c) x = true ∧ PySem.W.keepIn K (.ref f) = true ∧ mg x = some (.ref f) ∧
    ∀ us : List Value, us.length = ps.length → bindArgs (PySem.W.fnOf x x (defArgs st) (defBody st) (defScope st) .none kV doc pm an (.ref c) ct) ⟨us, []⟩ = pure (ps.zip us)
theorem defAtC {K : PySem.W.Frag} {h : Heap} {mg : Str → Option Value} {x : Str} {st : Stmt} {ps : List Str} {f c : Addr} {oc : Value} {od an : Option Addr} {osl : Array (Option Value)}
    {kV doc pm ct : Value} (KX : K.In h) (gl : h.Ns mainGlobals mg)
    (hb : ∀ us : List Value, us.length = ps.length → bindArgs (PySem.W.fnOf x x (defArgs st) (defBody st) (defScope st) .none kV doc pm an (.ref c) ct) ⟨us, []⟩ = pure (ps.zip us))
    (a : PySem.W.nsIn K mainGlobals x = some (some (.ref f)))
    (l : K.lookup f = some ⟨oc, od, .func (PySem.W.fnOf x x (defArgs st) (defBody st) (defScope st) .none kV doc pm an (.ref c) ct), osl⟩)
    (cd : PySem.W.codeIn K (.ref c) x = true) (k : PySem.W.keepIn K (.ref f) = true) : DefAtC K mg x st ps c :=
  ⟨f, oc, od, an, osl, kV, doc, pm, ct, l, cd, k, PySem.W.mg_of KX gl a, hb⟩
theorem okGC {P : Program} {w : World} {K : PySem.W.Frag} {mg : Str → Option Value} {base : Heap} {x qual : Str} {st : Stmt} {f c : Addr}
    {oc : Value} {od an : Option Addr} {osl : Array (Option Value)} {kV doc pm ct : Value}
    {N ps : List Str} {k : Nat} {sp : Sp} (lk : K.lookup f = some ⟨oc, od, .func (PySem.W.fnOf x qual (defArgs st) (defBody st) (defScope st) .none kV doc pm an (.ref c) ct), osl⟩) (hcd : PySem.W.codeIn K (.ref c) qual = true)
    (S : FnScope N ps (defScope st)) (len : ∀ xs H Q E, sp xs H Q E → xs.length = ps.length)
    (hbody : ∀ (A : Around) (out : List Env) (s : Shared) (H : Hp) (xs : List V) (Q : VK) (E : XK), A.guards = some [] →
      Room k (A.deeper (envOfC qual (defScope st) s.heap.objs.size f (.ref c))) → sp xs H Q E →
      ∃ t, PSs (cxOf CX0 P w K mg base N qual (defScope st) f (.ref c) A out s H E).nox (defBody st) t ∧
        t { nx := fun _ H' => Q .non H', rt := Q } (start N xs) H) :
    FnG P w K mg base CX0 (k + 1) f (PySem.W.fnOf x qual (defArgs st) (defBody st) (defScope st) .none kV doc pm an (.ref c) ct) ps sp := by
  constructor
  · exact len
  intro A out s H args us xs Q E gA hr e0 hb r hsp
  have old : ∀ b o, base.get? b = some o → s.heap.get? b = some o := fun b o q => (e0.bs b o q).1
  have KX : K.In s.heap := e0.mod.kin.keeps old
  have lim : s.heap.NoLimit := e0.mod.nolimit.keeps old
  refine codeAny_call_function hr.depth (KX _ _ lk) rfl S.co S.gen rfl (PySem.W.codeRec_of KX hcd) (hb _ _ _ _ ?_)
  refine wpAny_newFunctionEnv_cells S.kind (fun y hy => ?_) fun env he s1 x1 => ?_
  · have q := S.par y.1 (List.of_mem_zip (a := y.1) (b := y.2) hy).1
    exact q.elim .inl fun q => .inr ⟨q, PySem.W.cellsFrom_some _ _ _ (.inl q)⟩
  · subst he
    refine ⟨lim.keeps x1.toInCall.keep, codeAny_func ?_⟩
    obtain ⟨t, ht, hq⟩ := hbody A out s H xs Q E gA (hr.deeper _) hsp
    have I := inv_start (CX := CX0) (P := P) (w := w) (K := K) (mg := mg) (base := base) (N := N) (ps := ps) (E := E) S hr.hd e0 (len _ _ _ _ hsp) r x1
    refine wpAny_mono (ht.nox.run [] s1 (start N xs) H _ I hq) (fun fl s2 hs => ?_) fun _ _ z => z
    match fl, hs with
    | .ret u, ⟨v, σ', H', J, rv, q⟩ => exact ⟨v, H', J.os, J.bare, J.base, J.hok, rv, q⟩
    | .next, ⟨σ', H', J, q⟩ => exact ⟨V.non, H', J.os, J.bare, J.base, J.hok, rfl, q⟩
    | .brk, ⟨_, _, _, q⟩ => exact q.elim
    | .cont, ⟨_, _, _, q⟩ => exact q.elim
theorem calOkC {P : Program} {w : World} {K : PySem.W.Frag} {mg : Str → Option Value} {base : Heap} {x : Str} {st : Stmt} {N ps : List Str} {k : Nat} {sp : Sp} {c : Addr}
    (D : DefAtC K mg x st ps c) (S : FnScope N ps (defScope st)) (len : ∀ xs H Q E, sp xs H Q E → xs.length = ps.length)
    (hbody : ∀ (f : Addr) (A : Around) (out : List Env) (s : Shared) (H : Hp) (xs : List V) (Q : VK) (E : XK), A.guards = some [] →
      Room k (A.deeper (envOfC x (defScope st) s.heap.objs.size f (.ref c))) → sp xs H Q E →
      ∃ t, PSs (cxOf CX0 P w K mg base N x (defScope st) f (.ref c) A out s H E).nox (defBody st) t ∧
        t { nx := fun _ H' => Q .non H', rt := Q } (start N xs) H) : CalG P w K mg base (k + 1) x ps sp := by
  obtain ⟨f, oc, od, an, osl, kV, doc, pm, ct, l, cd, kp, m, b⟩ := D.ex
  exact ⟨f, _, okGC l cd S len (hbody f), m, kp, Binds.all b⟩
/-- the law's own def, at the address that the row names; the tables of code objects are known -/
theorem lawOkT {P : Program} {w : World} {K : PySem.W.Frag} {mg : Str → Option Value} {x y : Str} {st : Stmt} {N : List Str} {k : Nat} {sp : Sp} {fa : Addr} {cs : List (Addr × Addr)}
    (hf : mg x = some (.ref fa)) (D : DefAt K mg x st [y]) (S : FnScope N [y] (defScope st)) (len : ∀ xs H Q E, sp xs H Q E → xs.length = [y].length)
    (hbody : ∀ base : Heap, K.In base → base.Ns mainGlobals mg → (∀ p ∈ cs, LamX.TabB base mg p.1 p.2) → ∀ (f : Addr) (cdv : Value) (A : Around) (out : List Env) (s : Shared) (H : Hp) (xs : List V) (Q : VK) (E : XK), A.guards = some [] →
      Room k (A.deeper (envOfC x (defScope st) s.heap.objs.size f cdv)) → sp xs H Q E →
      ∃ t, PSs (cxOf CX0 P w K mg base N x (defScope st) f cdv A out s H E).nox (defBody st) t ∧
        t { nx := fun _ H' => Q .non H', rt := Q } (start N xs) H) :
    ∃ fd : FuncData, (∀ (s : Shared) (u : Value), BindsTo s fd ⟨[u], []⟩ [(y, u)]) ∧
      ∀ base : Heap, K.In base → base.Ns mainGlobals mg → (∀ p ∈ cs, LamX.TabB base mg p.1 p.2) → FnG P w K mg base CX0 (k + 1) fa fd [y] sp := by
  obtain ⟨f, fd, F, m, b⟩ := D.ex
  obtain rfl : f = fa := by
    rw [m] at hf
    cases hf
    rfl
  exact ⟨fd, fun s u => .of_eq (b [u] rfl), fun base h1 h2 h3 => okG F S len (hbody base h1 h2 h3 f)⟩
theorem lst_in {d p : Addr} {H : Hp} {ds : List PyData} (h : Dx (hide d H) (.ref p) (.list ds)) : ∃ xs, H p = some (.lst xs) ∧ p ≠ d ∧ DxAll (hide d H) xs ds := by
  cases h with
  | lst h1 h2 =>
    refine ⟨_, hide_le _ _ h1, fun e => ?_, h2⟩
    rw [e, hide_at] at h1
    cases h1
theorem newT {T : List (Addr × Str)} {d p : Addr} {H H' : Hp} {xs : List V} {ds : List PyData} (m : MvT T d H H') (n : H' p = none) (a : DxAll (hide d H') xs ds) :
    MvT T d H (upd H' p (.tup xs)) ∧ Dx (hide d (upd H' p (.tup xs))) (.ref p) (.tuple ds) ∧ ∀ {x : V} {dat : PyData}, Dx (hide d H') x dat → Dx (hide d (upd H' p (.tup xs))) x dat :=
  ⟨m.new n, .tup (by rw [hide_ne (m.dice.ne n)]; exact upd_same) (a.grow (fresh_same m.dice n)), fun h => h.grow (fresh_same m.dice n)⟩
theorem newL {T : List (Addr × Str)} {d p : Addr} {H H' : Hp} {xs : List V} {ds : List PyData} (m : MvT T d H H') (n : H' p = none) (a : DxAll (hide d H') xs ds) :
    MvT T d H (upd H' p (.lst xs)) ∧ Dx (hide d (upd H' p (.lst xs))) (.ref p) (.list ds) ∧ ∀ {x : V} {dat : PyData}, Dx (hide d H') x dat → Dx (hide d (upd H' p (.lst xs))) x dat :=
  ⟨m.new n, .lst (by rw [hide_ne (m.dice.ne n)]; exact upd_same) (a.grow (fresh_same m.dice n)), fun h => h.grow (fresh_same m.dice n)⟩
theorem newD {T : List (Addr × Str)} {d p : Addr} {H H' : Hp} (m : MvT T d H H') (n : H' p = none) :
    MvT T d H (upd H' p (.dK [])) ∧ Dx (hide d (upd H' p (.dK []))) (.ref p) (.dict []) ∧ ∀ {x : V} {dat : PyData}, Dx (hide d H') x dat → Dx (hide d (upd H' p (.dK []))) x dat :=
  ⟨m.new n, .dct (by rw [hide_ne (m.dice.ne n)]; exact upd_same) .nil, fun h => h.grow (fresh_same m.dice n)⟩
/-- nothing but a table stood at p -/
def NewAt (H : Hp) (p : Addr) : Prop := ∀ o, H p = some o → ∃ ps, o = .tbl ps
theorem MvT.newAt {T : List (Addr × Str)} {d p : Addr} {H H' : Hp} (a : MvT T d H H') (n : H' p = none) : NewAt H p := fun o ho => by
  have ne := a.dice.ne n
  refine Classical.byContradiction fun z => ?_
  have q := a.ext p o (by rw [hide_ne ne]; exact ho) fun ps e => z ⟨ps, e⟩
  rw [hide_ne ne, n] at q
  cases q
theorem MvT.put2 {T : List (Addr × Str)} {d p : Addr} {H H' : Hp} {xs : List V} {o : HO} (a : MvT T d H H') (n : NewAt H p) (ne : p ≠ d) (hp : H' p = some (.lst xs)) : MvT T d H (upd H' p o) := by
  refine ⟨fun b u e k => ?_, ?_, tabs_put a.tabs hp⟩
  · have nb : b ≠ p := fun q => by
      rw [q, hide_ne ne] at e
      obtain ⟨ps, z⟩ := n u e
      exact k ps z
    have q := a.ext b u e k
    by_cases h : b = d
    · subst h
      rw [hide_at] at q
      cases q
    · rw [hide_ne h] at q ⊢
      rw [upd_ne nb]
      exact q
  · obtain ⟨l, s, c, q⟩ := a.dice
    exact ⟨l, s, c, by rw [upd_ne ne.symm]; exact q⟩
theorem strsX {H : Hp} {p : Addr} (ws : List Str) (h : H p = some (.lst (ws.map V.str))) (K : PySem.W.Frag) : Dp K H (.ref p) (.list (ws.map .str)) := by
  refine .lst (SqL.of h) ?_
  clear h
  induction ws with
  | nil => exact .nil
  | cons b r ih => exact .cons (.str b) ih
theorem shaped_strs (ws : List Str) (h : ∀ w ∈ ws, PyData.strOk w = true) : SeqAt.shaped (.list (ws.map .str)) = true := by
  show (PyData.canLay0 (.list _) && decide (PyData.depth (.list _) ≤ 64)) = true
  rw [Bool.and_eq_true_iff]
  refine ⟨by simp only [PyData.canLay0]; exact canAll _ _ fun b hb => by simp [PyData.canLay0, h b hb], decide_eq_true ?_⟩
  have := depthAll0 0 PyData.str ws fun b _ => by simp [PyData.depth]
  simp only [PyData.depth]
  omega
theorem eqv_strs (ws : List Str) : PyData.eqv (.list (ws.map .str)) (.list (ws.map .str)) = true := by
  simp only [PyData.eqv]
  induction ws with
  | nil => simp [PyData.eqvAll]
  | cons b r ih => simp [PyData.eqvAll, PyData.eqv, ih]
theorem hu65 {k : Nat} {A : Around} (hr : Room k A) : A.units + 65 < cLine := by
  have := hr.un
  omega
def firstW (ws : List Str) : Str := (ws.filter fun w => !decide (w = ("" : Str))).headD ("" : Str)
def spFirst : Sp := fun vs H Q _ => ∃ (a : Addr) (ws : List Str), vs = [.ref a] ∧ H a = some (.lst (ws.map V.str)) ∧ ws.length ≤ 100 ∧ (∀ w ∈ ws, PyData.strOk w = true) ∧ ∀ H', Same H H' → Q (.str (firstW ws)) H'
end G

set_option Elab.async false
set_option linter.all false
set_option maxRecDepth 100000
set_option maxHeartbeats 4000000
namespace G
open PySem PySem.Spec PyProof.Rows L2
/-! ## the end of a row whose law makes lambdas: tables of code objects are tracked -/
theorem endGT {l : PySem.W.OpenLaw} {n k : Nat} {q : Program} {loose : List Str} {XP : (Str → Option Value) → Heap → Prop} {YP : World → Heap → Prop} {d : DefRec}
    {K : Params → PySem.W.Frag} {x : Str}
    (hn : l.most = some n) (hn2 : n ≤ sizeLine) (hdf : d.params.defaults = []) (hr : Room k callerA)
    (hY : ∀ (w : World) (h : Heap), YP w h → (K w.params).In h)
    (F : ∀ (w : World) (mg : Str → Option Value) (fa : Addr) (h : Heap), (∀ (d2 : DefRec) (x : Str) (c P : Addr), (recsOf q).find? (fun e => e.name == x) = some d2 → PySem.W.tabIn (K w.params) x = some (c, P) → PySem.W.CodeHd h c P ∧ h.get? P = some { cls := .none, data := .fields #[] }) → (K w.params).In h → h.Ns mainGlobals mg → mg d.name = some (.ref fa) →
      ∃ (fd : FuncData) (cs : List (Addr × Addr)) (sp : Sp), (∀ p ∈ cs, h.get? p.2 = some { cls := .none, data := .fields #[] }) ∧ (∀ p ∈ cs, (K w.params).lookup p.2 = none) ∧ (∀ p ∈ cs, PySem.W.CodeHd h p.1 p.2) ∧
        (∀ (s : Shared) (u : Value), BindsTo s fd ⟨[u], []⟩ [(x, u)]) ∧
        (∀ (H : Hp) (a : Addr) (ns : List Int), ns.length ≤ n → (∀ p ∈ cs, H p.2 = some (.tbl #[])) → SqL (K w.params) H a (ns.map V.int) → sp [.ref a] H (fun v _ => v = .bl true) fun _ _ _ => False) ∧
        ∀ base : Heap, (K w.params).In base → base.Ns mainGlobals mg → (∀ p ∈ cs, LamX.TabB base mg p.1 p.2) → FnG l.prog w (K w.params) mg base CX0 k fa fd [x] sp) :
    PySem.W.WalkO q loose XP YP l.row.toRowW d [] (fun f vs => PySem.call f vs) := by
  refine Att.attach_call hn hdf fun w s0 s1 mg mb fa o pm cd doc a vs ns gr Y ho hd hcd hmg ha hi hl hgn => ?_
  have KX := hY w _ Y
  obtain ⟨fd, cs, sp, tb, tnot, tcode, hbind, hsp, F⟩ := F w mg fa _ (fun d2 x c P h1 h2 => PySem.W.tab_of gr.T KX h1 h2) KX gr.T.g hmg
  have rv := vals_ints hi
  have lenV := hi.length
  have nsz : ns.length ≤ sizeLine := Nat.le_trans hl hn2
  -- the tables' places
  have tabAt : ∀ b, b ∈ cs.map Prod.snd → s1.heap.get? b = some { cls := .none, data := .fields #[] } := fun b hb => by
    obtain ⟨p, hp, rfl⟩ := List.mem_map.mp hb
    exact tb p hp
  have inTab : ∀ p ∈ cs, p.2 ∈ cs.map Prod.snd := fun p hp => List.mem_map.mpr ⟨p, hp, rfl⟩
  have notA : a ∉ cs.map Prod.snd := fun z => by
    have q := tabAt a z
    rw [ha] at q
    exact nomatch (congrArg Obj.data (Option.some.inj q) : Data.seq vs.toArray _ = Data.fields #[])
  have main : ∀ T : Hp, (∀ p ∈ cs, T p.2 = some (.tbl #[])) → (∀ b, T b = none ∨ b ∈ cs.map Prod.snd ∨ ∃ ob xs, T b = some (.frz ob (.lst xs))) → SqL (K w.params) T a (ns.map V.int) → HOk l.prog w T s1.heap →
      (∀ b, T b ≠ none → b = a ∨ b ∈ cs.map Prod.snd) → (T a ≠ none → (K w.params).lookup a = none) →
      codeAny (model l.prog w) callerA (.call (.ref fa) ⟨[.ref a], []⟩)
        (fun r t => r = .ok (.ret (.bool true)) ∧ OldK s1.heap t.heap ∧ t.os = s1.os ∧ AllBare t.gens) s1 := by
    intro T tT only hS hok only_a notK
    -- what is no list and no table is not tracked
    have free : ∀ {b : Addr} {ob : Obj}, s1.heap.get? b = some ob → (∀ us m, ob.data ≠ .seq us m) → ob.data ≠ .fields #[] → T b = none := fun {b ob} e n1 n2 => by
      match q : T b with
      | none => rfl
      | some u =>
        rcases only_a b (by rw [q]; exact Option.some_ne_none _) with hb | hb
        · rw [hb, ha] at e
          cases e
          exact absurd rfl (n1 _ _)
        · rw [tabAt b hb] at e
          cases e
          exact absurd rfl n2
    have see : ∀ {b : Addr} {ob : Obj}, s1.heap.get? b = some ob → (∀ us m, ob.data ≠ .seq us m) → ob.data ≠ .fields #[] → (hidT s1.heap T).get? b = some ob := fun e n1 n2 => hidT_get e (free e n1 n2)
    have nsT : ∀ {b : Addr} {m : Str → Option Value}, s1.heap.Ns b m → (hidT s1.heap T).Ns b m := by
      rintro b m ⟨ob, es, ep, e, ed, r⟩
      exact ⟨ob, es, ep, see e (fun us m z => by rw [ed] at z; cases z) (fun z => by rw [ed] at z; cases z), ed, r⟩
    have inT : (K w.params).In (hidT s1.heap T) := by
      intro b ob e
      refine hidT_get (KX b ob e) ?_
      match q : T b with
      | none => rfl
      | some u =>
        rcases only_a b (by rw [q]; exact Option.some_ne_none _) with hb | hb
        · subst hb
          rw [notK (by rw [q]; exact Option.some_ne_none _)] at e
          cases e
        · obtain ⟨p, hp, rfl⟩ := List.mem_map.mp hb
          rw [tnot p hp] at e
          cases e
    have nolim : (hidT s1.heap T).NoLimit := by
      obtain ⟨mc, h1, h2⟩ := gr.T.nolimit
      exact ⟨mc, nsT h1, h2⟩
    have md : Mod (K w.params) mg (hidT s1.heap T) := ⟨inT, nsT gr.T.g, ⟨mb, nsT gr.T.b, gr.T.builtins⟩, nolim⟩
    have TB : ∀ p ∈ cs, LamX.TabB (hidT s1.heap T) mg p.1 p.2 := fun p hp => by
      refine ⟨?_, ?_, fun z => ?_⟩
      · obtain ⟨ob, us, file, tf, flags, tg, inF, text, tt, e, r1, r2, r3, rest⟩ := tcode p hp
        refine ⟨ob, us, file, tf, flags, tg, inF, text, tt, see e (fun vs m z => ?_) (fun z => ?_), r1, r2, r3, rest⟩
        · rw [r2] at z
          cases z
        · rw [r2] at z
          cases z
          simp at r3
      · obtain ⟨bm, ob, b1, b2, b3, b4, b5, b6⟩ := gr.T.bmain
        refine ⟨bm, ob, b1, b2, fun z => ?_, fun z => ?_, see b3 (fun vs m z => by rw [b6] at z; cases z) (fun z => by rw [b6] at z; cases z), b4, b5, b6⟩
        · obtain ⟨og, es, ep, e, ed, _⟩ := gr.T.g
          rw [z, e] at b3
          cases b3
          rw [ed] at b6
          cases b6
        · rw [z, tb p hp] at b3
          cases b3
          cases b6
      · obtain ⟨og, es, ep, e, ed, _⟩ := gr.T.g
        rw [z, tb p hp] at e
        cases e
        cases ed
    have e0 : Env0 l.prog w (K w.params) mg (hidT s1.heap T) callerA [] s1 T := by
      refine ⟨rfl, md, fun b ob e => of_hidT e, Nat.le_of_eq (hidT_size _ _), trivial, fun b hb => ?_, hok, .of_eq hgn⟩
      cases (show b ∈ ([] : List Addr) from hb)
    have run := (F _ inT (nsT gr.T.g) TB).go callerA [] s1 T ⟨[.ref a], []⟩ [.ref a] [.ref a] _ _ rfl hr e0 (hbind s1 (.ref a)) (.cons rfl .nil) (hsp T a ns hl tT hS)
    refine codeAny_mono run fun res t hq => ?_
    match res, hq with
    | .error e, hq => exact hq.elim
    | .ok .next, hq => exact hq.elim
    | .ok .brk, hq => exact hq.elim
    | .ok .cont, hq => exact hq.elim
    | .ok (.ret u), ⟨v, T', os, bare, un, hok', rr, qq⟩ =>
      obtain rfl : v = .bl true := qq
      obtain rfl : u = Value.bool true := rr
      have stay : ∀ b ob, b ∉ cs.map Prod.snd → s1.heap.get? b = some ob → t.heap.get? b = some ob := fun b ob nb e => by
        match q : T b with
        | none => exact un.keep b ob e q (fun z => nomatch (show b ∈ ([] : List Addr) from z)) (fun z => nomatch z)
        | some u =>
          rcases only b with z | z | ⟨fo, xs, z⟩
          · rw [q] at z
            cases z
          · exact absurd z nb
          · obtain ⟨e1, _⟩ := hok b _ z
            obtain ⟨e2, _⟩ := hok' b _ (un.frzs b fo _ z)
            rw [e] at e1
            cases e1
            exact e2
      have wax : ∀ p ∈ cs, ∃ more : Array Value, t.heap.get? p.2 = some { cls := .none, data := .fields more } := fun p hp => by
        obtain ⟨more, z⟩ := un.tbls p.2 #[] (tT p hp)
        exact ⟨_, hok' p.2 _ z⟩
      refine ⟨rfl, ⟨fun b ob e => ?_, fun b ob e => ?_⟩, os, bare⟩
      · by_cases hb : b ∈ cs.map Prod.snd
        · obtain ⟨p, hp, rfl⟩ := List.mem_map.mp hb
          obtain ⟨more, hm⟩ := wax p hp
          rw [tb p hp] at e
          cases e
          exact .inr (.inl ⟨((tcode p hp).tab (tb p hp)).isCodeTable, rfl, #[], more, rfl, by rw [Array.empty_append]; exact hm⟩)
        · exact .inl (stay b ob hb e)
      · by_cases hb : b ∈ cs.map Prod.snd
        · obtain ⟨p, hp, rfl⟩ := List.mem_map.mp hb
          obtain ⟨more, hm⟩ := wax p hp
          exact ⟨_, hm⟩
        · exact ⟨ob, stay b ob hb e⟩
  match hk : (K w.params).lookup a with
  | some ob =>
    have e := KX a ob hk
    rw [ha] at e
    cases e
    have atT : ∀ b, b ∈ cs.map Prod.snd → (if b ∈ cs.map Prod.snd then some (HO.tbl #[]) else none) = some (HO.tbl #[]) := fun b hb => if_pos hb
    have offT : ∀ b, b ∉ cs.map Prod.snd → (if b ∈ cs.map Prod.snd then some (HO.tbl #[]) else none) = none := fun b hb => if_neg hb
    refine main (fun b => if b ∈ cs.map Prod.snd then some (.tbl #[]) else none) (fun p hp => atT _ (inTab p hp)) (fun b => ?_) (.inr ⟨_, vs.toArray, _, hk, rfl, rfl, rfl, ?_, ?_⟩) (fun b u z => ?_) (fun b z => ?_) (fun z => absurd (offT a notA) z)
    · by_cases hb : b ∈ cs.map Prod.snd
      · exact .inr (.inl hb)
      · exact .inl (offT b hb)
    · rw [List.size_toArray, lenV]
      exact nsz
    · simpa using rv
    · by_cases hb : b ∈ cs.map Prod.snd
      · have z2 := (atT b hb).symm.trans z
        cases z2
        exact tabAt b hb
      · have z2 := (offT b hb).symm.trans z
        cases z2
    · by_cases hb : b ∈ cs.map Prod.snd
      · exact .inr hb
      · exact absurd (offT b hb) z
  | none =>
    let T : Hp := fun b => if b = a then some (.frz { cls := .type "list", data := .seq vs.toArray } (.lst (ns.map V.int))) else if b ∈ cs.map Prod.snd then some (.tbl #[]) else none
    have atA : T a = some (.frz { cls := .type "list", data := .seq vs.toArray } (.lst (ns.map V.int))) := if_pos rfl
    have atT : ∀ b, b ∈ cs.map Prod.snd → T b = some (.tbl #[]) := fun b hb => (if_neg (fun z : b = a => notA (z ▸ hb))).trans (if_pos hb)
    have offT : ∀ b, b ≠ a → b ∉ cs.map Prod.snd → T b = none := fun b h1 h2 => (if_neg h1).trans (if_neg h2)
    refine main T (fun p hp => atT _ (inTab p hp)) (fun b => ?_) (.inl (.inr ⟨{ cls := .type "list", data := .seq vs.toArray }, atA⟩)) (fun b u z => ?_) (fun b z => ?_) fun _ => hk
    · by_cases hb : b = a
      · exact .inr (.inr ⟨_, _, by rw [hb]; exact atA⟩)
      · by_cases h2 : b ∈ cs.map Prod.snd
        · exact .inr (.inl h2)
        · exact .inl (offT b hb h2)
    · by_cases hb : b = a
      · subst hb
        rw [atA] at z
        cases z
        exact ⟨ha, by rw [List.length_map]; exact nsz, vs, _, rv, ha⟩
      · by_cases h2 : b ∈ cs.map Prod.snd
        · rw [atT b h2] at z
          cases z
          exact tabAt b h2
        · rw [offT b hb h2] at z
          cases z
    · by_cases hb : b = a
      · exact .inl hb
      · by_cases h2 : b ∈ cs.map Prod.snd
        · exact .inr h2
        · exact absurd (offT b hb h2) z
theorem packT {P : Program} {w : World} {K : PySem.W.Frag} {mg : Str → Option Value} {k n : Nat} {fa : Addr} {x : Str} {cs : List (Addr × Addr)} {sp : Sp} {h : Heap}
    (tb : ∀ p ∈ cs, h.get? p.2 = some { cls := .none, data := .fields #[] }) (tn : ∀ p ∈ cs, K.lookup p.2 = none) (tc : ∀ p ∈ cs, PySem.W.CodeHd h p.1 p.2)
    (hsp : ∀ (H : Hp) (a : Addr) (ns : List Int), ns.length ≤ n → (∀ p ∈ cs, H p.2 = some (.tbl #[])) → SqL K H a (ns.map V.int) → sp [.ref a] H (fun v _ => v = .bl true) fun _ _ _ => False)
    (z : ∃ fd : FuncData, (∀ (s : Shared) (u : Value), BindsTo s fd ⟨[u], []⟩ [(x, u)]) ∧ ∀ base : Heap, K.In base → base.Ns mainGlobals mg → (∀ p ∈ cs, LamX.TabB base mg p.1 p.2) → FnG P w K mg base CX0 k fa fd [x] sp) :
    ∃ (fd : FuncData) (cs : List (Addr × Addr)) (sp : Sp), (∀ p ∈ cs, h.get? p.2 = some { cls := .none, data := .fields #[] }) ∧ (∀ p ∈ cs, K.lookup p.2 = none) ∧ (∀ p ∈ cs, PySem.W.CodeHd h p.1 p.2) ∧
        (∀ (s : Shared) (u : Value), BindsTo s fd ⟨[u], []⟩ [(x, u)]) ∧
        (∀ (H : Hp) (a : Addr) (ns : List Int), ns.length ≤ n → (∀ p ∈ cs, H p.2 = some (.tbl #[])) → SqL K H a (ns.map V.int) → sp [.ref a] H (fun v _ => v = .bl true) fun _ _ _ => False) ∧
        ∀ base : Heap, K.In base → base.Ns mainGlobals mg → (∀ p ∈ cs, LamX.TabB base mg p.1 p.2) → FnG P w K mg base CX0 k fa fd [x] sp :=
  let ⟨fd, hb, hF⟩ := z
  ⟨fd, cs, sp, tb, tn, tc, hb, hsp, hF⟩
end G

set_option Elab.async false
set_option linter.all false
set_option maxRecDepth 100000
set_option maxHeartbeats 4000000
namespace G
open PySem PySem.Spec PyProof.Rows L2
/-! ## enumerate of a tuple -/
theorem en_new {v : Value} {o : Obj} {F : Heap → Prop} (B : Begins v o F) :
    Meets (Builtin.«enumerate.__new__» ⟨[.type "enumerate", v], []⟩) (fun _ Fin st => F st.heap ∧
      Fin (.ok (.ret (.ref (st.heap.push o).objs.size))) { st with heap := (st.heap.push o).push { cls := .type "enumerate", data := .fields #[.none, .bool false, .ref st.heap.objs.size, rawInt 0, .none, .none] } }) :=
  .of_wp fun pr wo Ar Fin st hh => by
    obtain ⟨hp0, g0, d0, tk0, os0⟩ := st
    obtain ⟨fv, hh⟩ := hh
    have sub := sub_enumerate
    have starts : ∀ {A1 : Around} {E1 Q1 : Value → Shared → Prop}, Q1 (.ref hp0.objs.size) ⟨hp0.push o, g0, d0, tk0, os0⟩ → wpAny (model pr wo) A1 (pyIter v) Q1 E1 ⟨hp0, g0, d0, tk0, os0⟩ := fun q => B.iter pr wo _ _ ⟨hp0, g0, d0, tk0, os0⟩ _ fv q
    wp_walk using starts
    refine wpAny_stack_any fun _ => wpAny_pure ?_
    split
    · rename_i c0 _ _ _ _ _
      cases (c0 == Value.type "enumerate") <;> (wp_walk using starts; exact ⟨_, rfl, hh⟩)
    · wp_walk using starts
      exact ⟨_, rfl, hh⟩
section
variable {pr : Program} {wo : World} {Ar : Around} {Er : Value → Shared → Prop} {st : Shared}
theorem en_call {v : Value} {o : Obj} {Hp0 : Heap → Prop} {Q : Value → Shared → Prop} (B : Begins v o Hp0) (h1 : Hp0 st.heap)
    (k : ∀ h2, IsEnum h2 (st.heap.objs.size + 1) st.heap.objs.size 0 .none → h2.get? st.heap.objs.size = some o → (∀ b u, st.heap.get? b = some u → h2.get? b = some u) → Q (.ref (st.heap.objs.size + 1)) { st with heap := h2 }) :
    wpAny (model pr wo) Ar (call (.type "enumerate") [v]) Q Er st := by
  refine callType_new F.called_enumerate (by decide) (F.typeCall_enumerate_1 _) (F.newCall_enumerate_1 _) (fun ob => F.args_object_init_2 ob _) F.entry_enumerate_new (en_new B) ⟨h1, ?_⟩
  have sz : (st.heap.push o).objs.size = st.heap.objs.size + 1 := Heap.size_push ..
  show _ ∧ _
  rw [sz]
  have at1 := Heap.get?_push_size (st.heap.push o) (o := { cls := .type "enumerate", data := .fields #[.none, .bool false, .ref st.heap.objs.size, rawInt 0, .none, .none] }) rfl
  rw [sz] at at1
  exact ⟨⟨_, at1, rfl⟩, k _ at1 (Heap.get?_push_of_some _ (Heap.get?_push_size _ B.free)) fun b u e => Heap.get?_push_of_some _ (Heap.get?_push_of_some _ e)⟩
end
section
variable {pr : Program} {wo : World} {Ar : Around} {Er : Value → Shared → Prop} {st : Shared}
theorem en_stop {en it a : Addr} {i : Nat} {items : Array Value} {n : Int} {old : Value} {Q : Option Value → Shared → Prop} (hh : Ar.handled = none) (he : IsEnum st.heap en it n old) (hit : st.heap.IsTupleIter it a i) (ht : st.heap.IsTuple a items) (hx : items[i]? = none)
    (k : ∀ h2, Heap.ExtBut it st.heap h2 → Q none { st with heap := h2 }) : wpAny (model pr wo) Ar (pyNext (.ref en)) Q Er st := by
  have kind : st.TypeIs (.ref en) "enumerate" := ⟨_, he, rfl⟩
  unfold pyNext
  refine wpAny_bind (wpAny_attempt (wpAny_callSpecial?_slot (name := Str.ofString "__next__") kind F.slot_enumerate_next (wpAny_call_entry F.slot_enumerate_next kind F.entry_enumerate_next ?_ (F.args_enumerate_next_1 _))))
  show wpAny _ _ (field (.ref en) 2 >>= _) _ _ _
  refine wpAny_bind (wpAny_field he rfl (x := .ref it) rfl (wpAny_bind (wpAny_nextOf_tuple_end hh hit ht hx fun h2 ex eb hs => ?_)))
  obtain ⟨o, ho, hc⟩ := hs
  exact wpAny_bind (wpAny_isInstance (T := "StopIteration") (b := true) ⟨o, ho, hc⟩ isSubtype_stop (wpAny_pure (k _ eb)))
end
/-- the tuple at a, each item in a new pair with its number -/
def IteT (K : PySem.W.Frag) (a : Addr) : It :=
  ⟨fun i H => ∃ (xs : List V) (x : V), SqT K H a xs ∧ xs[i]? = some x, fun i H v H' => ∃ T x, v = .ref T ∧ H T = none ∧ H' = upd H T (.tup [.int (i : Nat), x]) ∧ ∀ xs, SqT K H a xs → xs[i]? = some x, fun i H => ∃ xs : List V, SqT K H a xs ∧ xs.length ≤ i⟩
theorem turn_enumT {P : Program} {w : World} {K : PySem.W.Frag} {elts : List Expr} {kk : Nat} {tpos : Pos} (a en it : Addr) :
    Turn P w K (.Tuple elts kk tpos) (IteT K a) [en, it] en (fun i h => (∃ old, IsEnum h en it ((i : Nat) : Int) old) ∧ h.IsTupleIter it a i ∧ en ≠ it ∧ a ≠ it ∧ a ≠ en) where
  mem := by simp
  obj := fun i h stt b hb => by
    obtain ⟨⟨old, he⟩, ⟨o, ho, hc, hd⟩, _⟩ := stt
    rcases (show b = en ∨ b = it by simpa using hb) with rfl | rfl
    · exact ⟨_, he, fun v q => nomatch q⟩
    · exact ⟨o, ho, fun v q => by rw [hd] at q; cases q⟩
  keep := fun i h h2 stt k => by
    obtain ⟨⟨old, he⟩, hi, r⟩ := stt
    exact ⟨⟨old, k en (by simp) _ he⟩, hi.at fun o q => k it (by simp) o q, r⟩
  item := by
    intro X hP hw hK hc i pins s σ H E I hf stt hg
    subst hP hw hK
    obtain ⟨⟨old, he⟩, hit, n1, n2, n3⟩ := stt
    obtain ⟨xs, x, hq, hx⟩ := hg
    obtain ⟨its, rv, p, hz⟩ := I.tuple hq
    obtain ⟨u, hu, ru⟩ := rv.get hx
    have l1 : en < s.heap.objs.size := Heap.lt_size he
    have l2 : it < s.heap.objs.size := by
      obtain ⟨_, q, _⟩ := hit
      exact Heap.lt_size q
    have il : i < its.toArray.size := by
      rw [List.size_toArray]
      exact (List.getElem?_eq_some_iff.mp hu).1
    have D := Draws.tuple (prog := X.prog) (w := X.w) (A := X.A.in1) (I.ok.hd hc) it a n2 its.toArray
    refine wpAny_pyNext_enum_itemC D he ⟨hit, p⟩ il n1 (by simp; exact ⟨n1, Ne.symm n3⟩) fun y h2 tk hy ho hs hT hsz hk => ?_
    obtain rfl : y = u := by
      have : its[i]? = some y := by simpa using hy
      rw [this] at hu
      exact Option.some.inj hu
    refine ⟨_, rfl, wpAny_letOwnedTupleGo_enum (s := { s with heap := h2, toks := tk + 1 }) ho fun h3 he3 sb => ?_⟩
    have T2 : h3.get? s.heap.objs.size = some { cls := .type "tuple", data := .seq #[.int i tk, y] } := (sb.2 _ (Nat.ne_of_gt l1)).trans hT
    have new : ObjOk X.prog X.w (upd H s.heap.objs.size (.tup [.int (i : Nat), x])) h3 s.heap.objs.size (.tup [.int (i : Nat), x]) :=
      ⟨by show 2 ≤ sizeLine; decide, [.int i tk, y], .cons ⟨_, rfl⟩ (.cons ru .nil), ⟨_, T2, rfl, _, rfl⟩⟩
    have I1 : Inv X pins σ (upd H s.heap.objs.size (.tup [.int (i : Nat), x])) { s with heap := h3, toks := tk + 1 } :=
      I.turnedNew (ch := [en, it]) (fun b ob hb q => (sb.2 b (fun z => hb (by simp [z]))).trans (hk b ob (fun z => hb (by simp [z])) (fun z => hb (by simp [z])) q)) hf (Nat.le_refl _) new
    refine ⟨.ref s.heap.objs.size, _, I1, rfl, ⟨_, x, rfl, I.hok.fresh (Nat.le_refl _), rfl, fun ys hy => by rw [I.tuple_inj hy hq]; exact hx⟩, ⟨⟨y, ?_⟩, hs.1.at fun o q => (sb.2 it (Ne.symm n1)).trans q, n1, n2, n3⟩, fun b hb => ?_⟩
    · rw [show ((i + 1 : Nat) : Int) = (i : Int) + 1 by omega]
      exact he3
    · have lb : b < s.heap.objs.size := by
        rcases (show b = en ∨ b = it by simpa using hb) with rfl | rfl
        · exact l1
        · exact l2
      rw [upd_ne (Nat.ne_of_lt lb)]
      exact (hf b hb).1
  done := by
    intro X hP hw hK hc i pins s σ H E I hf stt hg
    subst hP hw hK
    obtain ⟨⟨old, he⟩, hit, n1, n2, n3⟩ := stt
    obtain ⟨xs, hq, hx⟩ := hg
    obtain ⟨its, rv, p, hz⟩ := I.tuple hq
    obtain ⟨f0, f1, f2, f3, f4, f5⟩ := hf it (by simp)
    have hl := rv.length
    refine en_stop (I.ok.hd hc) he hit p (by simp; omega) fun h2 eb => ⟨rfl, I.turned (t' := s.toks) (fun b o hb q => eb b o hb q) f0 f1 f3 f4 f5⟩
  self := fun A i s Q E stt h => by
    obtain ⟨⟨_, he⟩, _⟩ := stt
    exact wpAny_pyIter_enum he h
def iEnumT (K : PySem.W.Frag) (ta : TA) : TI := fun σ H R => ta σ H fun vs H1 => ∃ a xs, vs = [.ref a] ∧ SqT K H1 a xs ∧ R (IteT K a) H1
theorem pi_enumT {X : Cx} {e : Expr} {ta : TA} {p pos tpos : Pos} {elts : List Expr} {kk : Nat} (hg : Gl X "enumerate") (hm : X.mg "enumerate" = none) (ha : PA X [e] ta) (hs : starEach [e] X.env = [(false, eval e X.env)] := by rfl) :
    PI X (.Tuple elts kk tpos) (.Call (.Name "enumerate" p) [e] [] pos) (iEnumT X.K ta) := by
  constructor
  intro pins s σ H R I h
  refine Call_ (ld_blt I hg hm boot_enumerate (PyProof.Rows.callWith_type1 (thn (ha.run pos pins s σ H _ I h) fun us s1 hv => ?_) hs rfl))
  obtain ⟨vs, H1, I1, r1, a, xs, rfl, hq, q⟩ := hv
  cases r1 with
  | cons r rr =>
    cases rr
    cases r
    obtain ⟨its, rv, pt, hz⟩ := I1.tuple hq
    have ltA : a < s1.heap.objs.size := by
      obtain ⟨_, e1, _⟩ := id pt
      exact Heap.lt_size e1
    refine en_call (begins_tuple a its.toArray) pt fun h2 he hit hk => wpAny_pyIter_enum he ?_
    have I2 : Inv X pins σ H1 { s1 with heap := h2 } := I1.kept (t' := s1.toks) hk
    refine ⟨s1.heap.objs.size + 1, [s1.heap.objs.size + 1, s1.heap.objs.size], _, _, H1, rfl, I2, turn_enumT a (s1.heap.objs.size + 1) s1.heap.objs.size, ⟨⟨.none, he⟩, ⟨_, hit, rfl, rfl⟩, Nat.succ_ne_self _, Nat.ne_of_lt ltA, Nat.ne_of_lt (Nat.lt_succ_of_lt ltA)⟩, fun b hb => ?_, q⟩
    have low : s1.heap.objs.size ≤ b := by
      rcases (show b = s1.heap.objs.size + 1 ∨ b = s1.heap.objs.size by simpa using hb) with rfl | rfl
      · exact Nat.le_add_right _ _
      · exact Nat.le_refl _
    exact I1.fpOk low (I1.hok.fresh low)
/-! ## slices of a list with a step -/
theorem vals_pick {xs : List V} {its : List Value} (r : Vals xs its) : ∀ js : List Nat, Vals (js.filterMap fun j => xs[j]?) (js.filterMap fun j => its[j]?)
  | [] => .nil
  | j :: js => by
    have ih := vals_pick r js
    cases hx : xs[j]? with
    | none =>
      have l := r.length
      have hn : its[j]? = none := by
        rw [List.getElem?_eq_none_iff] at hx ⊢
        omega
      rw [List.filterMap_cons, List.filterMap_cons, hx, hn]
      exact ih
    | some x =>
      obtain ⟨u, hu, ru⟩ := r.get hx
      rw [List.filterMap_cons, List.filterMap_cons, hx, hu]
      exact .cons ru ih
def stepIx (c : Int) (n : Nat) : List Nat := sliceRange (sliceBounds none none (some c) n).1 (sliceBounds none none (some c) n).2.1 (sliceBounds none none (some c) n).2.2
def tStepL (K : PySem.W.Frag) (c : Int) (te : TE) : TE := fun σ H Q => te σ H fun x H1 => ∃ a xs, x = .ref a ∧ SqL K H1 a xs ∧ (stepIx c xs.length).length ≤ sizeLine ∧ ∀ p, H1 p = none → Q (.ref p) (upd H1 p (.lst ((stepIx c xs.length).filterMap fun j => xs[j]?)))
theorem step_core {X : Cx} {c : Int} {e se : Expr} {te : TE} {ts : TO} {p3 pos : Pos} (c0 : (some c : Option Int) ≠ some 0) (he : PE X e te) (hs : PO X (some se) ts) (hc : ∀ σ H (Q : Option Int → Hp → Prop), Q (some c) H → ts σ H Q)
    (hsub : ∀ l sl : Addr, subscripted (.Slice none none (some se) p3) false (.ref l) (.ref sl) = operate [.ref l, .ref sl] (getItem (.ref l) (.ref sl))) :
    PE X (.Subscript e (.Slice none none (some se) p3) pos) (tStepL X.K c te) := by
  constructor
  intro pins s σ H Q I h
  refine Subscript_ (thn (he.run pins s σ H _ I h) fun v s1 hv => ?_)
  obtain ⟨x, H1, I1, r1, a, xs, rfl, hx, hz, q⟩ := hv
  cases r1
  refine wpAny_Slice (thn (po_none.run pins s1 σ H1 (fun o G => o = none ∧ G = H1) I1 ⟨rfl, rfl⟩) fun vl s2 hl => ?_)
  obtain ⟨l, H2, I2, pl, rfl, rfl⟩ := hl
  refine thn (po_none.run pins s2 σ H2 (fun o G => o = none ∧ G = H2) I2 ⟨rfl, rfl⟩) fun vu s3 hu => ?_
  obtain ⟨u, H3, I3, pu, rfl, rfl⟩ := hu
  refine thn (hs.run pins s3 σ H3 (fun o G => o = some c ∧ G = H3) I3 (hc _ _ _ ⟨rfl, rfl⟩)) fun vs s4 ho => ?_
  obtain ⟨o, H4, I4, ps, rfl, rfl⟩ := ho
  have I5 : Inv X pins σ H4 { s4 with heap := s4.heap.push { cls := .type "slice", data := .fields #[vl, vu, vs] } } := I4.kept (t' := s4.toks) fun b ob z => Heap.get?_push_of_some _ z
  obtain ⟨its, r, ht, hz2⟩ := I5.list hx
  have hlen := r.length
  show wpAny (model X.prog X.w) X.A (subscriptTail e (.Slice none none (some se) p3) (.ref a) (.ref s4.heap.objs.size)) (EP X pins σ Q) X.xe { s4 with heap := s4.heap.push { cls := .type "slice", data := .fields #[vl, vu, vs] } }
  refine tail_any (ops := [.ref a, .ref s4.heap.objs.size]) ht.isList.typeIs (PySem.slot_list_getitem.lookup) ?_ (hsub _ _)
  refine wpAny_getItem_list_slice ht.isList (Heap.IsSliceOf.new _ vl vu vs) pl pu ps c0 ?_ (by rw [List.size_toArray]; omega)
  have ep : slicePick its.toArray none none (some c) = ((stepIx c xs.length).filterMap fun j => its[j]?).toArray := by
    unfold slicePick stepIx
    rw [List.size_toArray, hlen]
    simp
  rw [ep]
  have rp := vals_pick r (stepIx c xs.length)
  refine ⟨.ref _, _, I5.laid (t' := s4.toks) (o := .lst ((stepIx c xs.length).filterMap fun j => xs[j]?)) (fun b ob z => Heap.get?_push_of_some _ z) (Nat.le_refl _) ?_, rfl, q _ (I5.hok.fresh (Nat.le_refl _))⟩
  exact ⟨Nat.le_trans (List.length_filterMap_le ..) hz, _, 0, rp, Heap.get?_push_size _ rfl⟩
theorem pe_step2 {X : Cx} {e : Expr} {te : TE} {k : Nat} {p1 p3 pos : Pos} (he : PE X e te) : PE X (.Subscript e (.Slice none none (some (.Constant (.int 2) k p1)) p3) pos) (tStepL X.K 2 te) :=
  step_core (by decide) he (po_some pe_int) (fun σ H Q q => ⟨2, rfl, q⟩) fun l sl => by with_unfolding_all rfl
theorem pe_stepB {X : Cx} {e : Expr} {te : TE} {k : Nat} {p1 p2 p3 pos : Pos} (he : PE X e te) : PE X (.Subscript e (.Slice none none (some (.UnaryOp .USub (.Constant (.int 2) k p1) p2)) p3) pos) (tStepL X.K (-2) te) :=
  step_core (by decide) he (po_some (pe_un un_neg pe_int)) (fun σ H Q q => ⟨2, rfl, -2, rfl, q⟩) fun l sl => by with_unfolding_all rfl
/-- two lists, item by item -/
def inter {α : Type} : List α → List α → List α
  | a :: r, b :: s => a :: b :: inter r s
  | _, _ => []
theorem inter_len {α : Type} : ∀ {xs ys : List α}, xs.length = ys.length → (inter xs ys).length = 2 * xs.length
  | [], [], _ => rfl
  | a :: r, b :: s, h => by
    have := inter_len (xs := r) (ys := s) (by simpa using h)
    simp only [inter, List.length_cons]
    omega
theorem inter_app {α : Type} {a b : α} : ∀ {xs ys : List α}, xs.length = ys.length → inter (xs ++ [a]) (ys ++ [b]) = inter xs ys ++ [a, b]
  | [], [], _ => rfl
  | x :: r, y :: s, h => by
    have := inter_app (a := a) (b := b) (xs := r) (ys := s) (by simpa using h)
    simp only [inter, List.cons_append, this]
theorem inter_get {α : Type} : ∀ {xs ys : List α} (k : Nat), xs.length = ys.length → (inter xs ys)[2 * k]? = xs[k]? ∧ (inter xs ys)[2 * k + 1]? = ys[k]?
  | [], [], k, _ => by simp [inter]
  | a :: r, b :: s, 0, _ => by simp [inter]
  | a :: r, b :: s, k + 1, h => by
    have := inter_get (xs := r) (ys := s) k (by simpa using h)
    have e1 : 2 * (k + 1) = 2 * k + 1 + 1 := by omega
    rw [e1]
    simpa only [inter, List.getElem?_cons_succ] using this
theorem step2_ix (m : Nat) : stepIx 2 (2 * m) = (List.range m).map fun k => 2 * k := by
  show sliceRange 0 ((2 * m : Nat) : Int) 2 = _
  unfold sliceRange
  have e : (if (0 : Int) < ((2 * m : Nat) : Int) then (((2 * m : Nat) : Int) - 0 + 2 - 1) / 2 else 0).toNat = m := by
    split <;> omega
  simp only [show (2 : Int) > 0 from by decide, if_true, e]
  refine List.map_congr_left fun k _ => ?_
  omega
theorem stepB_ix (m : Nat) : stepIx (-2) (2 * m) = (List.range m).map fun k => 2 * (m - 1 - k) + 1 := by
  show sliceRange (((2 * m : Nat) : Int) - 1) (-1) (-2) = _
  unfold sliceRange
  have e : (if ((2 * m : Nat) : Int) - 1 > -1 then (((2 * m : Nat) : Int) - 1 - -1 - -2 - 1) / (- -2) else 0).toNat = m := by
    rw [show (- -2 : Int) = 2 by decide]
    split <;> omega
  simp only [show ¬ ((-2 : Int) > 0) from by decide, if_false, e]
  refine List.map_congr_left fun k hk => ?_
  have := List.mem_range.mp hk
  omega
theorem fmc0 {α β : Type} {f g : α → Option β} : ∀ {l : List α}, (∀ x ∈ l, f x = g x) → l.filterMap f = l.filterMap g
  | [], _ => rfl
  | x :: r, h => by
    rw [List.filterMap_cons, List.filterMap_cons, h x List.mem_cons_self, fmc0 fun y hy => h y (List.mem_cons_of_mem _ hy)]
theorem all_get {α : Type} : ∀ xs : List α, (List.range xs.length).filterMap (fun k => xs[k]?) = xs
  | [] => rfl
  | x :: r => by
    rw [List.length_cons, List.range_succ_eq_map, List.filterMap_cons, List.filterMap_map]
    show x :: (List.range r.length).filterMap (fun k => r[k]?) = _
    rw [all_get r]
theorem pick_even {α : Type} {xs ys : List α} (h : xs.length = ys.length) : ((stepIx 2 (inter xs ys).length).filterMap fun j => (inter xs ys)[j]?) = xs := by
  rw [inter_len h, step2_ix, List.filterMap_map]
  have : ((fun j => (inter xs ys)[j]?) ∘ fun k => 2 * k) = fun k => xs[k]? := funext fun k => (inter_get k h).1
  rw [this, all_get]
theorem pick_back {α : Type} {xs ys : List α} (h : xs.length = ys.length) : ((stepIx (-2) (inter xs ys).length).filterMap fun j => (inter xs ys)[j]?) = ys.reverse := by
  rw [inter_len h, stepB_ix, List.filterMap_map]
  have e1 : ((fun j => (inter xs ys)[j]?) ∘ fun k => 2 * (xs.length - 1 - k) + 1) = fun k => ys[ys.length - 1 - k]? := funext fun k => by
    rw [← h]
    exact (inter_get _ h).2
  have e2 : ys.reverse = (List.range xs.length).filterMap fun k => ys.reverse[k]? := by
    have := all_get ys.reverse
    rw [List.length_reverse, ← h] at this
    exact this.symm
  rw [e1, e2]
  refine fmc0 fun k hk => ?_
  rw [List.getElem?_reverse (by have := List.mem_range.mp hk; omega)]
end G

set_option Elab.async false
set_option linter.all false
set_option maxRecDepth 100000
set_option maxHeartbeats 2000000
/-! the texts of whole numbers, there and back -/
namespace G
open PySem PySem.Spec PyProof.Rows L2 TL
def digB (c : Nat) : Bool := decide (48 ≤ c) && decide (c ≤ 57)
def figOk (f : List Nat) : Bool := !f.isEmpty && (f.all digB && decide (f.length ≤ 60))
def negB (l : List Nat) : Bool := decide (l.head? = some 45)
def figs (l : List Nat) : List Nat := if negB l = true then l.tail else l
/-- the signs are the text of a whole number of at most sixty figures -/
def numOkL (l : List Nat) : Bool := figOk (figs l) && (decide ((figs l).head? ≠ some 48) || (decide ((figs l).length = 1) && !negB l))
def wholeZ (z : Str) : Option Int := if numOkL (tl z) = true then intText? z else none
abbrev textZ (n : Int) : Str := Str.ofString (toString n)
theorem digs_of {l : List Nat} (h : l.all digB = true) : NumText.AllDigits l := fun c hc => by
  have q : digB c = true := List.all_eq_true.mp h c hc
  unfold digB at q
  rw [Bool.and_eq_true, decide_eq_true_eq, decide_eq_true_eq] at q
  exact q
theorem all_of {l : List Nat} (h : NumText.AllDigits l) : l.all digB = true := List.all_eq_true.mpr fun c hc => by
  have q := h c hc
  unfold digB
  rw [decide_eq_true q.1, decide_eq_true q.2] <;> rfl
theorem numL_head {n : Nat} (h : 0 < n) : (numL n).head? ≠ some 48 := by
  induction n using Nat.strongRecOn with
  | _ n ih =>
    by_cases q : n < 10
    · rw [numL_lt q]
      intro e
      have : 48 + n = 48 := by simpa using e
      omega
    · rw [numL_step (by omega)]
      have i := ih (n / 10) (by omega) (by omega)
      have ne := numL_ne (n / 10)
      cases e : numL (n / 10) with
      | nil => exact absurd e ne
      | cons c r =>
        rw [e] at i
        simpa using i
theorem val_snoc (m : List Nat) (c : Nat) : NumText.digitsVal (m ++ [c]) = NumText.digitsVal m * 10 + (c - 48) := by
  unfold NumText.digitsVal
  rw [List.foldl_append] <;> rfl
/-- figures without a leading zero are those of their worth -/
theorem numL_back : ∀ (k : Nat) (l : List Nat), l.length = k → NumText.AllDigits l → l ≠ [] → (l.head? ≠ some 48 ∨ l.length = 1) → numL (NumText.digitsVal l) = l := by
  intro k
  induction k with
  | zero => intro l e _ n _; exact absurd (List.length_eq_zero_iff.mp e) n
  | succ k ih =>
    intro l e h n q
    obtain ⟨m, c, rfl⟩ : ∃ m c, l = m ++ [c] := ⟨l.dropLast, l.getLast n, (List.dropLast_concat_getLast n).symm⟩
    have hc := h c (List.mem_append_right _ List.mem_cons_self)
    rw [val_snoc]
    cases m with
    | nil =>
      show numL (0 * 10 + (c - 48)) = [c]
      rw [numL_lt (by omega)]
      congr 1
      omega
    | cons a m =>
      have lm : (a :: m).length = k := by
        rw [List.length_append] at e
        simpa using e
      have ha : a ≠ 48 := by
        rcases q with q | q
        · simpa using q
        · rw [List.length_append] at q
          simp at q
      have hm : NumText.AllDigits (a :: m) := fun x hx => h x (List.mem_append_left _ hx)
      have i := ih (a :: m) lm hm (by simp) (.inl (by simpa using ha))
      have pos : 0 < NumText.digitsVal (a :: m) := by
        rcases Nat.eq_zero_or_pos (NumText.digitsVal (a :: m)) with z | z
        · rw [z, numL_lt (by decide)] at i
          injection i with i1 i2
          exact absurd i1.symm ha
        · exact z
      rw [numL_step (by omega)]
      have e1 : (NumText.digitsVal (a :: m) * 10 + (c - 48)) / 10 = NumText.digitsVal (a :: m) := by omega
      have e2 : (NumText.digitsVal (a :: m) * 10 + (c - 48)) % 10 = c - 48 := by omega
      rw [e1, e2, i]
      congr 2
      omega
theorem val_lt {l : List Nat} (h : NumText.AllDigits l) (n : l ≠ []) (q : l.head? ≠ some 48 ∨ l.length = 1) (hl : l.length ≤ 60) : NumText.digitsVal l < 10 ^ 60 := by
  rcases Nat.lt_or_ge (NumText.digitsVal l) (10 ^ 60) with z | z
  · exact z
  · have g := digits10_ge (k := 60) (n := NumText.digitsVal l) z
    have e := congrArg List.length (numL_back _ l rfl h n q)
    unfold numL at e
    rw [List.length_map] at e
    omega
theorem tl_text (n : Int) : tl (textZ n) = (if n < 0 then [45] else []) ++ numL n.natAbs := by
  by_cases h : n < 0
  · rw [if_pos h]
    have e : (0 : Int) - n = ((n.natAbs : Nat) : Int) := by omega
    show tl (Str.ofString (toString n)) = _
    rw [toString_neg h, e]
    have e2 : Str.ofString ("-" ++ toString ((n.natAbs : Nat) : Int)) = Str.ofString "-" ++ Str.ofString (toString ((n.natAbs : Nat) : Int)) := by
      first
        | exact Str.ofString_append _ _
        | (refine ext_tl ?_; rw [tl_append]; simp [tl, Str.ofString_eq_toList])
    rw [e2, tl_append, tl_num]
    rfl
  · rw [if_neg h]
    have e : n = ((n.natAbs : Nat) : Int) := by omega
    show tl (Str.ofString (toString n)) = _
    rw [e, tl_num]
    rfl
/-- what such a text reads as, and that it is the text of this -/
theorem num_in {z : Str} (h : numOkL (tl z) = true) : ∃ n : Int, intText? z = some n ∧ textZ n = z ∧ -BIG < n ∧ n < BIG := by
  have e60 : (10 : Nat) ^ 60 = 1000000000000000000000000000000000000000000000000000000000000 := by decide
  unfold numOkL figOk at h
  rw [Bool.and_eq_true, Bool.and_eq_true, Bool.and_eq_true] at h
  obtain ⟨⟨h1, h2, h3⟩, h4⟩ := h
  have hl := of_decide_eq_true h3
  have ne : figs (tl z) ≠ [] := by
    intro e
    rw [e] at h1
    exact absurd h1 (by decide)
  have ad := digs_of h2
  have q : (figs (tl z)).head? ≠ some 48 ∨ (figs (tl z)).length = 1 := by
    rcases Bool.or_eq_true_iff.mp h4 with a | a
    · exact .inl (of_decide_eq_true a)
    · exact .inr (of_decide_eq_true (Bool.and_eq_true_iff.mp a).1)
  have back := numL_back _ _ rfl ad ne q
  have lt := val_lt ad ne q hl
  by_cases hn : negB (tl z) = true
  · have ez : figs (tl z) = (tl z).tail := if_pos hn
    obtain ⟨r, hr⟩ : ∃ r, tl z = 45 :: r := by
      unfold negB at hn
      have := of_decide_eq_true hn
      cases e : tl z with
      | nil => rw [e] at this; cases this
      | cons c r =>
        rw [e] at this
        injection this with t
        exact ⟨r, by rw [t]⟩
    rw [ez, hr] at ad ne q back lt hl h4
    have n48 : (r : List Nat).head? ≠ some 48 := by
      rcases Bool.or_eq_true_iff.mp h4 with a | a
      · exact of_decide_eq_true a
      · rw [← hr, hn] at a
        simp at a
    have hz : z.length ≤ 4300 := by
      rw [len_tl, hr, List.length_cons]
      have : (List.tail (45 :: r)).length ≤ 60 := hl
      simp at this
      omega
    refine ⟨-((NumText.digitsVal r : Nat) : Int), intText_neg hr ad ne hz, ?_, ?_, ?_⟩
    · refine ext_tl ?_
      have pos : 0 < NumText.digitsVal r := by
        rcases Nat.eq_zero_or_pos (NumText.digitsVal r) with y | y
        · have b : numL (NumText.digitsVal r) = r := back
          rw [y, numL_lt (by decide)] at b
          rw [← b] at n48
          exact absurd rfl n48
        · exact y
      rw [tl_text, if_pos (by omega), hr]
      have e : (-((NumText.digitsVal r : Nat) : Int)).natAbs = NumText.digitsVal r := by omega
      have b : numL (NumText.digitsVal r) = r := back
      rw [e, b]
      rfl
    · have : NumText.digitsVal r < 10 ^ 60 := lt
      unfold BIG
      omega
    · have : NumText.digitsVal r < 10 ^ 60 := lt
      unfold BIG
      omega
  · have ez : figs (tl z) = tl z := if_neg hn
    rw [ez] at ad ne q back lt hl
    refine ⟨((NumText.digitsVal (tl z) : Nat) : Int), intText_digits ad ne (by rw [len_tl]; omega), ?_, ?_, ?_⟩
    · refine ext_tl ?_
      rw [tl_text, if_neg (by omega)]
      exact back
    · unfold BIG
      omega
    · unfold BIG
      omega
theorem num_out {n : Int} (h1 : -BIG < n) (h2 : n < BIG) : numOkL (tl (textZ n)) = true ∧ intText? (textZ n) = some n := by
  have lt : n.natAbs < 10 ^ 60 := by
    have e60 : (10 : Nat) ^ 60 = 1000000000000000000000000000000000000000000000000000000000000 := by decide
    unfold BIG at h1 h2
    omega
  have hl : (numL n.natAbs).length ≤ 60 := numL_len (by decide) lt
  have ne := numL_ne n.natAbs
  have ad := numL_digits n.natAbs
  have hf : figOk (numL n.natAbs) = true := by
    unfold figOk
    rw [all_of ad, decide_eq_true hl]
    cases e : numL n.natAbs with
    | nil => exact absurd e ne
    | cons c r => rfl
  have et := tl_text n
  by_cases hn : n < 0
  · rw [if_pos hn] at et
    have et' : tl (textZ n) = 45 :: numL n.natAbs := et
    constructor
    · rw [et']
      have ef : figs (45 :: numL n.natAbs) = numL n.natAbs := if_pos (decide_eq_true rfl)
      unfold numOkL
      rw [ef, hf, decide_eq_true (numL_head (by omega))] <;> rfl
    · have := intText_neg et' ad ne (by rw [len_tl, et', List.length_cons]; omega)
      rw [numL_val] at this
      rw [this]
      congr 1
      omega
  · rw [if_neg hn] at et
    have et' : tl (textZ n) = numL n.natAbs := et
    have hd : negB (numL n.natAbs) = false := by
      unfold negB
      refine decide_eq_false fun e => ?_
      have : 45 ∈ numL n.natAbs := List.mem_of_mem_head? e
      exact numL_free (.inl (by decide)) this
    constructor
    · rw [et']
      have ef : figs (numL n.natAbs) = numL n.natAbs := if_neg (by rw [hd]; exact Bool.false_ne_true)
      unfold numOkL
      rw [ef, hf, hd]
      by_cases p : 0 < n.natAbs
      · rw [decide_eq_true (numL_head p)] <;> rfl
      · have : n.natAbs = 0 := by omega
        rw [this, numL_lt (by decide)] <;> rfl
    · have := intText_digits (x := textZ n) (by rw [show (textZ n).cps.toList = numL n.natAbs from et']; exact ad) (by rw [show (textZ n).cps.toList = numL n.natAbs from et']; exact ne) (by rw [len_tl, et']; omega)
      rw [show (textZ n).cps.toList = numL n.natAbs from et', numL_val] at this
      rw [this]
      congr 1
      omega
theorem whole_text {n : Int} (h1 : -BIG < n) (h2 : n < BIG) : wholeZ (textZ n) = some n := by
  obtain ⟨a, b⟩ := num_out h1 h2
  unfold wholeZ
  rw [if_pos a, b]
theorem whole_in {z : Str} {n : Int} (h : wholeZ z = some n) : textZ n = z ∧ -BIG < n ∧ n < BIG := by
  unfold wholeZ at h
  by_cases q : numOkL (tl z) = true
  · rw [if_pos q] at h
    obtain ⟨m, e, t, a, b⟩ := num_in q
    rw [e] at h
    injection h with h
    subst h
    exact ⟨t, a, b⟩
  · rw [if_neg q] at h
    cases h
end G

set_option Elab.async false
set_option linter.all false
set_option maxRecDepth 100000
set_option maxHeartbeats 1000000
namespace G
open PySem PySem.Spec PyProof.Rows L2
/-! ## places of elements: pure -/
structure Blk where
  lev : Nat
  side : Str
  many : Nat
structure Plc where
  lev : Nat
  side : Str
  idx : Nat
  path : List Nat
structure Spn where
  lev : Nat
  side : Str
  beg : Nat
  fin : Nat
def dig (K : Nat) : Nat → Nat → List Nat
  | 0, _ => []
  | n + 1, q => dig K n (q / K) ++ [q % K]
def Blk.sz (K : Nat) (b : Blk) : Nat := b.many * K ^ b.lev
def plc (K : Nat) (b : Blk) (q : Nat) : Plc := ⟨b.lev, b.side, q / K ^ b.lev, dig K b.lev q⟩
def blkPlaces (K : Nat) (b : Blk) : List Plc := (List.range (b.sz K)).map (plc K b)
def placesB (K : Nat) (bs : List Blk) : List Plc := bs.flatMap (blkPlaces K)
def spansB (K : Nat) : Nat → List Blk → List Spn
  | _, [] => []
  | a, b :: r => if 0 < b.sz K then ⟨b.lev, b.side, a, a + b.sz K⟩ :: spansB K (a + b.sz K) r else spansB K (a + b.sz K) r
def lefts : Nat → List (Nat × Nat) → List Blk
  | _, [] => []
  | i, g :: r => ⟨i, "left", g.1⟩ :: lefts (i + 1) r
def rights : Nat → List (Nat × Nat) → List Blk
  | _, [] => []
  | i, g :: r => ⟨i, "right", g.2⟩ :: rights (i + 1) r
def blocks (gs : List (Nat × Nat)) : List Blk := lefts 0 gs ++ (rights 0 gs).reverse
def places (K : Nat) (gs : List (Nat × Nat)) : List Plc := placesB K (blocks gs)
def total (K : Nat) (bs : List Blk) : Nat := (bs.map (Blk.sz K)).sum
theorem dig_len (K : Nat) : ∀ n q, (dig K n q).length = n
  | 0, _ => rfl
  | n + 1, q => by
    rw [dig, List.length_append, dig_len K n]
    rfl
theorem dig_lt {K : Nat} (hK : 0 < K) : ∀ n q, ∀ c ∈ dig K n q, c < K
  | 0, _, c, h => nomatch h
  | n + 1, q, c, h => by
    rw [dig] at h
    rcases List.mem_append.mp h with h | h
    · exact dig_lt hK n _ c h
    · rw [List.mem_singleton.mp h]
      exact Nat.mod_lt _ hK
theorem dig_add {K : Nat} (hK : 0 < K) : ∀ n a p, dig K n (a * K ^ n + p) = dig K n p
  | 0, _, _ => rfl
  | n + 1, a, p => by
    have e : a * K ^ (n + 1) = a * K ^ n * K := by rw [Nat.pow_succ, Nat.mul_assoc]
    rw [dig, dig, e, Nat.add_comm, Nat.add_mul_div_right _ _ hK, Nat.add_mul_mod_self_right, Nat.add_comm (p / K), dig_add hK n]
theorem dig_fold {K : Nat} : ∀ n q, (dig K n q).foldl (fun i p => i * K + p) (q / K ^ n) = q
  | 0, q => by simp [dig]
  | n + 1, q => by
    rw [dig, List.foldl_append]
    have e : q / K ^ (n + 1) = q / K / K ^ n := by rw [Nat.pow_succ, Nat.mul_comm, Nat.div_div_eq_div_mul]
    rw [e, dig_fold n (q / K)]
    show q / K * K + q % K = q
    have := Nat.div_add_mod q K
    rw [Nat.mul_comm] at this
    exact this
theorem placesB_len (K : Nat) : ∀ bs, (placesB K bs).length = total K bs
  | [] => rfl
  | b :: r => by
    show (blkPlaces K b ++ placesB K r).length = _
    rw [List.length_append, placesB_len K r]
    simp [blkPlaces, total]
/-- the number n lies in a block: its span, and the place -/
theorem place_in {K : Nat} : ∀ (bs : List Blk) (a n : Nat) (p : Plc), (placesB K bs)[n]? = some p →
    ∃ (s : Spn) (b : Blk), b ∈ bs ∧ s ∈ spansB K a bs ∧ s.lev = b.lev ∧ s.side = b.side ∧ s.beg ≤ a + n ∧ a + n < s.fin ∧ a + n - s.beg < b.sz K ∧ p = plc K b (a + n - s.beg)
  | [], _, n, p, h => by simp [placesB] at h
  | b :: r, a, n, p, h => by
    have h : (blkPlaces K b ++ placesB K r)[n]? = some p := h
    have l : (blkPlaces K b).length = b.sz K := by simp [blkPlaces]
    by_cases q : n < b.sz K
    · rw [List.getElem?_append_left (by omega)] at h
      have e : p = plc K b n := by
        unfold blkPlaces at h
        rw [List.getElem?_map, List.getElem?_range q] at h
        exact (Option.some.inj h).symm
      refine ⟨⟨b.lev, b.side, a, a + b.sz K⟩, b, List.mem_cons_self, ?_, rfl, rfl, Nat.le_add_right _ _, by show a + n < a + b.sz K; omega, by show a + n - a < b.sz K; omega, ?_⟩
      · rw [spansB, if_pos (by omega)]
        exact List.mem_cons_self
      · show p = plc K b (a + n - a)
        rw [Nat.add_sub_cancel_left]
        exact e
    · rw [List.getElem?_append_right (by omega), l] at h
      obtain ⟨s, b', h1, h2, h3, h4, h5, h6, h7, h8⟩ := place_in r (a + b.sz K) (n - b.sz K) p h
      have e : a + b.sz K + (n - b.sz K) = a + n := by omega
      rw [e] at h5 h6 h7 h8
      refine ⟨s, b', List.mem_cons_of_mem _ h1, ?_, h3, h4, h5, h6, h7, h8⟩
      rw [spansB]
      split
      · exact List.mem_cons_of_mem _ h2
      · exact h2
theorem spans_ge {K : Nat} : ∀ (bs : List Blk) (a : Nat) (s : Spn), s ∈ spansB K a bs → a ≤ s.beg ∧ s.beg < s.fin
  | [], _, _, h => nomatch h
  | b :: r, a, s, h => by
    rw [spansB] at h
    split at h
    · rename_i q
      rcases List.mem_cons.mp h with rfl | h
      · exact ⟨Nat.le_refl _, by show a < a + b.sz K; omega⟩
      · have := spans_ge r _ s h
        omega
    · have := spans_ge r _ s h
      omega
/-- at most one span holds a number -/
theorem span_one {K : Nat} : ∀ (bs : List Blk) (a n : Nat) (s t : Spn), s ∈ spansB K a bs → t ∈ spansB K a bs → s.beg ≤ n → n < s.fin → t.beg ≤ n → n < t.fin → s = t
  | [], _, _, _, _, h, _, _, _, _, _ => nomatch h
  | b :: r, a, n, s, t, hs, ht, s1, s2, t1, t2 => by
    rw [spansB] at hs ht
    split at hs
    · rename_i q
      rw [if_pos q] at ht
      rcases List.mem_cons.mp hs with rfl | hs
      · rcases List.mem_cons.mp ht with rfl | ht
        · rfl
        · have := (spans_ge r _ t ht).1
          have s2 : n < a + b.sz K := s2
          omega
      · rcases List.mem_cons.mp ht with rfl | ht
        · have := (spans_ge r _ s hs).1
          have t2 : n < a + b.sz K := t2
          omega
        · exact span_one r _ n s t hs ht s1 s2 t1 t2
    · rename_i q
      rw [if_neg q] at ht
      exact span_one r _ n s t hs ht s1 s2 t1 t2
theorem filter_one {α : Type} {l : List α} {f : α → Bool} {s : α} (h1 : s ∈ l) (h2 : f s = true) (h3 : ∀ t ∈ l, f t = true → t = s) : ∃ r, l.filter f = s :: r := by
  cases e : l.filter f with
  | nil =>
    have := List.mem_filter.mpr ⟨h1, h2⟩
    rw [e] at this
    cases this
  | cons t r =>
    have ht : t ∈ l.filter f := by rw [e]; exact List.mem_cons_self
    obtain ⟨a, b⟩ := List.mem_filter.mp ht
    exact ⟨r, by rw [h3 t a b]⟩
/-- blocks with keys all different -/
def Apart (bs : List Blk) : Prop := bs.Pairwise fun b c => ¬ (b.lev = c.lev ∧ b.side = c.side)
theorem span_of {K : Nat} : ∀ (bs : List Blk) (a : Nat) (s : Spn), s ∈ spansB K a bs → ∃ b ∈ bs, s.lev = b.lev ∧ s.side = b.side
  | [], _, _, h => nomatch h
  | b :: r, a, s, h => by
    rw [spansB] at h
    have go : s ∈ spansB K (a + b.sz K) r → ∃ c ∈ b :: r, s.lev = c.lev ∧ s.side = c.side := fun h => by
      obtain ⟨c, hc, e⟩ := span_of r _ s h
      exact ⟨c, List.mem_cons_of_mem _ hc, e⟩
    split at h
    · rcases List.mem_cons.mp h with rfl | h
      · exact ⟨b, List.mem_cons_self, rfl, rfl⟩
      · exact go h
    · exact go h
theorem span_key {K : Nat} : ∀ (bs : List Blk) (a : Nat) (s t : Spn), Apart bs → s ∈ spansB K a bs → t ∈ spansB K a bs → t.lev = s.lev → t.side = s.side → t = s
  | [], _, _, _, _, h, _, _, _ => nomatch h
  | b :: r, a, s, t, hA, hs, ht, e1, e2 => by
    obtain ⟨h1, h2⟩ := List.pairwise_cons.mp hA
    have no : ∀ u ∈ spansB K (a + b.sz K) r, ¬ (b.lev = u.lev ∧ b.side = u.side) := fun u hu ⟨q1, q2⟩ => by
      obtain ⟨c, hc, e3, e4⟩ := span_of r _ u hu
      exact h1 c hc ⟨by omega, by rw [q2, e4]⟩
    rw [spansB] at hs ht
    split at hs
    · rename_i q
      rw [if_pos q] at ht
      rcases List.mem_cons.mp hs with rfl | hs
      · rcases List.mem_cons.mp ht with rfl | ht
        · rfl
        · exact absurd ⟨e1.symm, e2.symm⟩ (no t ht)
      · rcases List.mem_cons.mp ht with rfl | ht
        · exact absurd ⟨e1, e2⟩ (no s hs)
        · exact span_key r _ s t h2 hs ht e1 e2
    · rename_i q
      rw [if_neg q] at ht
      exact span_key r _ s t h2 hs ht e1 e2
theorem left_ne : ("left" : Str) ≠ "right" := by decide +kernel
theorem lefts_mem : ∀ (i : Nat) (gs : List (Nat × Nat)) (b : Blk), b ∈ lefts i gs → b.side = "left" ∧ ∃ j, ∃ g, gs[j]? = some g ∧ b.lev = i + j ∧ b.many = g.1
  | _, [], _, h => nomatch h
  | i, g :: r, b, h => by
    rcases List.mem_cons.mp h with rfl | h
    · exact ⟨rfl, 0, g, rfl, rfl, rfl⟩
    · obtain ⟨a, j, g', h1, h2, h3⟩ := lefts_mem (i + 1) r b h
      exact ⟨a, j + 1, g', h1, by omega, h3⟩
theorem rights_mem : ∀ (i : Nat) (gs : List (Nat × Nat)) (b : Blk), b ∈ rights i gs → b.side = "right" ∧ ∃ j, ∃ g, gs[j]? = some g ∧ b.lev = i + j ∧ b.many = g.2
  | _, [], _, h => nomatch h
  | i, g :: r, b, h => by
    rcases List.mem_cons.mp h with rfl | h
    · exact ⟨rfl, 0, g, rfl, rfl, rfl⟩
    · obtain ⟨a, j, g', h1, h2, h3⟩ := rights_mem (i + 1) r b h
      exact ⟨a, j + 1, g', h1, by omega, h3⟩
theorem lefts_apart : ∀ (i : Nat) (gs : List (Nat × Nat)), Apart (lefts i gs)
  | _, [] => List.Pairwise.nil
  | i, g :: r => List.pairwise_cons.mpr ⟨fun c hc ⟨e, _⟩ => by
      obtain ⟨_, j, _, _, h, _⟩ := lefts_mem _ _ c hc
      have e : i = c.lev := e
      omega, lefts_apart (i + 1) r⟩
theorem rights_apart : ∀ (i : Nat) (gs : List (Nat × Nat)), Apart (rights i gs)
  | _, [] => List.Pairwise.nil
  | i, g :: r => List.pairwise_cons.mpr ⟨fun c hc ⟨e, _⟩ => by
      obtain ⟨_, j, _, _, h, _⟩ := rights_mem _ _ c hc
      have e : i = c.lev := e
      omega, rights_apart (i + 1) r⟩
theorem blocks_apart (gs : List (Nat × Nat)) : Apart (blocks gs) := by
  refine List.pairwise_append.mpr ⟨lefts_apart 0 gs, ?_, fun b hb c hc ⟨_, e⟩ => ?_⟩
  · refine List.pairwise_reverse.mpr ((rights_apart 0 gs).imp fun h ⟨e1, e2⟩ => h ⟨e1.symm, e2.symm⟩)
  · have h1 := (lefts_mem _ _ b hb).1
    have h2 := (rights_mem _ _ c (List.mem_reverse.mp hc)).1
    rw [h1, h2] at e
    exact left_ne e
theorem blocks_mem {gs : List (Nat × Nat)} {b : Blk} (h : b ∈ blocks gs) : ∃ g, gs[b.lev]? = some g ∧ ((b.side = "left" ∧ b.many = g.1) ∨ (b.side = "right" ∧ b.many = g.2)) := by
  rcases List.mem_append.mp h with h | h
  · obtain ⟨a, j, g, h1, h2, h3⟩ := lefts_mem _ _ b h
    exact ⟨g, by rw [h2, Nat.zero_add]; exact h1, .inl ⟨a, h3⟩⟩
  · obtain ⟨a, j, g, h1, h2, h3⟩ := rights_mem _ _ b (List.mem_reverse.mp h)
    exact ⟨g, by rw [h2, Nat.zero_add]; exact h1, .inr ⟨a, h3⟩⟩
/-- the law's grouping of places -/
def grp1 (F : List Spn) (n : Nat) (p : Plc) : List Spn :=
  match F.getLast? with
  | none => [⟨p.lev, p.side, n, n + 1⟩]
  | some s => if s.lev = p.lev ∧ s.side = p.side then F.dropLast ++ [⟨p.lev, p.side, s.beg, n + 1⟩] else F ++ [⟨p.lev, p.side, n, n + 1⟩]
def grp (F : List Spn) : Nat → List Plc → List Spn
  | _, [] => F
  | n, p :: r => grp (grp1 F n p) (n + 1) r
theorem grp_app (F : List Spn) (n : Nat) (xs ys : List Plc) : grp F n (xs ++ ys) = grp (grp F n xs) (n + xs.length) ys := by
  induction xs generalizing F n with
  | nil => rfl
  | cons p r ih =>
    show grp (grp1 F n p) (n + 1) (r ++ ys) = _
    rw [ih]
    show _ = grp (grp (grp1 F n p) (n + 1) r) (n + (r.length + 1)) ys
    rw [show n + 1 + r.length = n + (r.length + 1) by omega]
theorem grp_same (F : List Spn) (lv : Nat) (sd : Str) (a : Nat) : ∀ (ps : List Plc) (n : Nat), (∀ p ∈ ps, p.lev = lv ∧ p.side = sd) → grp (F ++ [⟨lv, sd, a, n⟩]) n ps = F ++ [⟨lv, sd, a, n + ps.length⟩]
  | [], n, _ => rfl
  | p :: r, n, h => by
    obtain ⟨e1, e2⟩ := h p List.mem_cons_self
    have s1 : grp1 (F ++ [⟨lv, sd, a, n⟩]) n p = F ++ [⟨lv, sd, a, n + 1⟩] := by
      unfold grp1
      rw [List.getLast?_append]
      simp [e1, e2]
    show grp (grp1 _ n p) (n + 1) r = _
    rw [s1, grp_same F lv sd a r (n + 1) fun q hq => h q (List.mem_cons_of_mem _ hq), List.length_cons, show n + 1 + r.length = n + (r.length + 1) by omega]
theorem grp_blk (K : Nat) (F : List Spn) (b : Blk) (n : Nat) (hF : ∀ s, F.getLast? = some s → ¬ (s.lev = b.lev ∧ s.side = b.side)) :
    grp F n (blkPlaces K b) = if 0 < b.sz K then F ++ [⟨b.lev, b.side, n, n + b.sz K⟩] else F := by
  cases q : b.sz K with
  | zero =>
    have : blkPlaces K b = [] := by simp [blkPlaces, q]
    rw [this]
    rfl
  | succ m =>
    have e : blkPlaces K b = plc K b 0 :: (List.range m).map fun i => plc K b (i + 1) := by
      unfold blkPlaces
      rw [q, List.range_succ_eq_map, List.map_cons, List.map_map]
      rfl
    rw [e, if_pos (Nat.succ_pos m)]
    have s1 : grp1 F n (plc K b 0) = F ++ [⟨b.lev, b.side, n, n + 1⟩] := by
      unfold grp1
      cases h : F.getLast? with
      | none =>
        rw [List.getLast?_eq_none_iff.mp h]
        rfl
      | some s => exact if_neg (hF s h)
    show grp (grp1 F n _) (n + 1) _ = _
    rw [s1, grp_same F b.lev b.side n _ (n + 1) fun p hp => by
      obtain ⟨i, _, rfl⟩ := List.mem_map.mp hp
      exact ⟨rfl, rfl⟩]
    rw [List.length_map, List.length_range, show n + 1 + m = n + (m + 1) by omega]
theorem grp_places (K : Nat) : ∀ (bs : List Blk) (F : List Spn) (n : Nat), Apart bs → (∀ s, F.getLast? = some s → ∀ b ∈ bs, ¬ (s.lev = b.lev ∧ s.side = b.side)) → grp F n (placesB K bs) = F ++ spansB K n bs
  | [], F, n, _, _ => by
    show F = F ++ []
    rw [List.append_nil]
  | b :: r, F, n, hA, hF => by
    obtain ⟨h1, h2⟩ := List.pairwise_cons.mp hA
    show grp F n (blkPlaces K b ++ placesB K r) = _
    have l : (blkPlaces K b).length = b.sz K := by simp [blkPlaces]
    rw [grp_app, grp_blk K F b n fun s h => hF s h b List.mem_cons_self, l, spansB]
    by_cases q : 0 < b.sz K
    · rw [if_pos q, if_pos q, grp_places K r _ _ h2 ?_, List.append_assoc]
      · rfl
      · intro s h c hc
        rw [List.getLast?_append] at h
        simp at h
        subst h
        exact h1 c hc
    · rw [if_neg q, if_neg q]
      exact grp_places K r F _ h2 fun s h c hc => hF s h c (List.mem_cons_of_mem _ hc)
theorem grp_all (K : Nat) (gs : List (Nat × Nat)) : grp [] 0 (places K gs) = spansB K 0 (blocks gs) := by
  exact (grp_places K (blocks gs) [] 0 (blocks_apart gs) (fun s h => by cases h)).trans (List.nil_append _)
end G

set_option Elab.async false
set_option linter.all false
set_option maxRecDepth 100000
set_option maxHeartbeats 2000000
/-! the text of plain data tells the data -/
namespace G
open PySem PySem.Spec PyProof.Rows L2 TL
def sh (d : PyData) : List Nat := tl d.shown
def okTexts : List Str := ["left", "right", "Left", "", "0", "0 left 0"]
mutual
def plainD : PyData → Bool
  | .none | .bool _ | .int _ => true
  | .str x => okTexts.any fun y => decide (x = y)
  | .list xs | .tuple xs => plainAll xs
  | .dict _ => false
def plainAll : List PyData → Bool
  | [] => true
  | x :: xs => plainD x && plainAll xs
end
def shs (ds : List PyData) : List Nat := joinL [44, 32] (ds.map sh)
theorem shownAll_map : ∀ ds : List PyData, PyData.shownAll ds = ds.map PyData.shown
  | [] => by rw [PyData.shownAll_nil]; rfl
  | d :: r => by rw [PyData.shownAll_cons, shownAll_map r]; rfl
theorem sh_list (ds : List PyData) : sh (.list ds) = 91 :: (shs ds ++ [93]) := by
  unfold sh shs
  rw [PyData.shown_list, tl_append, tl_append, tl_join, shownAll_map, List.map_map, tl_ofString, tl_ofString, tl_ofString]
  rfl
theorem sh_tuple (ds : List PyData) : sh (.tuple ds) = 40 :: (shs ds ++ (if ds.length = 1 then [44, 41] else [41])) := by
  unfold sh shs
  rw [PyData.shown_tuple, tl_append, tl_append, tl_join, shownAll_map, List.map_map, tl_ofString, tl_ofString, tl_ofString]
  by_cases h : ds.length = 1
  · rw [if_pos h, h]
    rfl
  · rw [if_neg h]
    have : (ds.length == 1) = false := by simp [h]
    rw [this]
    rfl
theorem sh_int (n : Int) : sh (.int n) = (if n < 0 then [45] else []) ++ numL n.natAbs := by
  unfold sh
  rw [PyData.shown_int]
  exact tl_text n
theorem sh_none : sh .none = [78, 111, 110, 101] := by
  unfold sh
  rw [PyData.shown_none]
  rfl
theorem sh_true : sh (.bool true) = [84, 114, 117, 101] := by
  unfold sh
  rw [PyData.shown_bool]
  rfl
theorem sh_false : sh (.bool false) = [70, 97, 108, 115, 101] := by
  unfold sh
  rw [PyData.shown_bool]
  rfl
theorem sh_text : ∀ x ∈ okTexts, sh (.str x) = 39 :: (tl x ++ [39]) ∧ 39 ∉ tl x := by
  intro x hx
  have h : okTexts.all (fun x => decide (sh (.str x) = 39 :: (tl x ++ [39]) ∧ 39 ∉ tl x)) = true := by
    unfold sh
    simp only [PyData.shown_str]
    decide +kernel
  exact of_decide_eq_true (List.all_eq_true.mp h x hx)
theorem txt_ok {x : Str} (h : plainD (.str x) = true) : x ∈ okTexts := by
  rw [plainD] at h
  obtain ⟨y, hy, e⟩ := List.any_eq_true.mp h
  rw [of_decide_eq_true e]
  exact hy
/-- what a text is followed by -/
def End (r : List Nat) : Prop := r = [] ∨ r.head? = some 44 ∨ r.head? = some 41 ∨ r.head? = some 93
def isFig (c : Nat) : Bool := decide (c = 45) || (decide (48 ≤ c) && decide (c ≤ 57))
theorem int_figs (n : Int) : ∀ c ∈ sh (.int n), isFig c = true := by
  intro c hc
  rw [sh_int] at hc
  rcases List.mem_append.mp hc with h | h
  · split at h
    · rw [List.mem_singleton.mp h]
      rfl
    · cases h
  · obtain ⟨a, b⟩ := numL_digits n.natAbs c h
    simp [isFig, a, b]
theorem int_ne (n : Int) : sh (.int n) ≠ [] := by
  rw [sh_int]
  intro h
  exact numL_ne _ (List.append_eq_nil_iff.mp h).2
theorem int_inj {m n : Int} (h : sh (.int m) = sh (.int n)) : m = n := by
  rw [sh_int, sh_int] at h
  have no45 : ∀ k l, numL k ≠ 45 :: l := fun k l e => by
    have := numL_digits k 45 (by rw [e]; exact List.mem_cons_self)
    omega
  by_cases a : m < 0
  · by_cases b : n < 0
    · rw [if_pos a, if_pos b] at h
      have := numL_inj (List.append_cancel_left h)
      omega
    · rw [if_pos a, if_neg b] at h
      exact absurd h.symm (no45 _ _)
  · by_cases b : n < 0
    · rw [if_neg a, if_pos b] at h
      exact absurd h (no45 _ _)
    · rw [if_neg a, if_neg b] at h
      have := numL_inj h
      omega
theorem figs_cut : ∀ {a b r s : List Nat}, (∀ c ∈ a, isFig c = true) → (∀ c ∈ b, isFig c = true) → End r → End s → a ++ r = b ++ s → a = b ∧ r = s
  | [], [], r, s, _, _, _, _, h => ⟨rfl, h⟩
  | x :: a, [], r, s, ha, _, _, hs, h => by
    exfalso
    have h : x :: (a ++ r) = s := h
    have hx := ha x List.mem_cons_self
    rcases hs with e | e | e | e
    · rw [e] at h; cases h
    all_goals
      rw [← h] at e
      have e : x = _ := Option.some.inj e
      rw [e] at hx
      exact absurd hx (by decide)
  | [], y :: b, r, s, _, hb, hr, _, h => by
    exfalso
    have h : r = y :: (b ++ s) := h
    have hx := hb y List.mem_cons_self
    rcases hr with e | e | e | e
    · rw [e] at h; cases h
    all_goals
      rw [h] at e
      have e : y = _ := Option.some.inj e
      rw [e] at hx
      exact absurd hx (by decide)
  | x :: a, y :: b, r, s, ha, hb, hr, hs, h => by
    have h : x :: (a ++ r) = y :: (b ++ s) := h
    obtain ⟨e1, e2⟩ := List.cons.inj h
    obtain ⟨e3, e4⟩ := figs_cut (fun c hc => ha c (List.mem_cons_of_mem _ hc)) (fun c hc => hb c (List.mem_cons_of_mem _ hc)) hr hs e2
    exact ⟨by rw [e1, e3], e4⟩
theorem quote_cut : ∀ {a b r s : List Nat}, 39 ∉ a → 39 ∉ b → a ++ 39 :: r = b ++ 39 :: s → a = b ∧ r = s
  | [], [], r, s, _, _, h => ⟨rfl, (List.cons.inj h).2⟩
  | x :: a, [], r, s, ha, _, h => absurd List.mem_cons_self (by rw [(List.cons.inj h).1] at ha; exact ha)
  | [], y :: b, r, s, _, hb, h => absurd List.mem_cons_self (by rw [← (List.cons.inj h).1] at hb; exact hb)
  | x :: a, y :: b, r, s, ha, hb, h => by
    obtain ⟨e1, e2⟩ := List.cons.inj h
    obtain ⟨e3, e4⟩ := quote_cut (fun c => ha (List.mem_cons_of_mem _ c)) (fun c => hb (List.mem_cons_of_mem _ c)) e2
    exact ⟨by rw [e1, e3], e4⟩
/-- the first sign of a text of data, as a class -/
def headK : PyData → Nat
  | .none => 78
  | .bool b => if b then 84 else 70
  | .int _ => 48
  | .str _ => 39
  | .list _ => 91
  | .tuple _ => 40
  | .dict _ => 123
def klass (c : Nat) : Nat := if isFig c = true then 48 else c
theorem head_of {d : PyData} (h : plainD d = true) : ∃ c t, sh d = c :: t ∧ klass c = headK d := by
  match d, h with
  | .none, _ => exact ⟨_, _, sh_none, rfl⟩
  | .bool true, _ => exact ⟨_, _, sh_true, rfl⟩
  | .bool false, _ => exact ⟨_, _, sh_false, rfl⟩
  | .int n, _ =>
    cases e : sh (.int n) with
    | nil => exact absurd e (int_ne n)
    | cons c t => exact ⟨c, t, rfl, by unfold klass; rw [if_pos (int_figs n c (by rw [e]; exact List.mem_cons_self))]; rfl⟩
  | .str x, h => exact ⟨_, _, (sh_text x (txt_ok h)).1, rfl⟩
  | .list ds, _ => exact ⟨_, _, sh_list ds, rfl⟩
  | .tuple ds, _ => exact ⟨_, _, sh_tuple ds, rfl⟩
theorem same_head {d e : PyData} (hd : plainD d = true) (he : plainD e = true) {r s : List Nat} (h : sh d ++ r = sh e ++ s) : headK d = headK e := by
  obtain ⟨c, t, e1, k1⟩ := head_of hd
  obtain ⟨c', t', e2, k2⟩ := head_of he
  rw [e1, e2] at h
  rw [← k1, ← k2, (List.cons.inj h).1]
theorem ne_end {d : PyData} (hd : plainD d = true) {t r : List Nat} (hr : r.head? = some 44 ∨ r.head? = some 41 ∨ r.head? = some 93) (h : sh d ++ t = r) : False := by
  obtain ⟨c, u, e1, k1⟩ := head_of hd
  rw [e1] at h
  rw [← h] at hr
  have k : ∀ c', c = c' → headK d = klass c' := fun c' e => by rw [← k1, e]
  rcases hr with e | e | e
  all_goals
    have e := k _ (Option.some.inj e)
    cases d <;> simp [headK, klass, isFig] at e
    try (split at e <;> simp at e)
/-- the end of a display -/
def Term (r : List Nat) : Prop := (∃ t, r = 44 :: 41 :: t) ∨ r.head? = some 41 ∨ r.head? = some 93
theorem Term.end_ {r : List Nat} (h : Term r) : End r := by
  rcases h with ⟨t, e⟩ | h | h
  · exact .inr (.inl (by rw [e]; rfl))
  · exact .inr (.inr (.inl h))
  · exact .inr (.inr (.inr h))
theorem Term.some_ {r : List Nat} (h : Term r) : r.head? = some 44 ∨ r.head? = some 41 ∨ r.head? = some 93 := by
  rcases h with ⟨t, e⟩ | h | h
  · exact .inl (by rw [e]; rfl)
  · exact .inr (.inl h)
  · exact .inr (.inr h)
theorem Term.not_sep {r t : List Nat} (h : Term r) : r ≠ [44, 32] ++ t := by
  intro e
  rcases h with ⟨u, q⟩ | h | h
  · rw [e] at q
    have := (List.cons.inj (List.cons.inj q).2).1
    omega
  · rw [e] at h
    cases h
  · rw [e] at h
    cases h
theorem shs_cons (x y : PyData) (r : List PyData) : shs (x :: y :: r) = sh x ++ ([44, 32] ++ shs (y :: r)) := rfl
theorem shs_one (x : PyData) : shs [x] = sh x := rfl
theorem term_tuple (n : Nat) (r : List Nat) : Term ((if n = 1 then [44, 41] else [41]) ++ r) := by
  split
  · exact .inl ⟨r, rfl⟩
  · exact .inr (.inl rfl)
mutual
theorem inj : ∀ (d e : PyData) (r s : List Nat), plainD d = true → plainD e = true → End r → End s → sh d ++ r = sh e ++ s → d = e ∧ r = s
  | .none, e, r, s, hd, he, hr, hs, h => by
    have hk := same_head hd he h
    match e, he, hk with
    | .none, _, _ => exact ⟨rfl, List.append_cancel_left h⟩
    | .bool true, _, hk => cases hk
    | .bool false, _, hk => cases hk
  | .bool b, e, r, s, hd, he, hr, hs, h => by
    have hk := same_head hd he h
    match b, e, he, hk with
    | true, .bool true, _, _ => exact ⟨rfl, List.append_cancel_left h⟩
    | false, .bool false, _, _ => exact ⟨rfl, List.append_cancel_left h⟩
    | true, .bool false, _, hk => cases hk
    | false, .bool true, _, hk => cases hk
    | true, .none, _, hk => cases hk
    | false, .none, _, hk => cases hk
    | true, .int _, _, hk => cases hk
    | false, .int _, _, hk => cases hk
    | true, .str _, _, hk => cases hk
    | false, .str _, _, hk => cases hk
    | true, .list _, _, hk => cases hk
    | false, .list _, _, hk => cases hk
    | true, .tuple _, _, hk => cases hk
    | false, .tuple _, _, hk => cases hk
    | true, .dict _, _, hk => cases hk
    | false, .dict _, _, hk => cases hk
  | .int m, e, r, s, hd, he, hr, hs, h => by
    have hk := same_head hd he h
    match e, he, hk with
    | .int n, _, _ =>
      obtain ⟨a, b⟩ := figs_cut (int_figs m) (int_figs n) hr hs h
      exact ⟨by rw [int_inj a], b⟩
    | .bool true, _, hk => cases hk
    | .bool false, _, hk => cases hk
  | .str x, e, r, s, hd, he, hr, hs, h => by
    have hk := same_head hd he h
    match e, he, hk with
    | .str y, he, _ =>
      obtain ⟨a1, a2⟩ := sh_text x (txt_ok hd)
      obtain ⟨b1, b2⟩ := sh_text y (txt_ok he)
      rw [a1, b1] at h
      have h : 39 :: (tl x ++ [39] ++ r) = 39 :: (tl y ++ [39] ++ s) := h
      have h := (List.cons.inj h).2
      rw [List.append_assoc, List.append_assoc] at h
      obtain ⟨c1, c2⟩ := quote_cut a2 b2 h
      exact ⟨by rw [ext_tl c1], c2⟩
    | .bool true, _, hk => cases hk
    | .bool false, _, hk => cases hk
  | .list xs, e, r, s, hd, he, hr, hs, h => by
    have hk := same_head hd he h
    match e, he, hk with
    | .list ys, he, _ =>
      rw [sh_list, sh_list] at h
      have h : 91 :: (shs xs ++ [93] ++ r) = 91 :: (shs ys ++ [93] ++ s) := h
      have h := (List.cons.inj h).2
      rw [List.append_assoc, List.append_assoc] at h
      obtain ⟨c1, c2⟩ := injAll xs ys _ _ (by rw [plainD] at hd; exact hd) (by rw [plainD] at he; exact he) (.inr (.inr rfl)) (.inr (.inr rfl)) h
      exact ⟨by rw [c1], (List.cons.inj c2).2⟩
    | .bool true, _, hk => cases hk
    | .bool false, _, hk => cases hk
  | .tuple xs, e, r, s, hd, he, hr, hs, h => by
    have hk := same_head hd he h
    match e, he, hk with
    | .tuple ys, he, _ =>
      rw [sh_tuple, sh_tuple] at h
      have h := (List.cons.inj (show 40 :: (shs xs ++ (if xs.length = 1 then [44, 41] else [41]) ++ r) = 40 :: (shs ys ++ (if ys.length = 1 then [44, 41] else [41]) ++ s) from h)).2
      rw [List.append_assoc, List.append_assoc] at h
      obtain ⟨c1, c2⟩ := injAll xs ys _ _ (by rw [plainD] at hd; exact hd) (by rw [plainD] at he; exact he) (term_tuple _ _) (term_tuple _ _) h
      rw [c1] at c2
      exact ⟨by rw [c1], List.append_cancel_left c2⟩
    | .bool true, _, hk => cases hk
    | .bool false, _, hk => cases hk
theorem injAll : ∀ (xs ys : List PyData) (r s : List Nat), plainAll xs = true → plainAll ys = true → Term r → Term s → shs xs ++ r = shs ys ++ s → xs = ys ∧ r = s
  | [], [], r, s, _, _, _, _, h => ⟨rfl, h⟩
  | [], y :: ys, r, s, _, hy, hr, hs, h => by
    rw [plainAll, Bool.and_eq_true] at hy
    exfalso
    cases ys with
    | nil => exact ne_end (t := s) hy.1 hr.some_ h.symm
    | cons z zs => exact ne_end (t := [44, 32] ++ shs (z :: zs) ++ s) hy.1 hr.some_ (by rw [shs_cons] at h; rw [← List.append_assoc]; exact h.symm)
  | x :: xs, [], r, s, hx, _, hr, hs, h => by
    rw [plainAll, Bool.and_eq_true] at hx
    exfalso
    cases xs with
    | nil => exact ne_end (t := r) hx.1 hs.some_ h
    | cons z zs => exact ne_end (t := [44, 32] ++ shs (z :: zs) ++ r) hx.1 hs.some_ (by rw [shs_cons] at h; rw [← List.append_assoc]; exact h)
  | [x], [y], r, s, hx, hy, hr, hs, h => by
    rw [plainAll, Bool.and_eq_true] at hx hy
    obtain ⟨a, b⟩ := inj x y r s hx.1 hy.1 hr.end_ hs.end_ h
    exact ⟨by rw [a], b⟩
  | [x], y :: y2 :: ys, r, s, hx, hy, hr, hs, h => by
    rw [plainAll, Bool.and_eq_true] at hx hy
    exfalso
    rw [shs_cons, shs_one, List.append_assoc] at h
    obtain ⟨a, b⟩ := inj x y r ([44, 32] ++ shs (y2 :: ys) ++ s) hx.1 hy.1 hr.end_ (.inr (.inl rfl)) h
    rw [List.append_assoc] at b
    exact hr.not_sep b
  | x :: x2 :: xs, [y], r, s, hx, hy, hr, hs, h => by
    rw [plainAll, Bool.and_eq_true] at hx hy
    exfalso
    rw [shs_cons, shs_one, List.append_assoc] at h
    obtain ⟨a, b⟩ := inj x y ([44, 32] ++ shs (x2 :: xs) ++ r) s hx.1 hy.1 (.inr (.inl rfl)) hs.end_ h
    rw [List.append_assoc] at b
    exact hs.not_sep b.symm
  | x :: x2 :: xs, y :: y2 :: ys, r, s, hx, hy, hr, hs, h => by
    rw [plainAll, Bool.and_eq_true] at hx hy
    rw [shs_cons, shs_cons] at h
    have h : sh x ++ ([44, 32] ++ shs (x2 :: xs) ++ r) = sh y ++ ([44, 32] ++ shs (y2 :: ys) ++ s) := by
      simpa only [List.append_assoc] using h
    obtain ⟨a, b⟩ := inj x y ([44, 32] ++ shs (x2 :: xs) ++ r) ([44, 32] ++ shs (y2 :: ys) ++ s) hx.1 hy.1 (.inr (.inl rfl)) (.inr (.inl rfl)) h
    rw [List.append_assoc, List.append_assoc] at b
    obtain ⟨c1, c2⟩ := injAll (x2 :: xs) (y2 :: ys) r s hx.2 hy.2 hr hs (List.append_cancel_left b)
    exact ⟨by rw [a, c1], c2⟩
end
theorem shown_inj {d e : PyData} (hd : plainD d = true) (he : plainD e = true) (h : d.shown = e.shown) : d = e := by
  have h2 : sh d ++ [] = sh e ++ [] := by unfold sh; rw [h]
  exact (inj d e [] [] hd he (.inl rfl) (.inl rfl) h2).1
end G

set_option Elab.async false
set_option linter.all false
set_option maxRecDepth 100000
set_option maxHeartbeats 4000000
/-! a tuple times 0 or 1 -/
namespace G
open PySem PySem.Spec PyProof.Rows L2
abbrev tupObj (dd : Option Addr) (its : Array Value) (n : Nat) (sl : Array (Option Value)) : Obj := ⟨.type "tuple", dd, .seq its n, sl⟩
theorem mul_one (l : Addr) (its : Array Value) (n : Nat) (dd : Option Addr) (sl : Array (Option Value)) (u : Tok) :
    Meets (Builtin.«tuple.__mul__» ⟨[.ref l, .int 1 u], []⟩) (fun _ R s => s.heap.get? l = some (tupObj dd its n sl) ∧ R (.ok (.ret (Value.ref l))) s) :=
  .of_wp fun prog w A R s h => by
    obtain ⟨hp, g, d, tk, os⟩ := s
    obtain ⟨hl, h⟩ := h
    have f1 := AutoSeq1.idx_int
    have c1 : (its.isEmpty || (1 : Int) == 1) = true := by rw [Bool.or_eq_true]; exact .inr rfl
    wp_walk using wpAny_loadPart' hl
    exact ⟨_, rfl, h⟩
theorem mul_none (l : Addr) (its : Array Value) (n : Nat) (dd : Option Addr) (sl : Array (Option Value)) (u : Tok) (ne : its.isEmpty = false) :
    Meets (Builtin.«tuple.__mul__» ⟨[.ref l, .int 0 u], []⟩) (fun _ R s => s.heap.get? l = some (tupObj dd its n sl) ∧
      R (.ok (.ret (Value.ref s.heap.objs.size))) { s with heap := s.heap.push { cls := .type "tuple", data := .seq #[] }, toks := s.toks }) :=
  .of_wp fun prog w A R s h => by
    obtain ⟨hp, g, d, tk, os⟩ := s
    obtain ⟨hl, h⟩ := h
    have f1 := AutoSeq1.idx_int
    have c1 : ¬ ((its.isEmpty || (0 : Int) == 1) = true) := by rw [ne]; decide
    wp_walk using wpAny_loadPart' hl
    exact ⟨_, rfl, h⟩
/-- tuple * k, k from 0 on -/
def rRepN (K : PySem.W.Frag) : R2 := fun x y H Q => ∃ l k xs, x = .ref l ∧ y = .int k ∧ SqT K H l xs ∧ xs ≠ [] ∧ xs.length ≤ 1000 ∧ 0 ≤ k ∧ k ≤ 1000 ∧ (k = 1 → Q (.ref l) H) ∧
  (k ≠ 1 → ∀ p, H p = none → Q (.ref p) (upd H p (.tup (List.replicate k.toNat xs).flatten)))
theorem op_repN {X : Cx} : OpR X (binaryOp .Mult) (rRepN X.K) := by
  intro pins s σ H x y v u Q I rx ry h
  obtain ⟨l, k, xs, hx, hy, hT, hne, hz, k0, k9, q1, q2⟩ := h
  by_cases two : 2 ≤ k
  · exact op_repT pins s σ H x y v u Q I rx ry ⟨l, k, xs, hx, hy, hT, hne, two, k9, hz, q2 (by omega)⟩
  subst hx hy
  cases rx
  obtain ⟨t, rfl⟩ := ry
  obtain ⟨its, r, ⟨⟨cl, dic, dta, slts⟩, ho, hc, n, hd⟩, _⟩ := I.tuple hT
  simp only at hc hd
  subst hc hd
  have ne : its.toArray.isEmpty = false := by
    have := r.length
    cases its with
    | nil => exact absurd (List.eq_nil_of_length_eq_zero this) hne
    | cons a b => rfl
  have kk : k = 0 ∨ k = 1 := by omega
  rcases kk with rfl | rfl
  · refine wpAny_binaryOp_repeat_ref (T := "tuple") (U := "int") (by decide) ⟨_, ho, rfl⟩ (fun s' => typeIs_int s' _ t) noFill_tuple_mul F.fills_int_mul F.slot_int_rmul repeat_tuple F.slot_int_index.lookup ?_
    refine call_meets F.slot_int_rmul (typeIs_int s 0 t) F.entry_int_rmul (F.args_int_rmul_2 _ _) (int_rmul_tuple 0 t l its.toArray n dic slts) ⟨ho, rfl, ⟨_, ho, rfl⟩, ?_⟩
    refine call_meets F.slot_tuple_mul ⟨_, ho, rfl⟩ F.entry_tuple_mul (F.args_tuple_mul_2 _ _) (mul_none l its.toArray n dic slts t ne) ⟨ho, ?_⟩
    refine ⟨.ref s.heap.objs.size, _, I.laid (t' := s.toks) (o := .tup []) (fun b ob q => Heap.get?_push_of_some _ q) (Nat.le_refl _) ?_, rfl, q2 (by decide) _ (I.hok.fresh (Nat.le_refl _))⟩
    exact ⟨Nat.zero_le _, [], .nil, IsTup.new _ _⟩
  · refine wpAny_binaryOp_repeat_ref (T := "tuple") (U := "int") (by decide) ⟨_, ho, rfl⟩ (fun s' => typeIs_int s' _ t) noFill_tuple_mul F.fills_int_mul F.slot_int_rmul repeat_tuple F.slot_int_index.lookup ?_
    refine call_meets F.slot_int_rmul (typeIs_int s 1 t) F.entry_int_rmul (F.args_int_rmul_2 _ _) (int_rmul_tuple 1 t l its.toArray n dic slts) ⟨ho, rfl, ⟨_, ho, rfl⟩, ?_⟩
    exact call_meets F.slot_tuple_mul ⟨_, ho, rfl⟩ F.entry_tuple_mul (F.args_tuple_mul_2 _ _) (mul_one l its.toArray n dic slts t) ⟨ho, ⟨.ref l, H, I, rfl, q1 rfl⟩⟩
end G

set_option Elab.async false
set_option linter.all false
set_option maxRecDepth 100000
set_option maxHeartbeats 2000000
namespace G
open PySem PySem.Spec PyProof.Rows L2
def top (i : Nat) : Stmt := PySem.Challenge.pw_fingerbooks_k38_whole_places_judged.main.body.getD i (.Pass ⟨0, 0, 0, 0⟩)
abbrev s_is_integer : Stmt := top 7
abbrev N_is_integer : List Str := ["value"]
theorem sc_is_integer : FnScope N_is_integer ["value"] (defScope s_is_integer) := ⟨rfl, rfl, rfl, by decide +kernel, rfl, by decide +kernel, by decide +kernel⟩
abbrev s_is_within : Stmt := top 8
abbrev N_is_within : List Str := ["value", "least", "greatest"]
theorem sc_is_within : FnScope N_is_within ["value", "least", "greatest"] (defScope s_is_within) := ⟨rfl, rfl, rfl, by decide +kernel, rfl, by decide +kernel, by decide +kernel⟩
abbrev s_is_pair : Stmt := top 12
abbrev N_is_pair : List Str := ["value"]
theorem sc_is_pair : FnScope N_is_pair ["value"] (defScope s_is_pair) := ⟨rfl, rfl, rfl, by decide +kernel, rfl, by decide +kernel, by decide +kernel⟩
abbrev s_is_pair_within : Stmt := top 13
abbrev N_is_pair_within : List Str := ["value", "least", "greatest"]
theorem sc_is_pair_within : FnScope N_is_pair_within ["value", "least", "greatest"] (defScope s_is_pair_within) := ⟨rfl, rfl, rfl, by decide +kernel, rfl, by decide +kernel, by decide +kernel⟩
abbrev s_is_form : Stmt := top 14
abbrev N_is_form : List Str := ["value"]
theorem sc_is_form : FnScope N_is_form ["value"] (defScope s_is_form) := ⟨rfl, rfl, rfl, by decide +kernel, rfl, by decide +kernel, by decide +kernel⟩
abbrev s_are_forms : Stmt := top 15
abbrev N_are_forms : List Str := ["value", "form"]
theorem sc_are_forms : FnScope N_are_forms ["value"] (defScope s_are_forms) := ⟨rfl, rfl, rfl, by decide +kernel, rfl, by decide +kernel, by decide +kernel⟩
abbrev s_is_row : Stmt := top 16
abbrev N_is_row : List Str := ["value"]
theorem sc_is_row : FnScope N_is_row ["value"] (defScope s_is_row) := ⟨rfl, rfl, rfl, by decide +kernel, rfl, by decide +kernel, by decide +kernel⟩
abbrev s_check_row : Stmt := top 17
abbrev N_check_row : List Str := ["row"]
theorem sc_check_row : FnScope N_check_row ["row"] (defScope s_check_row) := ⟨rfl, rfl, rfl, by decide +kernel, rfl, by decide +kernel, by decide +kernel⟩
abbrev s_check_arity : Stmt := top 18
abbrev N_check_arity : List Str := ["arity"]
theorem sc_check_arity : FnScope N_check_arity ["arity"] (defScope s_check_arity) := ⟨rfl, rfl, rfl, by decide +kernel, rfl, by decide +kernel, by decide +kernel⟩
abbrev s_length_of : Stmt := top 19
abbrev N_length_of : List Str := ["arity", "row", "left", "right"]
theorem sc_length_of : FnScope N_length_of ["arity", "row"] (defScope s_length_of) := ⟨rfl, rfl, rfl, by decide +kernel, rfl, by decide +kernel, by decide +kernel⟩
abbrev s_sides_of : Stmt := top 20
abbrev N_sides_of : List Str := ["arity", "row"]
theorem sc_sides_of : FnScope N_sides_of ["arity", "row"] (defScope s_sides_of) := ⟨rfl, rfl, rfl, by decide +kernel, rfl, by decide +kernel, by decide +kernel⟩
abbrev s_sums_of : Stmt := top 21
abbrev N_sums_of : List Str := ["arity", "row", "left_sum", "right_sum", "left", "right"]
theorem sc_sums_of : FnScope N_sums_of ["arity", "row"] (defScope s_sums_of) := ⟨rfl, rfl, rfl, by decide +kernel, rfl, by decide +kernel, by decide +kernel⟩
abbrev s__place_at : Stmt := top 24
abbrev N__place_at : List Str := ["arity", "row", "number", "level", "side", "begin", "_", "index", "path", "span"]
theorem sc__place_at : FnScope N__place_at ["arity", "row", "number"] (defScope s__place_at) := ⟨rfl, rfl, rfl, by decide +kernel, rfl, by decide +kernel, by decide +kernel⟩
abbrev s_number_of : Stmt := top 25
abbrev N_number_of : List Str := ["arity", "row", "place", "level", "side", "index", "path", "part", "begins", "span"]
theorem sc_number_of : FnScope N_number_of ["arity", "row", "place"] (defScope s_number_of) := ⟨rfl, rfl, rfl, by decide +kernel, rfl, by decide +kernel, by decide +kernel⟩
abbrev s_is_place : Stmt := top 26
abbrev N_is_place : List Str := ["arity", "row", "value", "level", "side", "index", "path", "part"]
theorem sc_is_place : FnScope N_is_place ["arity", "row", "value"] (defScope s_is_place) := ⟨rfl, rfl, rfl, by decide +kernel, rfl, by decide +kernel, by decide +kernel⟩
abbrev s__spans : Stmt := top 27
abbrev N__spans : List Str := ["arity", "row", "sizes", "weight", "level", "left", "right", "found", "begin", "side", "size"]
theorem sc__spans : FnScope N__spans ["arity", "row"] (defScope s__spans) := ⟨rfl, rfl, rfl, by decide +kernel, rfl, by decide +kernel, by decide +kernel⟩
abbrev s_beside : Stmt := top 28
abbrev N_beside : List Str := ["arity", "row", "place", "number", "ahead", "behind"]
theorem sc_beside : FnScope N_beside ["arity", "row", "place"] (defScope s_beside) := ⟨rfl, rfl, rfl, by decide +kernel, rfl, by decide +kernel, by decide +kernel⟩
abbrev s__law_dice : Stmt := top 30
abbrev N__law_dice : List Str := ["_law_script", "_law_spot", "_law_cell", "_law_left"]
theorem sc__law_dice : FnScope N__law_dice ["_law_script", "_law_spot"] (defScope s__law_dice) := ⟨rfl, rfl, rfl, by decide +kernel, rfl, by decide +kernel, by decide +kernel⟩
abbrev s__law_roll : Stmt := top 31
abbrev N__law_roll : List Str := ["_law_dice_here", "_law_total", "_law_found", "_law_one", "_law_two"]
theorem sc__law_roll : FnScope N__law_roll ["_law_dice_here", "_law_total"] (defScope s__law_roll) := ⟨rfl, rfl, rfl, by decide +kernel, rfl, by decide +kernel, by decide +kernel⟩
abbrev s__law_pick : Stmt := top 32
abbrev N__law_pick : List Str := ["_law_dice_here", "_law_items"]
theorem sc__law_pick : FnScope N__law_pick ["_law_dice_here", "_law_items"] (defScope s__law_pick) := ⟨rfl, rfl, rfl, by decide +kernel, rfl, by decide +kernel, by decide +kernel⟩
abbrev s__law_mixed : Stmt := top 33
abbrev N__law_mixed : List Str := ["_law_dice_here", "_law_items", "_law_left", "_law_found", "_law_turn"]
theorem sc__law_mixed : FnScope N__law_mixed ["_law_dice_here", "_law_items"] (defScope s__law_mixed) := ⟨rfl, rfl, rfl, by decide +kernel, rfl, by decide +kernel, by decide +kernel⟩
abbrev s__law_cut : Stmt := top 34
abbrev N__law_cut : List Str := ["_law_forms", "_law_found"]
theorem sc__law_cut : FnScope N__law_cut ["_law_forms"] (defScope s__law_cut) := ⟨rfl, rfl, rfl, by decide +kernel, rfl, by decide +kernel, by decide +kernel⟩
abbrev s__law_some_form : Stmt := top 35
abbrev N__law_some_form : List Str := ["_law_dice_here", "_law_high"]
theorem sc__law_some_form : FnScope N__law_some_form ["_law_dice_here", "_law_high"] (defScope s__law_some_form) := ⟨rfl, rfl, rfl, by decide +kernel, rfl, by decide +kernel, by decide +kernel⟩
abbrev s__law_some_row : Stmt := top 36
abbrev N__law_some_row : List Str := ["_law_dice_here", "_law_levels", "_law_high", "_law_forms", "_law_turn", "_law_form"]
theorem sc__law_some_row : FnScope N__law_some_row ["_law_dice_here", "_law_levels", "_law_high"] (defScope s__law_some_row) := ⟨rfl, rfl, rfl, by decide +kernel, rfl, by decide +kernel, by decide +kernel⟩
abbrev s__law_paths : Stmt := top 37
abbrev N__law_paths : List Str := ["_law_arity", "_law_level", "_law_found", "_law_turn"]
theorem sc__law_paths : FnScope N__law_paths ["_law_arity", "_law_level"] (defScope s__law_paths) := ⟨rfl, rfl, rfl, by decide +kernel, rfl, by decide +kernel, by decide +kernel⟩
abbrev s__law_longer : Stmt := top 38
abbrev N__law_longer : List Str := ["_law_paths_here", "_law_arity", "_law_found", "_law_path", "_law_part"]
theorem sc__law_longer : FnScope N__law_longer ["_law_paths_here", "_law_arity"] (defScope s__law_longer) := ⟨rfl, rfl, rfl, by decide +kernel, rfl, by decide +kernel, by decide +kernel⟩
abbrev s__law_side_places : Stmt := top 39
abbrev N__law_side_places : List Str := ["_law_arity", "_law_level", "_law_side", "_law_many", "_law_found", "_law_index", "_law_path"]
theorem sc__law_side_places : FnScope N__law_side_places ["_law_arity", "_law_level", "_law_side", "_law_many"] (defScope s__law_side_places) := ⟨rfl, rfl, rfl, by decide +kernel, rfl, by decide +kernel, by decide +kernel⟩
abbrev s__law_all_places : Stmt := top 40
abbrev N__law_all_places : List Str := ["_law_arity", "_law_row", "_law_found", "_law_level"]
theorem sc__law_all_places : FnScope N__law_all_places ["_law_arity", "_law_row"] (defScope s__law_all_places) := ⟨rfl, rfl, rfl, by decide +kernel, rfl, by decide +kernel, by decide +kernel⟩
abbrev s__law_bent : Stmt := top 41
abbrev N__law_bent : List Str := ["_law_dice_here", "_law_place", "_law_level", "_law_side", "_law_index", "_law_path", "_law_way", "_law_by", "_law_at", "_law_some"]
theorem sc__law_bent : FnScope N__law_bent ["_law_dice_here", "_law_place"] (defScope s__law_bent) := ⟨rfl, rfl, rfl, by decide +kernel, rfl, by decide +kernel, by decide +kernel⟩
abbrev s__law_is_refused : Stmt := top 42
abbrev N__law_is_refused : List Str := ["_law_call"]
theorem sc__law_is_refused : FnScope N__law_is_refused ["_law_call"] (defScope s__law_is_refused) := ⟨rfl, rfl, rfl, by decide +kernel, rfl, by decide +kernel, by decide +kernel⟩
abbrev s__law_is_listed : Stmt := top 43
abbrev N__law_is_listed : List Str := ["_law_places", "_law_value", "_law_place"]
theorem sc__law_is_listed : FnScope N__law_is_listed ["_law_places", "_law_value"] (defScope s__law_is_listed) := ⟨rfl, rfl, rfl, by decide +kernel, rfl, by decide +kernel, by decide +kernel⟩
abbrev s__law_right : Stmt := top 44
abbrev N__law_right : List Str := ["_law_dice_here", "_law_arity", "_law_places", "_law_other", "_law_place", "_law_due", "_law_bent_here", "_law_odd", "_law_row"]
theorem sc__law_right : FnScope N__law_right ["_law_dice_here", "_law_arity"] (defScope s__law_right) := ⟨rfl, rfl, rfl, by decide +kernel, rfl, by decide +kernel, by decide +kernel⟩
abbrev s_law : Stmt := top 45
abbrev N_law : List Str := ["_law_script", "_law_spot", "_law_dice_here", "_law_arity"]
theorem sc_law : FnScope N_law ["_law_script"] (defScope s_law) := ⟨rfl, rfl, rfl, by decide +kernel, rfl, by decide +kernel, by decide +kernel⟩
structure Txt (K : PySem.W.Frag) (mg : Str → Option Value) : Prop where
  isinstance : mg "isinstance" = none
  int : mg "int" = none
  bool : mg "bool" = none
  tuple : mg "tuple" = none
  list : mg "list" = none
  len : mg "len" = none
  max : mg "max" = none
  min : mg "min" = none
  abs : mg "abs" = none
  all : mg "all" = none
  range : mg "range" = none
  repr : mg "repr" = none
  enumerate : mg "enumerate" = none
  g_TOO_GREAT : ∃ u, mg "_TOO_GREAT" = some u ∧ RelV (.int BIG) u
  gMAX_SIDE : ∃ u, mg "MAX_SIDE" = some u ∧ RelV (.int 7) u
  gMAX_LEVELS : ∃ u, mg "MAX_LEVELS" = some u ∧ RelV (.int 200) u
/-! ## the dice -/
section
variable {P : Program} {w : World} {K : PySem.W.Frag} {mg : Str → Option Value} {base : Heap}
theorem c_dice (T : Txt K mg) (D : DefAt K mg "_law_dice" s__law_dice ["_law_script", "_law_spot"]) : CalG P w K mg base 1 "_law_dice" ["_law_script", "_law_spot"] (spDice K) := by
  refine calOk D sc__law_dice (fun xs H Q E h => ?_) (fun f cdv A out s H xs Q E hgd hr h => ?_)
  · obtain ⟨a, ns, i, rfl, _⟩ := h
    rfl
  · obtain ⟨a, ns, i, rfl, hS, hz, k⟩ := h
    have nd := sc__law_dice.nd
    refine ⟨_, (pss_cons (ps_set (i := 2) nd rfl (.inl rfl) (pe_ifExp (pt_cmpR op_lt (pv 1) (pe_callB call_len_seq (by rfl) T.len (by decide +kernel) (pa_cons (pv 0) pa_nil)) (nomark _)) (pe_callTy call_int1 (by rfl) T.int (by decide +kernel) (pa_cons (pe_ix ix_list (pv 0) (pv 1) (fun _ _ => rfl)) pa_nil)) (pe_op op_add (pe_op op_mul pe_int (pv 1)) pe_int)))
      (pss_cons (ps_set (i := 3) nd rfl (.inl rfl) (pe_op op_mod (pe_callB (call_max2 rfl) (by rfl) T.max (by decide +kernel) (pa_cons pe_int (pa_cons (pe_op op_sub (pe_callB call_abs (by rfl) T.abs (by decide +kernel) (pa_cons (pv 2) pa_nil)) (pe_op op_pow pe_int pe_int)) pa_nil))) (pe_op op_mulW (pe_op op_pow pe_int pe_int) (pe_op op_pow pe_int pe_int))))
      (pss_one (ps_ret (pe_lst (pa_cons (pv 3) (pa_cons (pe_op op_add (pe_op op_add (pe_op op_add (pe_op op_mul (pe_op op_mod (pe_callB call_abs (by rfl) T.abs (by decide +kernel) (pa_cons (pv 2) pa_nil)) pe_int) pe_int) (pe_op op_mul pe_int (pv 1))) (pe_op op_mul pe_int (pe_callTy call_int1 (by rfl) T.int (by decide +kernel) (pa_cons (pe_cmpR op_lt (pv 2) pe_int (nomark _)) pa_nil)))) pe_int) (pa_cons pe_int pa_nil)))))))), ?_⟩
    refine ⟨_, rfl, _, rfl, _, _, rfl, .inl hS, _, _, rfl, rfl, _, rfl, ite2 (fun hi => ?_) (fun hi => ?_)⟩
    · have hlt : i < ns.length := by
        have := of_decide_eq_true hi
        rw [List.length_map] at this
        omega
      have hat : (ns.map V.int)[i]? = some (.int ns[i]) := by
        rw [List.getElem?_map, List.getElem?_eq_getElem hlt]
        rfl
      refine ⟨_, rfl, _, rfl, _, _, _, _, rfl, rfl, hS, atI_nat hat, .inl ⟨_, rfl, ?_⟩⟩
      refine ⟨_, rfl, _, rfl, _, _, rfl, rfl, ⟨by decide, by decide, by decide⟩, _, _, rfl, rfl, _, _, rfl, _, _, rfl, rfl, ⟨by decide, by decide, by decide⟩, _, _, rfl, rfl, ⟨by decide, by decide, by decide⟩, _, _, rfl, rfl, mul60, _, _, rfl, rfl, pos60, ?_⟩
      refine ⟨_, rfl, _, rfl, _, rfl, _, _, rfl, rfl, (by show (0 : Int) < 1152921504606846961; decide), _, _, rfl, rfl, .inr ⟨by decide, by decide⟩, _, rfl, _, _, rfl, rfl, .inl ⟨by decide, by decide⟩, _, _, rfl, rfl, _, rfl, _, _, rfl, rfl, .inr ⟨_, rfl, _, _, rfl, rfl, .inl ⟨by decide, by decide⟩, _, _, rfl, rfl, _, _, rfl, rfl, (by show 3 ≤ sizeLine; decide), fun p1 n1 => ?_⟩⟩
      exact k _ _ _ _ n1
    · refine ⟨_, rfl, _, _, rfl, rfl, .inl ⟨by decide, by decide⟩, _, _, rfl, rfl, ?_⟩
      refine ⟨_, rfl, _, rfl, _, _, rfl, rfl, ⟨by decide, by decide, by decide⟩, _, _, rfl, rfl, _, _, rfl, _, _, rfl, rfl, ⟨by decide, by decide, by decide⟩, _, _, rfl, rfl, ⟨by decide, by decide, by decide⟩, _, _, rfl, rfl, mul60, _, _, rfl, rfl, pos60, ?_⟩
      refine ⟨_, rfl, _, rfl, _, rfl, _, _, rfl, rfl, (by show (0 : Int) < 1152921504606846961; decide), _, _, rfl, rfl, .inr ⟨by decide, by decide⟩, _, rfl, _, _, rfl, rfl, .inl ⟨by decide, by decide⟩, _, _, rfl, rfl, _, rfl, _, _, rfl, rfl, .inr ⟨_, rfl, _, _, rfl, rfl, .inl ⟨by decide, by decide⟩, _, _, rfl, rfl, _, _, rfl, rfl, (by show 3 ≤ sizeLine; decide), fun p1 n1 => ?_⟩⟩
      exact k _ _ _ _ n1
theorem c_roll (T : Txt K mg) (D : DefAt K mg "_law_roll" s__law_roll ["_law_dice_here", "_law_total"]) : CalG P w K mg base 1 "_law_roll" ["_law_dice_here", "_law_total"] spRoll := by
  refine calOk D sc__law_roll (fun xs H Q E h => ?_) (fun f cdv A out s H xs Q E hgd hr h => ?_)
  · obtain ⟨d, t, rfl, _⟩ := h
    rfl
  · obtain ⟨d, t, rfl, ⟨l, sd, c, hd⟩, ht, hlog, k⟩ := h
    have nd := sc__law_roll.nd
    have fr : ∀ (u : HO) (b : Addr), H b = none → upd H d u b = none := fun u b e => by
      rw [upd_ne (fun q => by rw [q, hd] at e; cases e)]
      exact e
    refine ⟨_, (pss_cons (ps_if (pt_cmpR op_gt (pe_ix ix_list (pv 0) pe_int (fun _ _ => rfl)) pe_int (nomark _)) (pss_cons (ps_set (i := 2) nd rfl (.inl rfl) (pe_op op_mod (pe_callTy call_int1 (by rfl) T.int (by decide +kernel) (pa_cons (pe_ix ix_list (pv 0) pe_int (fun _ _ => rfl)) pa_nil)) (pv 1)))
        (pss_cons (ps_asg (pe_op op_fdivW (pe_ix ix_list (pv 0) pe_int (fun _ _ => rfl)) (pv 1)) (pg_sub (pv 0) pe_int set_list))
        (pss_one (ps_ret (pv 2))))) pss_nil)
      (pss_cons (ps_asg (pe_op op_add (pe_ix ix_list (pv 0) pe_int (fun _ _ => rfl)) pe_int) (pg_sub (pv 0) pe_int set_list))
      (pss_cons (ps_set (i := 3) nd rfl (.inl rfl) (pe_op op_mod (pe_callTy call_int1 (by rfl) T.int (by decide +kernel) (pa_cons (pe_op op_add (pe_ix ix_list (pv 0) pe_int (fun _ _ => rfl)) (pe_op op_mul pe_int (pe_ix ix_list (pv 0) pe_int (fun _ _ => rfl)))) pa_nil)) pe_int))
      (pss_cons (ps_set (i := 4) nd rfl (.inl rfl) (pe_op op_add (pe_op op_mul (pe_op op_mod (pe_callTy call_int1 (by rfl) T.int (by decide +kernel) (pa_cons (pe_op op_add (pe_op op_mulW (pv 3) (pv 3)) (pe_op op_mul pe_int (pe_ix ix_list (pv 0) pe_int (fun _ _ => rfl)))) pa_nil)) pe_int) pe_int) (pv 3)))
      (pss_one (ps_ret (pe_op op_mod (pe_callTy call_int1 (by rfl) T.int (by decide +kernel) (pa_cons (pe_op op_fdivW (pv 4) pe_int) pa_nil)) (pv 1)))))))), ?_⟩
    refine ⟨_, rfl, _, _, _, _, rfl, rfl, SqL.of hd, atI_nat (j := 0) rfl, _, _, rfl, rfl, _, rfl, ite2 (fun hl => ?_) (fun hl => ?_)⟩
    · refine ⟨_, rfl, _, _, _, _, rfl, rfl, SqL.of hd, atI_nat (j := 0) rfl, .inl ⟨_, rfl, _, rfl, _, _, rfl, rfl, ht, ?_⟩⟩
      refine ⟨_, rfl, _, _, _, _, rfl, rfl, SqL.of hd, atI_nat (j := 0) rfl, _, rfl, _, _, rfl, rfl, ⟨ht, hlog⟩, _, rfl, _, _, _, 0, rfl, rfl, hd, rfl, ?_⟩
      refine ⟨_, rfl, ?_⟩
      exact k _ _ (Int.emod_nonneg _ (by omega)) (Int.emod_lt_of_pos _ ht) (Mv.refl ⟨l, sd, c, hd⟩).rolled (fr _)
    · refine ⟨_, rfl, _, _, _, _, rfl, rfl, SqL.of hd, atI_nat (j := 2) rfl, _, _, rfl, rfl, _, rfl, _, _, _, 2, rfl, rfl, hd, rfl, ?_⟩
      have h1 : upd H d (.lst [.int l, .int sd, .int (c + 1)]) d = some (.lst [.int l, .int sd, .int (c + 1)]) := upd_same
      refine ⟨_, rfl, _, _, _, _, rfl, rfl, SqL.of h1, atI_nat (j := 1) rfl, _, rfl, _, _, _, _, rfl, rfl, SqL.of h1, atI_nat (j := 2) rfl, _, _, rfl, rfl, .inl ⟨by decide, by decide⟩, _, _, rfl, rfl, .inl ⟨_, rfl, _, _, rfl, rfl, (by show (0 : Int) < 2305843009213693669; decide), ?_⟩⟩
      have hb := Int.emod_lt_of_pos (sd + 32452843 * (c + 1)) (show (0 : Int) < 2305843009213693669 by decide)
      have hn := Int.emod_nonneg (sd + 32452843 * (c + 1)) (show (2305843009213693669 : Int) ≠ 0 by decide)
      have hs : ((sd + 32452843 * (c + 1)) % 2305843009213693669).natAbs < 2 ^ 62 := by
        have e : (2 : Nat) ^ 62 = 4611686018427387904 := by decide
        omega
      refine ⟨_, rfl, _, rfl, _, _, rfl, rfl, wide_mul hs hs (by decide) (by decide) (by decide), _, rfl, _, _, _, _, rfl, rfl, SqL.of h1, atI_nat (j := 2) rfl, _, _, rfl, rfl, .inl ⟨by decide, by decide⟩, _, _, rfl, rfl, .inl ⟨_, rfl, _, _, rfl, rfl, (by show (0 : Int) < 1152921504606846869; decide), _, _, rfl, rfl, .inr ⟨by decide, by decide⟩, _, rfl, _, _, rfl, rfl, ?_⟩⟩
      refine ⟨_, rfl, _, _, rfl, rfl, ⟨by decide, by decide +kernel⟩, .inl ⟨_, rfl, _, rfl, _, _, rfl, rfl, ht, ?_⟩⟩
      exact k _ _ (Int.emod_nonneg _ (by omega)) (Int.emod_lt_of_pos _ ht) (Mv.refl ⟨l, sd, c, hd⟩).rolled (fr _)
theorem c_pick (T : Txt K mg) (C__law_roll : CalG P w K mg base 1 "_law_roll" ["_law_dice_here", "_law_total"] spRoll) (D : DefAt K mg "_law_pick" s__law_pick ["_law_dice_here", "_law_items"]) : CalG P w K mg base 2 "_law_pick" ["_law_dice_here", "_law_items"] (spPick K) := by
  refine calOk D sc__law_pick (fun xs H Q E h => ?_) (fun f cdv A out s H xs Q E hgd hr h => ?_)
  · obtain ⟨d, a, ys, rfl, _⟩ := h
    rfl
  · obtain ⟨d, a, ys, rfl, hd, hS, ne, h0, hz, k⟩ := h
    have nd := sc__law_pick.nd
    refine ⟨_, (pss_one (ps_ret (pe_ix ix_list (pv 1) (pe_k C__law_roll hgd hr (by decide) rfl (pa_cons (pv 0) (pa_cons (pe_callB call_len_seq (by rfl) T.len (by decide +kernel) (pa_cons (pv 1) pa_nil)) pa_nil))) (fun _ _ => rfl)))), ?_⟩
    have small : ((ys.length : Nat) : Int).natAbs.log2 < 9000 := by
      have e : ((ys.length : Nat) : Int).natAbs = ys.length := Int.natAbs_natCast _
      rw [e]
      exact Nat.lt_of_le_of_lt (Nat.log2_le_self _) (by omega)
    refine ⟨_, rfl, _, rfl, _, rfl, _, _, rfl, .inl hS, _, _, rfl, hd, (by omega), small, fun r1 H1 a1 b1 m1 f1 => ?_⟩
    obtain ⟨i, rfl⟩ : ∃ i : Nat, r1 = (i : Int) := ⟨r1.toNat, by omega⟩
    have hi : i < ys.length := by omega
    refine ⟨_, _, _, _, rfl, rfl, m1.sql ne hS, atI_nat (List.getElem?_eq_getElem hi), k _ _ _ (List.getElem?_eq_getElem hi) m1 f1⟩
end

/-! ## is_integer, is_pair, is_form, are_forms, is_row: judges over data -/
section
variable {gq : Bool} {P : Program} {w : World} {K : PySem.W.Frag} {mg : Str → Option Value} {base : Heap}
theorem c_is_integer (T : Txt K mg) (D : DefAt K mg "is_integer" s_is_integer ["value"]) : CalQ gq P w K mg base 1 "is_integer" ["value"] (spJ intB) := by
  refine calOkQ D sc_is_integer (fun xs H Q E h => ?_) (fun f cdv A out s H xs Q E hgd hr h => ?_)
  · obtain ⟨x, d, rfl, _⟩ := h
    rfl
  · obtain ⟨x, d, rfl, hx, k⟩ := h
    have nd := sc_is_integer.nd
    refine ⟨_, (pss_one (ps_ret (pe_and (pe_callB call_isi (by rfl) T.isinstance (by decide +kernel) (pa_cons (pv 0) (pa_cons (pe_ty "int" rfl T.int (by decide +kernel)) pa_nil))) (pe_and (pe_not (pe_callB call_isi (by rfl) T.isinstance (by decide +kernel) (pa_cons (pv 0) (pa_cons (pe_ty "bool" rfl T.bool (by decide +kernel)) pa_nil)))) (pe_one (pe_chain op_lt op_lt (pe_un un_neg (pe_gv rfl T.g_TOO_GREAT)) (pv 0) (pe_gv rfl T.g_TOO_GREAT))))))), ?_⟩
    cases hx with
    | int i =>
      have k' : Q (.bl (smallB i)) H := k H (Same.refl _)
      refine ⟨_, rfl, _, _, _, _, true, rfl, .ty _, .base (.int i), kit_ty (by decide +kernel), true, rfl, iteT ?_⟩
      refine ⟨_, rfl, _, _, _, _, false, rfl, .ty _, .base (.int i), kit_ty (by decide +kernel), false, rfl, true, rfl, iteT ?_⟩
      refine ⟨_, rfl, _, rfl, _, _, rfl, rfl, _, rfl, ite2 (fun h1 => ?_) (fun h1 => ?_)⟩
      · refine ⟨_, _, rfl, rfl, ?_⟩
        have e : smallB i = decide (i < BIG) := by
          unfold smallB
          rw [h1]
          rfl
        rw [e] at k'
        exact k'
      · have e : smallB i = false := by
          unfold smallB
          rw [Bool.eq_false_iff.mpr h1]
          rfl
        rw [e] at k'
        exact k'
    | bl b =>
      refine ⟨_, rfl, _, _, _, _, true, rfl, .ty _, .base (.bl b), kit_ty (by decide +kernel), true, rfl, iteT ?_⟩
      refine ⟨_, rfl, _, _, _, _, true, rfl, .ty _, .base (.bl b), kit_ty (by decide +kernel), true, rfl, false, rfl, iteF ?_⟩
      exact k H (Same.refl _)
    | non => exact ⟨_, rfl, _, _, _, _, false, rfl, .ty _, Dx.ty .non, kit_ty (by decide +kernel), false, rfl, iteF (k H (Same.refl _))⟩
    | str x => exact ⟨_, rfl, _, _, _, _, false, rfl, .ty _, Dx.ty (.str x), kit_ty (by show kitB "str" _ = _; decide +kernel), false, rfl, iteF (k H (Same.refl _))⟩
    | lst h1 h2 => exact ⟨_, rfl, _, _, _, _, false, rfl, .ty _, Dx.ty (.lst h1 h2), kit_ty (by show kitB "list" _ = _; decide +kernel), false, rfl, iteF (k H (Same.refl _))⟩
    | tup h1 h2 => exact ⟨_, rfl, _, _, _, _, false, rfl, .ty _, Dx.ty (.tup h1 h2), kit_ty (by show kitB "tuple" _ = _; decide +kernel), false, rfl, iteF (k H (Same.refl _))⟩
    | dct h1 h2 => exact ⟨_, rfl, _, _, _, _, false, rfl, .ty _, Dx.ty (.dct h1 h2), kit_ty (by show kitB "dict" _ = _; decide +kernel), false, rfl, iteF (k H (Same.refl _))⟩
theorem c_is_pair (T : Txt K mg) (C_is_integer : CalQ gq P w K mg base 1 "is_integer" ["value"] (spJ intB)) (D : DefAt K mg "is_pair" s_is_pair ["value"]) : CalQ gq P w K mg base 2 "is_pair" ["value"] (spJ pairB) := by
  refine calOkQ D sc_is_pair (fun xs H Q E h => ?_) (fun f cdv A out s H xs Q E hgd hr h => ?_)
  · obtain ⟨x, d, rfl, _⟩ := h
    rfl
  · obtain ⟨x, d, rfl, hx, k⟩ := h
    have nd := sc_is_pair.nd
    refine ⟨_, (pss_one (ps_ret (pe_and (pe_callB call_isi (by rfl) T.isinstance (by decide +kernel) (pa_cons (pv 0) (pa_cons (pe_ty "tuple" rfl T.tuple (by decide +kernel)) pa_nil))) (pe_and (pe_cmpR op_eq (pe_callB call_len_seq (by rfl) T.len (by decide +kernel) (pa_cons (pv 0) pa_nil)) pe_int (nomark _)) (pe_and (pe_kq C_is_integer hgd hr (by decide) rfl (pa_cons (pe_ix ix_tup (pv 0) pe_int (fun _ _ => rfl)) pa_nil)) (pe_one (pe_kq C_is_integer hgd hr (by decide) rfl (pa_cons (pe_ix ix_tup (pv 0) pe_int (fun _ _ => rfl)) pa_nil)))))))), ?_⟩
    cases hx with
    | tup h1 h2 =>
      rename_i a xs ds
      have hl := h2.len
      refine ⟨_, rfl, _, _, _, _, true, rfl, .ty _, Dx.ty (.tup h1 h2), kit_ty (by show kitB "tuple" _ = _; decide +kernel), true, rfl, iteT ?_⟩
      refine ⟨_, rfl, _, _, rfl, .inr (SqT.of h1), rfl, _, rfl, ite2 (fun q => ?_) (fun q => ?_)⟩
      · have two : xs.length = 2 := by
          have := V.int.inj (of_decide_eq_true q)
          omega
        cases h2 with
        | nil => cases two
        | cons y1 r1 =>
          cases r1 with
          | nil => cases two
          | cons y2 r2 =>
            cases r2 with
            | cons _ _ => simp at two
            | nil =>
              refine ⟨_, rfl, _, _, _, _, rfl, rfl, SqT.of h1, atI_nat (j := 0) rfl, _, _, rfl, y1, fun H1 s1 => ?_⟩
              refine ⟨_, rfl, ite2 (fun q1 => ?_) (fun q1 => ?_)⟩
              · refine ⟨_, rfl, _, _, _, _, rfl, rfl, SqT.of (s1 _ _ h1), atI_nat (j := 1) rfl, _, _, rfl, y2.grow s1, fun H2 s2 => ?_⟩
                have e := k H2 (s1.trans s2)
                simp only [pairB, q1, Bool.true_and] at e
                exact e
              · have e := k H1 s1
                simp only [pairB, Bool.eq_false_iff.mpr q1, Bool.false_and] at e
                exact e
      · have e := k H (Same.refl _)
        have nf : pairB (.tuple ds) = false := by
          match ds, hl with
          | [], _ => rfl
          | [_], _ => rfl
          | [_, _], hl => exact absurd (decide_eq_true (show V.int (xs.length : Int) = V.int 2 by rw [hl]; rfl)) q
          | _ :: _ :: _ :: _, _ => rfl
        rw [nf] at e
        exact e
    | int i => exact ⟨_, rfl, _, _, _, _, false, rfl, .ty _, Dx.ty (.int i), kit_ty (by show kitB "int" _ = _; decide +kernel), false, rfl, iteF (k H (Same.refl _))⟩
    | bl b => exact ⟨_, rfl, _, _, _, _, false, rfl, .ty _, Dx.ty (.bl b), kit_ty (by show kitB "bool" _ = _; decide +kernel), false, rfl, iteF (k H (Same.refl _))⟩
    | non => exact ⟨_, rfl, _, _, _, _, false, rfl, .ty _, Dx.ty .non, kit_ty (by decide +kernel), false, rfl, iteF (k H (Same.refl _))⟩
    | str x => exact ⟨_, rfl, _, _, _, _, false, rfl, .ty _, Dx.ty (.str x), kit_ty (by show kitB "str" _ = _; decide +kernel), false, rfl, iteF (k H (Same.refl _))⟩
    | lst h1 h2 => exact ⟨_, rfl, _, _, _, _, false, rfl, .ty _, Dx.ty (.lst h1 h2), kit_ty (by show kitB "list" _ = _; decide +kernel), false, rfl, iteF (k H (Same.refl _))⟩
    | dct h1 h2 => exact ⟨_, rfl, _, _, _, _, false, rfl, .ty _, Dx.ty (.dct h1 h2), kit_ty (by show kitB "dict" _ = _; decide +kernel), false, rfl, iteF (k H (Same.refl _))⟩
theorem form_pair {d : PyData} (h : formB d = true) : pairB d = true := by
  match d, h with
  | .tuple [.int a, .int b], h =>
    have h' : (decide (0 ≤ a) && decide (a ≤ 7)) = true ∧ (decide (0 ≤ b) && decide (b ≤ 7)) = true := by simpa [formB, sideB] using h
    have g : ∀ i : Int, (decide (0 ≤ i) && decide (i ≤ 7)) = true → smallB i = true := fun i q => by
      have q' : 0 ≤ i ∧ i ≤ 7 := by simpa using q
      unfold smallB BIG
      rw [decide_eq_true (by omega), decide_eq_true (by omega)]
      rfl
    show (smallB a && smallB b) = true
    rw [g a h'.1, g b h'.2]
    rfl
  | .tuple [.none, _], h => simp [formB, sideB] at h
  | .tuple [.bool _, _], h => simp [formB, sideB] at h
  | .tuple [.str _, _], h => simp [formB, sideB] at h
  | .tuple [.list _, _], h => simp [formB, sideB] at h
  | .tuple [.tuple _, _], h => simp [formB, sideB] at h
  | .tuple [.dict _, _], h => simp [formB, sideB] at h
  | .tuple [.int _, .none], h => simp [formB, sideB] at h
  | .tuple [.int _, .bool _], h => simp [formB, sideB] at h
  | .tuple [.int _, .str _], h => simp [formB, sideB] at h
  | .tuple [.int _, .list _], h => simp [formB, sideB] at h
  | .tuple [.int _, .tuple _], h => simp [formB, sideB] at h
  | .tuple [.int _, .dict _], h => simp [formB, sideB] at h
  | .tuple [], h => simp [formB] at h
  | .tuple [_], h => simp [formB] at h
  | .tuple (_ :: _ :: _ :: _), h => simp [formB] at h
  | .none, h => simp [formB] at h
  | .bool _, h => simp [formB] at h
  | .int _, h => simp [formB] at h
  | .str _, h => simp [formB] at h
  | .list _, h => simp [formB] at h
  | .dict _, h => simp [formB] at h
theorem pair_ints {d : PyData} (h : pairB d = true) : ∃ a b, d = .tuple [.int a, .int b] := by
  match d, h with
  | .tuple [a, b], h =>
    have h' : intB a = true ∧ intB b = true := by simpa [pairB] using h
    match a, b, h' with
    | .int i, .int j, _ => exact ⟨i, j, rfl⟩
    | .none, _, h => simp [intB] at h
    | .bool _, _, h => simp [intB] at h
    | .str _, _, h => simp [intB] at h
    | .list _, _, h => simp [intB] at h
    | .tuple _, _, h => simp [intB] at h
    | .dict _, _, h => simp [intB] at h
    | .int _, .none, h => simp [intB] at h
    | .int _, .bool _, h => simp [intB] at h
    | .int _, .str _, h => simp [intB] at h
    | .int _, .list _, h => simp [intB] at h
    | .int _, .tuple _, h => simp [intB] at h
    | .int _, .dict _, h => simp [intB] at h
  | .tuple [], h => simp [pairB] at h
  | .tuple [_], h => simp [pairB] at h
  | .tuple (_ :: _ :: _ :: _), h => simp [pairB] at h
  | .none, h => simp [pairB] at h
  | .bool _, h => simp [pairB] at h
  | .int _, h => simp [pairB] at h
  | .str _, h => simp [pairB] at h
  | .list _, h => simp [pairB] at h
  | .dict _, h => simp [pairB] at h
def within (d : PyData) (lo hi : Int) : Bool := intB d && match d with
  | .int i => decide (lo ≤ i) && decide (i ≤ hi)
  | _ => false
def spWithin : Sp := fun vs H Q _ => ∃ (x : V) (d : PyData) (lo hi : Int), vs = [x, .int lo, .int hi] ∧ Dx H x d ∧ ∀ H', Same H H' → Q (.bl (within d lo hi)) H'
theorem int_of {d : PyData} (h : intB d = true) : ∃ i, d = .int i := by
  match d, h with
  | .int i, _ => exact ⟨i, rfl⟩
  | .none, h => simp [intB] at h
  | .bool _, h => simp [intB] at h
  | .str _, h => simp [intB] at h
  | .list _, h => simp [intB] at h
  | .tuple _, h => simp [intB] at h
  | .dict _, h => simp [intB] at h
theorem c_is_within (T : Txt K mg) (C_is_integer : CalQ gq P w K mg base 1 "is_integer" ["value"] (spJ intB)) (D : DefAt K mg "is_within" s_is_within ["value", "least", "greatest"]) : CalQ gq P w K mg base 2 "is_within" ["value", "least", "greatest"] spWithin := by
  refine calOkQ D sc_is_within (fun xs H Q E h => ?_) (fun f cdv A out s H xs Q E hgd hr h => ?_)
  · obtain ⟨x, d, lo, hi, rfl, _⟩ := h
    rfl
  · obtain ⟨x, d, lo, hi, rfl, hx, k⟩ := h
    have nd := sc_is_within.nd
    refine ⟨_, (pss_one (ps_ret (pe_and (pe_kq C_is_integer hgd hr (by decide) rfl (pa_cons (pv 0) pa_nil)) (pe_one (pe_chain op_le op_le (pv 1) (pv 0) (pv 2)))))), ?_⟩
    refine ⟨_, rfl, _, _, rfl, hx, fun H1 s1 => ⟨_, rfl, ite2 (fun q => ?_) (fun q => ?_)⟩⟩
    · obtain ⟨i, rfl⟩ := int_of q
      cases hx
      have e := k H1 s1
      unfold within at e
      rw [q, Bool.true_and] at e
      replace e : Q (.bl (decide (lo ≤ i) && decide (i ≤ hi))) H1 := e
      refine ⟨_, rfl, _, rfl, _, _, rfl, rfl, _, rfl, ite2 (fun q1 => ?_) (fun q1 => ?_)⟩
      · refine ⟨_, rfl, _, _, rfl, rfl, ?_⟩
        rw [show decide (lo ≤ i) = true from q1, Bool.true_and] at e
        exact e
      · rw [show decide (lo ≤ i) = false from Bool.eq_false_iff.mpr q1, Bool.false_and] at e
        exact e
    · have e := k H1 s1
      unfold within at e
      rw [Bool.eq_false_iff.mpr q, Bool.false_and] at e
      exact e
def pairWithin (d : PyData) (lo hi : Int) : Bool := pairB d && match d with
  | .tuple [.int a, .int b] => decide (lo ≤ min a b) && decide (max a b ≤ hi)
  | _ => false
def spPairWithin : Sp := fun vs H Q _ => ∃ (x : V) (d : PyData) (lo hi : Int), vs = [x, .int lo, .int hi] ∧ Dx H x d ∧ ∀ H', Same H H' → Q (.bl (pairWithin d lo hi)) H'
theorem c_is_pair_within (T : Txt K mg) (C_is_pair : CalQ gq P w K mg base 2 "is_pair" ["value"] (spJ pairB)) (D : DefAt K mg "is_pair_within" s_is_pair_within ["value", "least", "greatest"]) : CalQ gq P w K mg base 3 "is_pair_within" ["value", "least", "greatest"] spPairWithin := by
  refine calOkQ D sc_is_pair_within (fun xs H Q E h => ?_) (fun f cdv A out s H xs Q E hgd hr h => ?_)
  · obtain ⟨x, d, lo, hi, rfl, _⟩ := h
    rfl
  · obtain ⟨x, d, lo, hi, rfl, hx, k⟩ := h
    have nd := sc_is_pair_within.nd
    refine ⟨_, (pss_one (ps_ret (pe_and (pe_kq C_is_pair hgd hr (by decide) rfl (pa_cons (pv 0) pa_nil)) (pe_and (pe_cmpR op_le (pv 1) (pe_callB (cr_min2T rfl hr.units) (by rfl) T.min (by decide +kernel) (pa_cons (pv 0) pa_nil)) (nomark _)) (pe_one (pe_cmpR op_le (pe_callB (cr_max2T rfl hr.units) (by rfl) T.max (by decide +kernel) (pa_cons (pv 0) pa_nil)) (pv 2) (nomark _))))))), ?_⟩
    refine ⟨_, rfl, _, _, rfl, hx, fun H1 s1 => ⟨_, rfl, ite2 (fun q => ?_) (fun q => ?_)⟩⟩
    · obtain ⟨a, b, rfl⟩ := pair_ints q
      have hx1 := hx.grow s1
      have e := k H1 s1
      unfold pairWithin at e
      rw [q, Bool.true_and] at e
      replace e : Q (.bl (decide (lo ≤ min a b) && decide (max a b ≤ hi))) H1 := e
      cases hx1 with
      | tup h1 h2 =>
        cases h2 with
        | cons y1 r1 =>
          cases r1 with
          | cons y2 r2 =>
            cases r2
            cases y1
            cases y2
            refine ⟨_, rfl, _, rfl, _, _, _, rfl, h1, _, _, rfl, rfl, _, rfl, ite2 (fun q1 => ?_) (fun q1 => ?_)⟩
            · refine ⟨_, rfl, _, _, _, rfl, h1, _, rfl, _, _, rfl, rfl, ?_⟩
              rw [show decide (lo ≤ min a b) = true from q1, Bool.true_and] at e
              exact e
            · rw [show decide (lo ≤ min a b) = false from Bool.eq_false_iff.mpr q1, Bool.false_and] at e
              exact e
    · have e := k H1 s1
      unfold pairWithin at e
      rw [Bool.eq_false_iff.mpr q, Bool.false_and] at e
      exact e
theorem within_form (d : PyData) : pairWithin d 0 7 = formB d := by
  unfold pairWithin
  cases h : formB d with
  | true =>
    obtain ⟨a, b, rfl⟩ := pair_ints (form_pair h)
    rw [form_pair h, Bool.true_and]
    simp only [formB, sideB, Bool.and_eq_true, decide_eq_true_eq] at h
    rw [Bool.and_eq_true, decide_eq_true_eq, decide_eq_true_eq]
    omega
  | false =>
    cases hp : pairB d with
    | false => rfl
    | true =>
      obtain ⟨a, b, rfl⟩ := pair_ints hp
      rw [Bool.true_and]
      simp only [formB, sideB] at h
      rw [Bool.eq_false_iff] at h ⊢
      intro z
      refine h ?_
      rw [Bool.and_eq_true, decide_eq_true_eq, decide_eq_true_eq] at z
      simp only [Bool.and_eq_true, decide_eq_true_eq]
      omega
theorem c_is_form (T : Txt K mg) (C_is_pair_within : CalQ gq P w K mg base 3 "is_pair_within" ["value", "least", "greatest"] spPairWithin) (D : DefAt K mg "is_form" s_is_form ["value"]) : CalQ gq P w K mg base 4 "is_form" ["value"] (spJ formB) := by
  refine calOkQ D sc_is_form (fun xs H Q E h => ?_) (fun f cdv A out s H xs Q E hgd hr h => ?_)
  · obtain ⟨x, d, rfl, _⟩ := h
    rfl
  · obtain ⟨x, d, rfl, hx, k⟩ := h
    have nd := sc_is_form.nd
    refine ⟨_, (pss_one (ps_ret (pe_kq C_is_pair_within hgd hr (by decide) rfl (pa_cons (pv 0) (pa_cons pe_int (pa_cons (pe_gv rfl T.gMAX_SIDE) pa_nil)))))), ?_⟩
    refine ⟨_, rfl, x, d, 0, 7, rfl, hx, fun H1 s1 => ?_⟩
    rw [within_form]
    exact k H1 s1
theorem c_are_forms (T : Txt K mg) (C_is_form : CalQ gq P w K mg base 4 "is_form" ["value"] (spJ formB)) (D : DefAt K mg "are_forms" s_are_forms ["value"]) : CalQ gq P w K mg base 5 "are_forms" ["value"] (spJ formsB) := by
  refine calOkQ D sc_are_forms (fun xs H Q E h => ?_) (fun f cdv A out s H xs Q E hgd hr h => ?_)
  · obtain ⟨x, d, rfl, _⟩ := h
    rfl
  · obtain ⟨x, d, rfl, hx, k⟩ := h
    have nd := sc_are_forms.nd
    refine ⟨_, (pss_one (ps_ret (pe_and (pe_callB call_isi (by rfl) T.isinstance (by decide +kernel) (pa_cons (pv 0) (pa_cons (pe_ty "tuple" rfl T.tuple (by decide +kernel)) pa_nil))) (pe_and (pe_cmpR op_le (pe_callB call_len_seq (by rfl) T.len (by decide +kernel) (pa_cons (pv 0) pa_nil)) (pe_gv rfl T.gMAX_LEVELS) (nomark _)) (pe_one (pe_callB (cr_all rfl) (by rfl) T.all (by decide +kernel) (pa_cons (pe_lc (own := [("form", 1)]) (g := gName 1) (by rfl) nd (pi_tup (pv 0)) (blkOk_by (own := [("form", 1)]) (N := N_are_forms) (sc := defScope s_are_forms) (by decide +kernel)) (fun _ _ _ _ _ => pg_name (i := 1) nd rfl (.inl rfl)) (fun _ _ _ _ _ => pts_nil) (fun _ _ _ _ _ => pe_kq C_is_form hgd hr (by decide) rfl (pa_cons (pv 1) pa_nil))) pa_nil))))))), ?_⟩
    cases hx with
    | tup h1 h2 =>
      rename_i a xs ds
      have hl := h2.len
      refine ⟨_, rfl, _, _, _, _, true, rfl, .ty _, Dx.ty (.tup h1 h2), kit_ty (by show kitB "tuple" _ = _; decide +kernel), true, rfl, iteT ?_⟩
      refine ⟨_, rfl, _, _, rfl, .inr (SqT.of h1), _, _, rfl, rfl, _, rfl, ite2 (fun q => ?_) (fun q => ?_)⟩
      · have few : xs.length ≤ 200 := by
          have := of_decide_eq_true q
          omega
        refine ⟨_, rfl, a, rfl, ⟨_, SqT.of h1⟩, fun Dl nD => ?_⟩
        refine lc_tup (K := K) (a := a) (xs := xs) (fun i H' => Same H H' ∧ H' Dl = some (.lst (((ds.take i).map formB).map V.bl))) ?_ ?_ ?_ ?_
        · exact ⟨same_new nD, upd_same⟩
        · rintro i H' _ ⟨s1, _⟩
          exact SqT.of (s1 _ _ h1)
        · rintro i x H' hi ⟨s1, hD⟩
          obtain ⟨d, hd, hx⟩ := h2.get i x hi
          refine ⟨rfl, ?_⟩
          refine ⟨_, rfl, _, d, rfl, hx.grow s1, fun H2 s2 => ?_⟩
          refine ⟨_, s2 _ _ hD, ?_, Same.put (s1.trans s2) nD, ?_⟩
          · rw [List.length_map, List.length_map, List.length_take]
            exact small1000 (by omega)
          · rw [upd_same, List.take_add_one, hd, List.map_append, List.map_append]
            rfl
        · rintro H' ⟨s1, hD⟩
          refine ⟨Dl, _, rfl, SqL.of hD, ?_⟩
          have e := k H' s1
          have ef : formsB (.tuple ds) = ((ds.take xs.length).map formB).all id := by
            rw [hl, List.take_length]
            simp only [formsB]
            rw [decide_eq_true (by omega), Bool.true_and, List.all_map]
            rfl
          rw [ef] at e
          exact e
      · have e := k H (Same.refl _)
        have nf : formsB (.tuple ds) = false := by
          simp only [formsB]
          rw [decide_eq_false (fun z => q (decide_eq_true (by omega))), Bool.false_and]
        rw [nf] at e
        exact e
    | int i => exact ⟨_, rfl, _, _, _, _, false, rfl, .ty _, Dx.ty (.int i), kit_ty (by show kitB "int" _ = _; decide +kernel), false, rfl, iteF (k H (Same.refl _))⟩
    | bl b => exact ⟨_, rfl, _, _, _, _, false, rfl, .ty _, Dx.ty (.bl b), kit_ty (by show kitB "bool" _ = _; decide +kernel), false, rfl, iteF (k H (Same.refl _))⟩
    | non => exact ⟨_, rfl, _, _, _, _, false, rfl, .ty _, Dx.ty .non, kit_ty (by decide +kernel), false, rfl, iteF (k H (Same.refl _))⟩
    | str x => exact ⟨_, rfl, _, _, _, _, false, rfl, .ty _, Dx.ty (.str x), kit_ty (by show kitB "str" _ = _; decide +kernel), false, rfl, iteF (k H (Same.refl _))⟩
    | lst h1 h2 => exact ⟨_, rfl, _, _, _, _, false, rfl, .ty _, Dx.ty (.lst h1 h2), kit_ty (by show kitB "list" _ = _; decide +kernel), false, rfl, iteF (k H (Same.refl _))⟩
    | dct h1 h2 => exact ⟨_, rfl, _, _, _, _, false, rfl, .ty _, Dx.ty (.dct h1 h2), kit_ty (by show kitB "dict" _ = _; decide +kernel), false, rfl, iteF (k H (Same.refl _))⟩
theorem forms_all {ds : List PyData} (h : formsB (.tuple ds) = true) : ds.length ≤ 200 ∧ ∀ d ∈ ds, formB d = true := by
  have h' : ds.length ≤ 200 ∧ ds.all formB = true := by
    simp only [formsB, Bool.and_eq_true, decide_eq_true_eq] at h
    exact h
  exact ⟨h'.1, fun d hd => List.all_eq_true.mp h'.2 d hd⟩
theorem form_ints {d : PyData} (h : formB d = true) : ∃ a b, d = .tuple [.int a, .int b] := pair_ints (form_pair h)
theorem form_plain {d : PyData} (h : formB d = true) : d.canLay0 = true ∧ d.depth ≤ 1 ∧ d.hasDict = false := by
  obtain ⟨a, b, rfl⟩ := form_ints h
  exact ⟨by simp [PyData.canLay0, PyData.canLayAll0], by simp [PyData.depth, PyData.depthAll], by simp [PyData.hasDict, PyData.hasDictAll]⟩
theorem dictAll0 : ∀ (xs : List PyData), (∀ x ∈ xs, x.hasDict = false) → PyData.hasDictAll xs = false
  | [], _ => by simp [PyData.hasDictAll]
  | x :: r, h => by
    rw [PyData.hasDictAll, h x List.mem_cons_self, dictAll0 r fun y hy => h y (List.mem_cons_of_mem _ hy)]
    rfl
theorem forms_plain {ds : List PyData} (h : ∀ d ∈ ds, formB d = true) : SeqAt.shaped (.tuple ds) = true ∧ (PyData.tuple ds).hasDict = false := by
  have q1 : PyData.canLayAll0 ds = true := by
    have := canAll id ds fun d hd => (form_plain (h d hd)).1
    rwa [List.map_id] at this
  have q2 : PyData.depthAll ds ≤ 1 := by
    have := depthAll0 1 id ds fun d hd => (form_plain (h d hd)).2.1
    rwa [List.map_id] at this
  refine ⟨?_, ?_⟩
  · show (PyData.canLay0 (.tuple ds) && decide (PyData.depth (.tuple ds) ≤ 64)) = true
    rw [Bool.and_eq_true_iff]
    exact ⟨by simp only [PyData.canLay0]; exact q1, decide_eq_true (by simp only [PyData.depth]; omega)⟩
  · simp only [PyData.hasDict]
    exact dictAll0 ds fun d hd => (form_plain (h d hd)).2.2
theorem c_is_row (T : Txt K mg) (C_are_forms : CalQ gq P w K mg base 5 "are_forms" ["value"] (spJ formsB)) (D : DefAt K mg "is_row" s_is_row ["value"]) : CalQ gq P w K mg base 6 "is_row" ["value"] (spJ rowB) := by
  refine calOkQ D sc_is_row (fun xs H Q E h => ?_) (fun f cdv A out s H xs Q E hgd hr h => ?_)
  · obtain ⟨x, d, rfl, _⟩ := h
    rfl
  · obtain ⟨x, d, rfl, hx, k⟩ := h
    have nd := sc_is_row.nd
    refine ⟨_, (pss_one (ps_ret (pe_and (pe_kq C_are_forms hgd hr (by decide) rfl (pa_cons (pv 0) pa_nil)) (pe_one (pe_or (pe_cmpR (op_eqD hr.units) (pv 0) (pe_tup pa_nil) (nomark _)) (pe_one (pe_cmpR (op_neD hr.units) (pe_ix ix_tup (pv 0) (pe_un un_neg pe_int) (fun _ _ => rfl)) (pe_tup (pa_cons pe_int (pa_cons pe_int pa_nil))) (nomark _)))))))), ?_⟩
    refine ⟨_, rfl, _, d, rfl, hx, fun H1 s1 => ⟨_, rfl, ite2 (fun q => ?_) (fun q => ?_)⟩⟩
    · obtain ⟨ds, rfl⟩ : ∃ ds, d = .tuple ds := by
        match d, q with
        | .tuple ds, _ => exact ⟨ds, rfl⟩
        | .none, q => simp [formsB] at q
        | .bool _, q => simp [formsB] at q
        | .int _, q => simp [formsB] at q
        | .str _, q => simp [formsB] at q
        | .list _, q => simp [formsB] at q
        | .dict _, q => simp [formsB] at q
      obtain ⟨few, allf⟩ := forms_all q
      obtain ⟨sh, nodict⟩ := forms_plain allf
      have e0 : rowB (.tuple ds) = (ds.isEmpty || !PyData.eqv (ds.getLastD .none) zeroD) := by
        simp only [rowB]
        rw [q, Bool.true_and]
      have hx1 := hx.grow s1
      refine ⟨_, rfl, (by show 0 ≤ sizeLine; decide), fun p np => ?_⟩
      refine ⟨.tuple ds, .tuple [], (hx1.grow (same_new np)).dp nodict, .tup (SqT.of upd_same) .nil, sh, (by decide +kernel), _, rfl, ite2 (fun q1 => ?_) (fun q1 => ?_)⟩
      · have e := k _ (s1.trans (same_new (o := .tup []) np))
        have em : ds = [] := by
          match ds, q1 with
          | [], _ => rfl
          | _ :: _, q1 => simp [PyData.eqv, PyData.eqvAll] at q1
        rw [e0, em] at e
        exact e
      · have ne : ds ≠ [] := fun z => by
          rw [z] at q1
          exact q1 (by decide +kernel)
        cases hx1 with
        | tup h1 h2 =>
          rename_i a ys
          have hl := h2.len
          obtain ⟨ys0, y, rfl⟩ : ∃ ys0 y, ys = ys0 ++ [y] := by
            rcases List.eq_nil_or_concat ys with z | ⟨i, y, z⟩
            · rw [z] at hl
              exact absurd (List.eq_nil_of_length_eq_zero hl.symm) ne
            · exact ⟨i, y, by rw [z, List.concat_eq_append]⟩
          obtain ⟨dy, hdy, hy⟩ := h2.get ys0.length y (by simp)
          have last : ds.getLastD .none = dy := by
            rw [List.getLastD_eq_getLast?, List.getLast?_eq_getElem?]
            have : ds.length - 1 = ys0.length := by
              rw [← hl, List.length_append]
              simp
            rw [this, hdy]
            rfl
          have fy : formB dy = true := allf dy (List.mem_of_getElem? hdy)
          obtain ⟨c1, c2, c3⟩ := form_plain fy
          refine ⟨_, rfl, _, rfl, _, _, _, _, rfl, rfl, SqT.of (same_new np _ _ h1), atI_last ys0 y, ?_⟩
          refine ⟨(by show 2 ≤ sizeLine; decide), fun p2 np2 => ?_⟩
          refine ⟨dy, zeroD, ((hy.grow (same_new np)).grow (same_new np2)).dp c3, .tup (SqT.of upd_same) (.cons (.int 0) (.cons (.int 0) .nil)), ?_, (by decide +kernel), ?_⟩
          · show (PyData.canLay0 dy && decide (PyData.depth dy ≤ 64)) = true
            rw [c1, decide_eq_true (by omega)]
            rfl
          · have e := k _ ((s1.trans (same_new (o := .tup []) np)).trans (same_new (o := .tup [.int 0, .int 0]) np2))
            have em : ds.isEmpty = false := by
              cases ds with
              | nil => exact absurd rfl ne
              | cons _ _ => rfl
            rw [e0, last, em, Bool.false_or] at e
            exact e
    · have e := k H1 s1
      have nf : rowB d = false := by
        match d, q with
        | .tuple ds, q =>
          simp only [rowB]
          rw [Bool.eq_false_iff.mpr q, Bool.false_and]
        | .none, _ => rfl
        | .bool _, _ => rfl
        | .int _, _ => rfl
        | .str _, _ => rfl
        | .list _, _ => rfl
        | .dict _, _ => rfl
      rw [nf] at e
      exact e
end
/-! ## the law's rows: lists of pairs of numbers -/
def formD (f : Int × Int) : PyData := .tuple [.int f.1, .int f.2]
def rowD (fs : List (Int × Int)) : PyData := .tuple (fs.map formD)
def cutF (fs : List (Int × Int)) : List (Int × Int) := (fs.reverse.dropWhile fun f => decide (f = (0, 0))).reverse
theorem cutF_nil : cutF [] = [] := rfl
theorem cutF_zero (fs : List (Int × Int)) : cutF (fs ++ [(0, 0)]) = cutF fs := by
  unfold cutF
  rw [List.reverse_append]
  simp
theorem cutF_last (fs : List (Int × Int)) {f : Int × Int} (h : f ≠ (0, 0)) : cutF (fs ++ [f]) = fs ++ [f] := by
  unfold cutF
  rw [List.reverse_append]
  simp [h]
theorem cutF_cut (fs : List (Int × Int)) : cutF (cutF fs) = cutF fs := by
  unfold cutF
  rw [List.reverse_reverse]
  congr 1
  generalize fs.reverse = l
  induction l with
  | nil => rfl
  | cons x r ih =>
    by_cases h : x = (0, 0)
    · simp [h, ih]
    · simp [h]
theorem cutF_sub (fs : List (Int × Int)) : (cutF fs).length ≤ fs.length ∧ ∀ f ∈ cutF fs, f ∈ fs := by
  unfold cutF
  have h1 := (List.dropWhile_suffix (l := fs.reverse) fun f => decide (f = (0, 0)))
  refine ⟨?_, fun f hf => ?_⟩
  · have := h1.length_le
    simpa using this
  · have := h1.subset (List.mem_reverse.mp hf)
    exact List.mem_reverse.mp this
theorem formD_eqv (f : Int × Int) : PyData.eqv (formD f) zeroD = decide (f = (0, 0)) := by
  obtain ⟨a, b⟩ := f
  simp only [formD, zeroD, PyData.eqv, PyData.eqvAll, Bool.and_true]
  rw [Bool.eq_iff_iff]
  simp
theorem forms_flat (fs : List (Int × Int)) : PyData.canLayAll0 (fs.map formD) = true ∧ PyData.depthAll (fs.map formD) ≤ 1 ∧ PyData.hasDictAll (fs.map formD) = false := by
  refine ⟨canAll _ _ fun f _ => by simp [formD, PyData.canLay0, PyData.canLayAll0], depthAll0 1 _ _ fun f _ => by simp [formD, PyData.depth, PyData.depthAll], ?_⟩
  refine dictAll0 _ fun d hd => ?_
  obtain ⟨f, _, rfl⟩ := List.mem_map.mp hd
  simp [formD, PyData.hasDict, PyData.hasDictAll]
theorem eqv_nil (ds : List PyData) : PyData.eqv (.list ds) (.list []) = ds.isEmpty := by
  cases ds with
  | nil => simp [PyData.eqv, PyData.eqvAll]
  | cons x r => simp [PyData.eqv, PyData.eqvAll]
theorem shapedL (fs : List (Int × Int)) : SeqAt.shaped (.list (fs.map formD)) = true := by
  obtain ⟨q1, q2, _⟩ := forms_flat fs
  show (PyData.canLay0 (.list _) && decide (PyData.depth (.list _) ≤ 64)) = true
  rw [Bool.and_eq_true_iff]
  exact ⟨by simp only [PyData.canLay0]; exact q1, decide_eq_true (by simp only [PyData.depth]; omega)⟩
theorem shapedT (fs : List (Int × Int)) : SeqAt.shaped (rowD fs) = true := by
  obtain ⟨q1, q2, _⟩ := forms_flat fs
  show (PyData.canLay0 (.tuple _) && decide (PyData.depth (.tuple _) ≤ 64)) = true
  rw [Bool.and_eq_true_iff]
  exact ⟨by simp only [PyData.canLay0]; exact q1, decide_eq_true (by simp only [PyData.depth]; omega)⟩
theorem shapedF (f : Int × Int) : SeqAt.shaped (formD f) = true := by
  show (PyData.canLay0 (.tuple _) && decide (PyData.depth (.tuple _) ≤ 64)) = true
  rw [Bool.and_eq_true_iff]
  exact ⟨by simp [PyData.canLay0, PyData.canLayAll0], decide_eq_true (by simp [PyData.depth, PyData.depthAll])⟩
theorem noDictF (f : Int × Int) : (formD f).hasDict = false := by simp [formD, PyData.hasDict, PyData.hasDictAll]
theorem noDictT (fs : List (Int × Int)) : (rowD fs).hasDict = false := by
  simp only [rowD, PyData.hasDict]
  exact (forms_flat fs).2.2
def Side (n : Int) (f : Int × Int) : Prop := 0 ≤ f.1 ∧ f.1 ≤ n ∧ 0 ≤ f.2 ∧ f.2 ≤ n
theorem formB_D {f : Int × Int} (h : Side 7 f) : formB (formD f) = true := by
  obtain ⟨h1, h2, h3, h4⟩ := h
  simp [formB, formD, sideB, h1, h2, h3, h4]
theorem rowB_D {fs : List (Int × Int)} (h : ∀ f ∈ fs, Side 7 f) (hl : fs.length ≤ 200) (hc : cutF fs = fs) : rowB (rowD fs) = true := by
  have q1 : formsB (rowD fs) = true := by
    simp only [rowD, formsB]
    rw [List.length_map, decide_eq_true hl, Bool.true_and, List.all_eq_true]
    intro d hd
    obtain ⟨f, hf, rfl⟩ := List.mem_map.mp hd
    exact formB_D (h f hf)
  simp only [rowD, rowB] at q1 ⊢
  rw [q1, Bool.true_and]
  rcases List.eq_nil_or_concat fs with z | ⟨gs, g, z⟩
  · rw [z]
    rfl
  · rw [List.concat_eq_append] at z
    subst z
    have ng : g ≠ (0, 0) := fun e => by
      rw [e, cutF_zero] at hc
      have := (cutF_sub gs).1
      rw [hc, List.length_append, List.length_singleton] at this
      omega
    have el : ((gs ++ [g]).map formD).getLastD .none = formD g := by simp
    rw [el, formD_eqv, decide_eq_false ng]
    simp
def spCut : Sp := fun vs H Q _ => ∃ (d a : Addr) (fs : List (Int × Int)) (xs : List V), vs = [.ref a] ∧ DiceAt H d ∧ a ≠ d ∧ H a = some (.lst xs) ∧ DxAll (hide d H) xs (fs.map formD) ∧ fs.length ≤ 1000 ∧
  ∀ (p : Addr) (H' : Hp), Mv d H H' → Dx (hide d H') (.ref p) (rowD (cutF fs)) → Q (.ref p) H'
def spSomeForm : Sp := fun vs H Q _ => ∃ (d : Addr) (h : Int), vs = [.ref d, .int h] ∧ DiceAt H d ∧ 0 ≤ h ∧ h ≤ 100 ∧
  ∀ (p : Addr) (f : Int × Int) (H' : Hp), Side h f → Mv d H H' → Dx (hide d H') (.ref p) (formD f) → Q (.ref p) H'
def spSomeRow : Sp := fun vs H Q _ => ∃ (d : Addr) (n h : Int), vs = [.ref d, .int n, .int h] ∧ DiceAt H d ∧ 0 ≤ n ∧ n ≤ 300 ∧ 0 ≤ h ∧ h ≤ 100 ∧
  ∀ (p : Addr) (fs : List (Int × Int)) (H' : Hp), (∀ f ∈ fs, Side h f) → (fs.length : Int) ≤ n → cutF fs = fs → Mv d H H' → Dx (hide d H') (.ref p) (rowD fs) → Q (.ref p) H'
theorem log_small {t : Int} (h0 : 0 < t) (h : t ≤ 4000) : t.natAbs.log2 < 9000 := Nat.lt_of_le_of_lt (Nat.log2_le_self _) (by omega)
theorem hide_up {d p : Addr} {H : Hp} {o : HO} (n : p ≠ d) (h : H p = some o) : hide d H p = some o := by rw [hide_ne n]; exact h
section
variable {P : Program} {w : World} {K : PySem.W.Frag} {mg : Str → Option Value} {base : Heap}
theorem c_cut (T : Txt K mg) (D : DefAt K mg "_law_cut" s__law_cut ["_law_forms"]) : CalG P w K mg base 1 "_law_cut" ["_law_forms"] spCut := by
  refine calOk D sc__law_cut (fun xs H Q E h => ?_) (fun f cdv A out s H xs Q E hgd hr h => ?_)
  · obtain ⟨d, a, fs, xs, rfl, _⟩ := h
    rfl
  · obtain ⟨d, a, fs, xs, rfl, hd, na, ha, hx, hl, k⟩ := h
    have nd := sc__law_cut.nd
    refine ⟨_, (pss_cons (ps_set (i := 1) nd rfl (.inl rfl) (pe_callTy call_list_of (by rfl) T.list (by decide +kernel) (pa_cons (pv 0) pa_nil)))
      (pss_cons (ps_while PassesOwn.never (PW.pt (pw_and (pt_cmpR (op_neD hr.units) (pv 1) (pe_lst pa_nil) (nomark _)) (pw_and1 (pt_cmpR (op_eqD hr.units) (pe_ix ix_list (pv 1) (pe_un un_neg pe_int) (fun _ _ => rfl)) (pe_tup (pa_cons pe_int (pa_cons pe_int pa_nil))) (nomark _))))) (pss_one (ps_expr (pe_bm0 PySem.F.plainAttrs_list PySem.F.slot_list_pop PySem.F.type_list_pop mt_pop (pv 1)))))
      (pss_one (ps_ret (pe_callTy call_tuple_of (by rfl) T.tuple (by decide +kernel) (pa_cons (pv 1) pa_nil)))))), ?_⟩
    refine ⟨_, rfl, _, _, rfl, .inl (SqL.of ha), fun l nl => ?_⟩
    have nel := hd.ne nl
    refine ⟨fun m σ H' => ∃ gs zs, m = gs.length ∧ gs.length ≤ 1000 ∧ σ = [some (.ref a), some (.ref l)] ∧ H' l = some (.lst zs) ∧ Mv d H H' ∧ DxAll (hide d H) zs (gs.map formD) ∧ cutF gs = cutF fs, ?_, ?_⟩
    · have m1 : Mv d H (upd H l (.lst xs)) := (Mv.refl hd).new nl
      exact ⟨_, fs, xs, rfl, hl, rfl, upd_same, m1, hx, rfl⟩
    · rintro m σ H1 ⟨gs, zs, rfl, gl, rfl, hL, m1, hz, hc⟩
      refine ⟨_, rfl, (by show 0 ≤ sizeLine; decide), fun p np => ?_⟩
      have s1 : Same H1 (upd H1 p (.lst [])) := same_new np
      have m2 := m1.new (o := .lst []) np
      have hz2 := DxAll.grow m2.same hz
      refine ⟨.list (gs.map formD), .list [], .lst (SqL.of (s1 _ _ hL)) (DxAll.dp (DxAll.grow hide_le hz2) (forms_flat gs).2.2), .lst (SqL.of upd_same) .nil, shapedL gs, (by decide +kernel), ?_⟩
      rcases List.eq_nil_or_concat gs with z | ⟨gs0, g, z⟩
      · subst z
        refine ⟨false, rfl, ?_⟩
        -- return tuple(found)
        cases hz2
        refine ⟨_, rfl, l, _, rfl, .inl ⟨SqL.of (s1 _ _ hL), fun q nq => ?_⟩⟩
        refine k q _ (m2.new nq) ?_
        rw [← hc, cutF_nil]
        exact .tup (hide_up (m2.dice.ne nq) upd_same) .nil
      · rw [List.concat_eq_append] at z
        subst z
        refine ⟨true, congrArg V.bl (by rw [eqv_nil]; simp), ?_⟩
        obtain ⟨zs0, y, rfl⟩ : ∃ zs0 y, zs = zs0 ++ [y] := by
          rcases List.eq_nil_or_concat zs with z | ⟨i, y, z⟩
          · have := hz2.len
            rw [z] at this
            simp at this
          · exact ⟨i, y, by rw [z, List.concat_eq_append]⟩
        have hlen : zs0.length = gs0.length := by
          have := hz2.len
          simpa using this
        have hz0 : DxAll (hide d H) zs0 (gs0.map formD) := by
          have := DxAll.take zs0.length hz
          rw [List.take_left, List.map_append, hlen, ← List.length_map (f := formD), List.take_left] at this
          exact this
        obtain ⟨dy, e1, hy⟩ := hz2.get zs0.length y (by simp)
        have edy : dy = formD g := by
          rw [List.map_append, hlen, ← List.length_map (f := formD)] at e1
          simp at e1
          exact e1.symm
        subst edy
        have hL1 := s1 _ _ hL
        refine ⟨_, rfl, _, rfl, _, _, _, _, rfl, rfl, SqL.of hL1, atI_last zs0 y, (by show 2 ≤ sizeLine; decide), fun p2 np2 => ?_⟩
        have s2 := same_new (o := .tup [.int 0, .int 0]) np2
        have m3 := m2.new (o := .tup [.int 0, .int 0]) np2
        have g3 : Same (hide d (upd H1 p (.lst []))) (hide d (upd (upd H1 p (.lst [])) p2 (.tup [.int 0, .int 0]))) := ((Mv.refl m2.dice).new np2).same
        refine ⟨formD g, zeroD, ((Dx.grow hide_le hy).grow s2).dp (noDictF g), .tup (SqT.of upd_same) (.cons (.int 0) (.cons (.int 0) .nil)), shapedF g, (by decide +kernel), ?_⟩
        by_cases eg : g = (0, 0)
        · refine ⟨true, congrArg V.bl (by rw [formD_eqv, decide_eq_true eg]), ?_⟩
          refine ⟨_, fun _ _ n => n, ?_⟩
          refine ⟨_, rfl, .inl ⟨rfl, _, SqL.of (s2 _ _ hL1)⟩, l, _, y, rfl, rfl, s2 _ _ hL1, (by simp), ?_⟩
          have m4 := m3.set (o := .lst (zs0 ++ [y]).dropLast) nl nel
          refine ⟨gs0.length, (by simp), gs0, zs0, rfl, (by simp at gl; omega), rfl, ?_, m4, hz0, ?_⟩
          · rw [upd_same, List.dropLast_concat]
          · rw [← hc, eg, cutF_zero]
        · refine ⟨false, congrArg V.bl (by rw [formD_eqv, decide_eq_false eg]), ?_⟩
          refine ⟨_, rfl, l, _, rfl, .inl ⟨SqL.of (s2 _ _ hL1), fun q nq => ?_⟩⟩
          refine k q _ (m3.new nq) ?_
          rw [← hc, cutF_last _ eg]
          have g5 : Same (hide d (upd (upd H1 p (.lst [])) p2 (.tup [.int 0, .int 0]))) (hide d (upd (upd (upd H1 p (.lst [])) p2 (.tup [.int 0, .int 0])) q (.tup (zs0 ++ [y])))) := ((Mv.refl m3.dice).new nq).same
          exact .tup (hide_up (m3.dice.ne nq) upd_same) (DxAll.grow g5 (DxAll.grow g3 hz2))
end
/-- at the values xs stand the pairs fs -/
inductive FormsAt (H : Hp) : List V → List (Int × Int) → Prop
  | nil : FormsAt H [] []
  | cons {p : Addr} {f : Int × Int} {xs : List V} {fs : List (Int × Int)} : H p = some (.tup [.int f.1, .int f.2]) → FormsAt H xs fs → FormsAt H (.ref p :: xs) (f :: fs)
theorem FormsAt.keep {H H' : Hp} (s : ∀ p xs, H p = some (.tup xs) → H' p = some (.tup xs)) : ∀ {xs : List V} {fs : List (Int × Int)}, FormsAt H xs fs → FormsAt H' xs fs
  | _, _, .nil => .nil
  | _, _, .cons h r => .cons (s _ _ h) (FormsAt.keep s r)
theorem FormsAt.append {H : Hp} : ∀ {xs ys : List V} {fs gs : List (Int × Int)}, FormsAt H xs fs → FormsAt H ys gs → FormsAt H (xs ++ ys) (fs ++ gs)
  | _, _, _, _, .nil, h => h
  | _, _, _, _, .cons a b, h => .cons a (FormsAt.append b h)
theorem FormsAt.len {H : Hp} : ∀ {xs : List V} {fs : List (Int × Int)}, FormsAt H xs fs → xs.length = fs.length
  | _, _, .nil => rfl
  | _, _, .cons _ b => by rw [List.length_cons, List.length_cons, FormsAt.len b]
theorem FormsAt.get {H : Hp} : ∀ {xs : List V} {fs : List (Int × Int)}, FormsAt H xs fs → ∀ (i : Nat) (x : V), xs[i]? = some x → ∃ p f, x = .ref p ∧ fs[i]? = some f ∧ H p = some (.tup [.int f.1, .int f.2])
  | _, _, .nil, _, _, e => by cases e
  | _, _, .cons a b, 0, x, e => by
    cases e
    exact ⟨_, _, rfl, rfl, a⟩
  | _, _, .cons a b, i + 1, x, e => FormsAt.get b i x e
theorem FormsAt.dx {H : Hp} {d : Addr} (hd : DiceAt H d) : ∀ {xs : List V} {fs : List (Int × Int)}, FormsAt H xs fs → DxAll (hide d H) xs (fs.map formD)
  | _, _, .nil => .nil
  | _, _, .cons a b => .cons (.tup (hide_up (fun e => by
      obtain ⟨l, s, c, q⟩ := hd
      rw [e, q] at a
      cases a) a) (.cons (.int _) (.cons (.int _) .nil))) (FormsAt.dx hd b)
theorem FormsAt.of {H : Hp} : ∀ {xs : List V} (fs : List (Int × Int)), DxAll H xs (fs.map formD) → FormsAt H xs fs
  | xs, [], h => by
    cases h
    exact .nil
  | xs, f :: fs, h => by
    cases h with
    | cons a b =>
      cases a with
      | tup h1 h2 =>
        cases h2 with
        | cons y1 r =>
          cases r with
          | cons y2 r =>
            cases r
            cases y1
            cases y2
            exact .cons h1 (FormsAt.of fs b)
theorem Dx.form {H : Hp} {p : Addr} {f : Int × Int} (h : Dx H (.ref p) (formD f)) : H p = some (.tup [.int f.1, .int f.2]) := by
  cases h with
  | tup h1 h2 =>
    cases h2 with
    | cons y1 r =>
      cases r with
      | cons y2 r =>
        cases r
        cases y1
        cases y2
        exact h1
theorem Mv.tups {d : Addr} {H H' : Hp} (hd : DiceAt H d) (m : Mv d H H') (p : Addr) (xs : List V) (h : H p = some (.tup xs)) : H' p = some (.tup xs) := by
  refine m.get (fun e => ?_) h
  obtain ⟨l, s, c, q⟩ := hd
  rw [e, q] at h
  cases h
theorem tups_put {H : Hp} {l : Addr} {zs : List V} {o : HO} (hl : H l = some (.lst zs)) (p : Addr) (xs : List V) (h : H p = some (.tup xs)) : upd H l o p = some (.tup xs) := by
  rw [upd_ne (fun e => by rw [e, hl] at h; cases h)]
  exact h
theorem hide_le' {d p : Addr} {H : Hp} {o : HO} (h : hide d H p = some o) : H p = some o := hide_le _ _ h
section
variable {P : Program} {w : World} {K : PySem.W.Frag} {mg : Str → Option Value} {base : Heap}
theorem c_some_form (T : Txt K mg) (C__law_roll : CalG P w K mg base 1 "_law_roll" ["_law_dice_here", "_law_total"] spRoll) (D : DefAt K mg "_law_some_form" s__law_some_form ["_law_dice_here", "_law_high"]) :
    CalG P w K mg base 2 "_law_some_form" ["_law_dice_here", "_law_high"] spSomeForm := by
  refine calOk D sc__law_some_form (fun xs H Q E h => ?_) (fun f cdv A out s H xs Q E hgd hr h => ?_)
  · obtain ⟨d, h, rfl, _⟩ := h
    rfl
  · obtain ⟨d, n, rfl, hd, h0, h1, k⟩ := h
    have nd := sc__law_some_form.nd
    refine ⟨_, (pss_one (ps_ret (pe_tup (pa_cons (pe_k C__law_roll hgd hr (by decide) rfl (pa_cons (pv 0) (pa_cons (pe_op op_add (pv 1) pe_int) pa_nil))) (pa_cons (pe_k C__law_roll hgd hr (by decide) rfl (pa_cons (pv 0) (pa_cons (pe_op op_add (pv 1) pe_int) pa_nil))) pa_nil))))), ?_⟩
    have l1 : (n + 1).natAbs.log2 < 9000 := log_small (by omega) (by omega)
    refine ⟨_, rfl, _, rfl, _, _, rfl, rfl, d, _, rfl, hd, (by omega), l1, fun r1 H1 a1 b1 m1 f1 => ?_⟩
    refine ⟨_, rfl, _, rfl, _, _, rfl, rfl, d, _, rfl, m1.dice, (by omega), l1, fun r2 H2 a2 b2 m2 f2 => ?_⟩
    refine ⟨(by show 2 ≤ sizeLine; decide), fun p np => ?_⟩
    exact k p (r1, r2) _ ⟨a1, by omega, a2, by omega⟩ ((m1.trans m2).new np) (.tup (hide_up (m2.dice.ne np) upd_same) (.cons (.int _) (.cons (.int _) .nil)))
theorem c_some_row (T : Txt K mg) (C__law_roll : CalG P w K mg base 1 "_law_roll" ["_law_dice_here", "_law_total"] spRoll) (C__law_some_form : CalG P w K mg base 2 "_law_some_form" ["_law_dice_here", "_law_high"] spSomeForm)
    (C__law_cut : CalG P w K mg base 1 "_law_cut" ["_law_forms"] spCut) (D : DefAt K mg "_law_some_row" s__law_some_row ["_law_dice_here", "_law_levels", "_law_high"]) :
    CalG P w K mg base 3 "_law_some_row" ["_law_dice_here", "_law_levels", "_law_high"] spSomeRow := by
  refine calOk D sc__law_some_row (fun xs H Q E h => ?_) (fun f cdv A out s H xs Q E hgd hr h => ?_)
  · obtain ⟨d, n, h, rfl, _⟩ := h
    rfl
  · obtain ⟨d, n, h, rfl, hd, n0, n1, h0, h1, k⟩ := h
    have nd := sc__law_some_row.nd
    refine ⟨_, (pss_cons (ps_setLc (i := 3) (own := [("_law_turn", 4)]) (g := gName 4) (by rfl) nd rfl rfl (sw_true rfl rfl rfl (by decide +kernel)) (pi_range1 rfl T.range (pa_cons (pe_k C__law_roll hgd hr (by decide) rfl (pa_cons (pv 0) (pa_cons (pe_op op_add (pv 1) pe_int) pa_nil))) pa_nil)) (blkOk_by (own := [("_law_turn", 4)]) (N := N__law_some_row) (sc := defScope s__law_some_row) (by decide +kernel)) (fun _ _ _ _ _ => pg_name (i := 4) nd rfl (.inl rfl)) (fun _ _ _ _ _ => pts_nil) (fun _ _ _ _ _ => pe_k C__law_some_form hgd hr (by decide) rfl (pa_cons (pv 0) (pa_cons (pv 2) pa_nil))))
      (pss_cons (ps_setLc (i := 3) (own := [("_law_form", 5)]) (g := gName 5) (by rfl) nd rfl rfl (sw_true rfl rfl rfl (by decide +kernel)) (pi_list (pv 3)) (blkOk_by (own := [("_law_form", 5)]) (N := N__law_some_row) (sc := defScope s__law_some_row) (by decide +kernel)) (fun _ _ _ _ _ => pg_name (i := 5) nd rfl (.inl rfl)) (fun _ _ _ _ _ => pts_nil) (fun _ _ _ _ _ => pe_ifExp (pt_cmpR op_gt (pe_k C__law_roll hgd hr (by decide) rfl (pa_cons (pv 0) (pa_cons pe_int pa_nil))) pe_int (nomark _)) (pv 5) (pe_tup (pa_cons pe_int (pa_cons pe_int pa_nil)))))
      (pss_one (ps_ret (pe_k C__law_cut hgd hr (by decide) rfl (pa_cons (pv 3) pa_nil)))))), ?_⟩
    have l1 : (n + 1).natAbs.log2 < 9000 := log_small (by omega) (by omega)
    refine a_set (fun v H' => ∃ l xs fs, v = .ref l ∧ l ≠ d ∧ Mv d H H' ∧ H' l = some (.lst xs) ∧ FormsAt H' xs fs ∧ (fs.length : Int) ≤ n ∧ ∀ f ∈ fs, Side h f) (fun Q' kQ => ?_) ?_
    · refine ⟨_, rfl, _, rfl, _, _, rfl, rfl, d, _, rfl, hd, (by omega), l1, fun r1 H1 a1 b1 m1 f1 => ?_⟩
      refine ⟨_, rfl, (by omega), (by omega), fun Dl nD => ?_⟩
      have neD := m1.dice.ne nD
      refine lc_range (fun i H' => ∃ xs fs, Mv d H H' ∧ H' Dl = some (.lst xs) ∧ FormsAt H' xs fs ∧ fs.length = i ∧ ∀ f ∈ fs, Side h f) ?_ ?_ ?_
      · exact ⟨[], [], m1.new nD, upd_same, .nil, rfl, fun _ z => nomatch z⟩
      · rintro i H2 hi ⟨xs, fs, m2, hD, hF, hl, hs⟩
        refine ⟨rfl, ?_⟩
        refine ⟨_, rfl, _, rfl, d, h, rfl, m2.dice, h0, h1, fun p f H3 sf m3 hp => ?_⟩
        have hD3 := m3.get neD hD
        have hF3 := hF.keep (m3.tups m2.dice)
        refine ⟨xs, hD3, ?_, xs ++ [.ref p], fs ++ [f], (m2.trans m3).set (m1.free nD) neD, upd_same, ?_, ?_, ?_⟩
        · rw [hF3.len]
          exact small1000 (by omega)
        · exact (hF3.append (.cons (hide_le' hp.form) .nil)).keep (tups_put hD3)
        · rw [List.length_append, hl]
          rfl
        · intro g hg
          rcases List.mem_append.mp hg with q | q
          · exact hs g q
          · rw [List.mem_singleton.mp q]
            exact sf
      · rintro H2 ⟨xs, fs, m2, hD, hF, hl, hs⟩
        exact kQ _ _ ⟨Dl, xs, fs, rfl, neD, m2, hD, hF, by omega, hs⟩
    rintro _ H1 ⟨l, xs, fs, rfl, nel, m1, hL, hF, hn, hs⟩
    refine a_set (fun v H' => ∃ l xs fs, v = .ref l ∧ l ≠ d ∧ Mv d H H' ∧ H' l = some (.lst xs) ∧ FormsAt H' xs fs ∧ (fs.length : Int) ≤ n ∧ ∀ f ∈ fs, Side h f) (fun Q' kQ => ?_) ?_
    · refine ⟨_, rfl, l, rfl, ⟨_, SqL.of hL⟩, fun Dl nD => ?_⟩
      have neD := m1.dice.ne nD
      have neL : l ≠ Dl := ne_of_none hL nD
      have l5 : Nat.log2 5 < 9000 := by decide +kernel
      refine lc_list (K := K) (a := l) (xs := xs) (fun i H' => ∃ ys gs, Mv d H H' ∧ H' l = some (.lst xs) ∧ FormsAt H' xs fs ∧ H' Dl = some (.lst ys) ∧ FormsAt H' ys gs ∧ gs.length = i ∧ ∀ f ∈ gs, Side h f) ?_ ?_ ?_ ?_
      · refine ⟨[], [], m1.new nD, by rw [upd_ne neL]; exact hL, hF.keep fun p zs q => same_new nD _ _ q, upd_same, .nil, rfl, fun _ z => nomatch z⟩
      · rintro i H' _ ⟨ys, gs, _, hL', _⟩
        exact SqL.of hL'
      · rintro i x H2 hi ⟨ys, gs, m2, hL2, hF2, hD, hG, hl, hs2⟩
        obtain ⟨p, g, rfl, hg, hp⟩ := hF2.get i x hi
        have sg : Side h g := hs g (List.mem_of_getElem? hg)
        have lys : ys.length < sizeLine := by
          rw [hG.len, hl]
          have : i < xs.length := (List.getElem?_eq_some_iff.mp hi).1
          rw [hF.len] at this
          exact small1000 (by omega)
        refine ⟨rfl, ?_⟩
        refine ⟨_, rfl, d, 5, rfl, m2.dice, (by decide), l5, fun r3 H3 a3 b3 m3 f3 => ?_⟩
        have hD3 := m3.get neD hD
        have hL3 := m3.get nel hL2
        have hF3 := hF2.keep (m3.tups m2.dice)
        have hG3 := hG.keep (m3.tups m2.dice)
        refine ⟨_, _, rfl, rfl, _, rfl, ite2 (fun q => ?_) (fun q => ?_)⟩
        · have hp3 := m3.tups m2.dice _ _ hp
          refine ⟨_, rfl, ys, hD3, lys, ys ++ [.ref p], gs ++ [g], (m2.trans m3).set (m1.free nD) neD, by rw [upd_ne neL]; exact hL3, hF3.keep (tups_put hD3), upd_same, ?_, ?_, ?_⟩
          · exact (hG3.append (.cons hp3 .nil)).keep (tups_put hD3)
          · rw [List.length_append, hl]
            rfl
          · intro g' hg'
            rcases List.mem_append.mp hg' with z | z
            · exact hs2 g' z
            · rw [List.mem_singleton.mp z]
              exact sg
        · refine ⟨(by show 2 ≤ sizeLine; decide), fun p2 np2 => ?_⟩
          have s4 := same_new (o := .tup [.int 0, .int 0]) np2
          have hD4 := s4 _ _ hD3
          refine ⟨ys, hD4, lys, ys ++ [.ref p2], gs ++ [(0, 0)], ((m2.trans m3).new np2).set (m1.free nD) neD, by rw [upd_ne neL]; exact s4 _ _ hL3, (hF3.keep fun p zs q => s4 _ _ q).keep (tups_put hD4), upd_same, ?_, ?_, ?_⟩
          · exact ((hG3.keep fun p zs q => s4 _ _ q).append (.cons (f := (0, 0)) upd_same .nil)).keep (tups_put hD4)
          · rw [List.length_append, hl]
            rfl
          · intro g' hg'
            rcases List.mem_append.mp hg' with z | z
            · exact hs2 g' z
            · rw [List.mem_singleton.mp z]
              exact ⟨Int.le_refl _, h0, Int.le_refl _, h0⟩
      · rintro H2 ⟨ys, gs, m2, hL2, hF2, hD, hG, hl, hs2⟩
        exact kQ _ _ ⟨Dl, ys, gs, rfl, neD, m2, hD, hG, by rw [hl, hF.len]; exact hn, hs2⟩
    rintro _ H2 ⟨l2, ys, gs, rfl, ne2, m2, hL2, hG, hn2, hs2⟩
    refine ⟨_, rfl, d, l2, gs, ys, rfl, m2.dice, ne2, hL2, hG.dx m2.dice, (by omega), fun p H3 m3 hp => ?_⟩
    have sub := cutF_sub gs
    exact k p (cutF gs) H3 (fun f hf => hs2 f (sub.2 f hf)) (by have := sub.1; omega) (cutF_cut gs) (m2.trans m3) hp
end

/-! ## check_arity, check_row, sides_of, length_of, with right arguments -/
def spCheckArity : Sp := fun vs H Q _ => ∃ k : Int, vs = [.int k] ∧ (k = 2 ∨ k = 3) ∧ ∀ H', Same H H' → Q .non H'
def spCheckRow : Sp := fun vs H Q _ => ∃ (x : V) (d : PyData), vs = [x] ∧ Dx H x d ∧ rowB d = true ∧ ∀ H', Same H H' → Q .non H'
def sideL (k : Int) (fs : List (Int × Int)) : Int := fs.foldr (fun f a => a * k + f.1) 0
def sideR (k : Int) (fs : List (Int × Int)) : Int := fs.foldr (fun f a => a * k + f.2) 0
def spSides : Sp := fun vs H Q _ => ∃ (k : Int) (x : V) (fs : List (Int × Int)), vs = [.int k, x] ∧ (k = 2 ∨ k = 3) ∧ Dx H x (rowD fs) ∧ rowB (rowD fs) = true ∧
  ∀ (p : Addr) (H' : Hp), H p = none → Same H H' → H' p = some (.tup [.int (sideL k fs), .int (sideR k fs)]) → Q (.ref p) H'
def spLength : Sp := fun vs H Q _ => ∃ (k : Int) (x : V) (fs : List (Int × Int)), vs = [.int k, x] ∧ (k = 2 ∨ k = 3) ∧ Dx H x (rowD fs) ∧ rowB (rowD fs) = true ∧
  ∀ H' : Hp, Same H H' → Q (.int (sideL k fs + sideR k fs)) H'
theorem FormsAt.reverse {H : Hp} : ∀ {xs : List V} {fs : List (Int × Int)}, FormsAt H xs fs → FormsAt H xs.reverse fs.reverse
  | _, _, .nil => .nil
  | _, _, .cons a b => by
    rw [List.reverse_cons, List.reverse_cons]
    exact (FormsAt.reverse b).append (.cons a .nil)
theorem Dx.rowOf {H : Hp} {x : V} {fs : List (Int × Int)} (h : Dx H x (rowD fs)) : ∃ a xs, x = .ref a ∧ H a = some (.tup xs) ∧ FormsAt H xs fs := by
  obtain ⟨a, xs, e, h1, h2⟩ := h.tupOf
  exact ⟨a, xs, e, h1, FormsAt.of fs h2⟩
section
variable {gq : Bool} {P : Program} {w : World} {K : PySem.W.Frag} {mg : Str → Option Value} {base : Heap}
theorem c_check_arity (T : Txt K mg) (C_is_within : CalQ gq P w K mg base 2 "is_within" ["value", "least", "greatest"] spWithin) (D : DefAt K mg "check_arity" s_check_arity ["arity"]) : CalQ gq P w K mg base 3 "check_arity" ["arity"] spCheckArity := by
  refine calOkQ D sc_check_arity (fun xs H Q E h => ?_) (fun f cdv A out s H xs Q E hgd hr h => ?_)
  · obtain ⟨k, rfl, _⟩ := h
    rfl
  · obtain ⟨n, rfl, hn, k⟩ := h
    have nd := sc_check_arity.nd
    refine ⟨_, (pss_one (ps_if (pt_not (pt_val (pe_kq C_is_within hgd hr (by decide) rfl (pa_cons (pv 0) (pa_cons pe_int (pa_cons pe_int pa_nil)))))) (pss_one (ps_never)) pss_nil)), ?_⟩
    have sm : within (.int n) 2 3 = true := by
      show (smallB n && (decide (2 ≤ n) && decide (n ≤ 3))) = true
      unfold smallB BIG
      rw [decide_eq_true (by omega), decide_eq_true (by omega), decide_eq_true (by omega), decide_eq_true (by omega)]
      rfl
    refine a_if1 (fun b H' => b = false ∧ Same H H') (fun Q' kQ => ?_) (fun H' h => nomatch h.1) (fun H' h => k H' h.2)
    exact ⟨_, rfl, _, _, 2, 3, rfl, .int n, fun H1 s1 => ⟨true, congrArg V.bl sm, kQ _ _ ⟨rfl, s1⟩⟩⟩
theorem c_check_row (T : Txt K mg) (C_is_row : CalQ gq P w K mg base 6 "is_row" ["value"] (spJ rowB)) (D : DefAt K mg "check_row" s_check_row ["row"]) : CalQ gq P w K mg base 7 "check_row" ["row"] spCheckRow := by
  refine calOkQ D sc_check_row (fun xs H Q E h => ?_) (fun f cdv A out s H xs Q E hgd hr h => ?_)
  · obtain ⟨x, d, rfl, _⟩ := h
    rfl
  · obtain ⟨x, d, rfl, hx, hb, k⟩ := h
    have nd := sc_check_row.nd
    refine ⟨_, (pss_one (ps_if (pt_not (pt_val (pe_kq C_is_row hgd hr (by decide) rfl (pa_cons (pv 0) pa_nil)))) (pss_one (ps_never)) pss_nil)), ?_⟩
    refine a_if1 (fun b H' => b = false ∧ Same H H') (fun Q' kQ => ?_) (fun H' h => nomatch h.1) (fun H' h => k H' h.2)
    exact ⟨_, rfl, _, _, rfl, hx, fun H1 s1 => ⟨true, congrArg V.bl hb, kQ _ _ ⟨rfl, s1⟩⟩⟩
def spSums : Sp := fun vs H Q _ => ∃ (k : Int) (x : V) (fs : List (Int × Int)), vs = [.int k, x] ∧ (k = 2 ∨ k = 3) ∧ Dx H x (rowD fs) ∧
  ∀ (p : Addr) (H' : Hp), H p = none → Same H H' → H' p = some (.tup [.int (sideL k fs), .int (sideR k fs)]) → Q (.ref p) H'
end
end G

set_option Elab.async false
set_option linter.all false
set_option maxRecDepth 100000
set_option maxHeartbeats 4000000
namespace G
open PySem PySem.Spec PyProof.Rows L2
theorem walk_enumT {K : PySem.W.Frag} {a : Addr} {xs : List V} : Walk (IteT K a) xs.length (fun H => SqT K H a xs) (YPair (fun i => some (.int (i : Nat))) (fun i => xs[i]?)) := by
  refine ⟨fun i _ lt hq => ⟨xs, xs[i], hq, by simp [lt]⟩, fun _ hq => ⟨xs, hq, Nat.le_refl _⟩, fun i H v G _ hq y => ?_⟩
  obtain ⟨T, x, e1, e2, e3, e4⟩ := y
  exact ⟨T, .int (i : Nat), x, e1, e2, e3, rfl, e4 xs hq⟩
/-! ## data of tuples, texts and numbers alone -/
mutual
inductive Tx (H : Hp) : V → PyData → Prop
  | non : Tx H .non .none
  | int (i : Int) : Tx H (.int i) (.int i)
  | str (x : Str) : Tx H (.str x) (.str x)
  | tup {a : Addr} {xs : List V} {ds : List PyData} : H a = some (.tup xs) → TxAll H xs ds → Tx H (.ref a) (.tuple ds)
inductive TxAll (H : Hp) : List V → List PyData → Prop
  | nil : TxAll H [] []
  | cons {x : V} {d : PyData} {xs : List V} {ds : List PyData} : Tx H x d → TxAll H xs ds → TxAll H (x :: xs) (d :: ds)
end
def TupK (H H' : Hp) : Prop := ∀ (p : Addr) (zs : List V), H p = some (.tup zs) → H' p = some (.tup zs)
theorem TupK.same {H H' : Hp} (s : Same H H') : TupK H H' := fun _ _ z => s _ _ z
mutual
theorem Tx.keep {H H' : Hp} (s : TupK H H') : ∀ {x : V} {d : PyData}, Tx H x d → Tx H' x d
  | _, _, .non => .non
  | _, _, .int i => .int i
  | _, _, .str x => .str x
  | _, _, .tup h a => .tup (s _ _ h) (TxAll.keep s a)
theorem TxAll.keep {H H' : Hp} (s : TupK H H') : ∀ {xs : List V} {ds : List PyData}, TxAll H xs ds → TxAll H' xs ds
  | _, _, .nil => .nil
  | _, _, .cons a b => .cons (Tx.keep s a) (TxAll.keep s b)
end
mutual
theorem Tx.dx {H : Hp} : ∀ {x : V} {d : PyData}, Tx H x d → Dx H x d
  | _, _, .non => .non
  | _, _, .int i => .int i
  | _, _, .str x => .str x
  | _, _, .tup h a => .tup h (TxAll.dx a)
theorem TxAll.dx {H : Hp} : ∀ {xs : List V} {ds : List PyData}, TxAll H xs ds → DxAll H xs ds
  | _, _, .nil => .nil
  | _, _, .cons a b => .cons (Tx.dx a) (TxAll.dx b)
end
theorem Tx.grow {H H' : Hp} {x : V} {d : PyData} (h : Tx H x d) (s : Same H H') : Tx H' x d := h.keep (TupK.same s)
theorem TxAll.grow {H H' : Hp} {xs : List V} {ds : List PyData} (h : TxAll H xs ds) (s : Same H H') : TxAll H' xs ds := h.keep (TupK.same s)
theorem TxAll.len {H : Hp} : ∀ {xs : List V} {ds : List PyData}, TxAll H xs ds → xs.length = ds.length
  | _, _, .nil => rfl
  | _, _, .cons _ b => by rw [List.length_cons, List.length_cons, TxAll.len b]
theorem TxAll.append {H : Hp} : ∀ {xs ys : List V} {ds es : List PyData}, TxAll H xs ds → TxAll H ys es → TxAll H (xs ++ ys) (ds ++ es)
  | _, _, _, _, .nil, h => h
  | _, _, _, _, .cons a b, h => .cons a (TxAll.append b h)
theorem TxAll.reverse {H : Hp} : ∀ {xs : List V} {ds : List PyData}, TxAll H xs ds → TxAll H xs.reverse ds.reverse
  | _, _, .nil => .nil
  | _, _, .cons a b => by
    rw [List.reverse_cons, List.reverse_cons]
    exact (TxAll.reverse b).append (.cons a .nil)
theorem TxAll.get {H : Hp} : ∀ {xs : List V} {ds : List PyData}, TxAll H xs ds → ∀ (i : Nat) (x : V), xs[i]? = some x → ∃ d, ds[i]? = some d ∧ Tx H x d
  | _, _, .nil, _, _, e => by cases e
  | _, _, .cons a b, 0, x, e => by
    cases e
    exact ⟨_, rfl, a⟩
  | _, _, .cons a b, i + 1, x, e => TxAll.get b i x e
theorem TxAll.getD {H : Hp} : ∀ {xs : List V} {ds : List PyData}, TxAll H xs ds → ∀ (i : Nat) (d : PyData), ds[i]? = some d → ∃ x, xs[i]? = some x ∧ Tx H x d
  | _, _, .nil, _, _, e => by cases e
  | _, _, .cons a b, 0, x, e => by
    cases e
    exact ⟨_, rfl, a⟩
  | _, _, .cons a b, i + 1, x, e => TxAll.getD b i x e
theorem Tx.tupOf {H : Hp} {x : V} {ds : List PyData} (h : Tx H x (.tuple ds)) : ∃ a xs, x = .ref a ∧ H a = some (.tup xs) ∧ TxAll H xs ds := by
  cases h with
  | tup h1 h2 => exact ⟨_, _, rfl, h1, h2⟩
theorem same_put {H H' : Hp} {D : Addr} {o : HO} (m : Same H H') (n : H D = none) : Same H (upd H' D o) := fun b u q => by
  rw [upd_ne (fun e => by rw [e, n] at q; cases q)]
  exact m b u q
theorem tupk_put {H : Hp} {l : Addr} {zs : List V} {o : HO} (hl : H l = some (.lst zs)) : TupK H (upd H l o) := fun p xs h => by
  rw [upd_ne (fun e => by rw [e, hl] at h; cases h)]
  exact h
theorem take_one {α : Type} {fs : List α} {i : Nat} {f : α} (h : fs[i]? = some f) : fs.take (i + 1) = fs.take i ++ [f] := by rw [List.take_add_one, h]; rfl
def castF (g : Nat × Nat) : Int × Int := ((g.1 : Int), (g.2 : Int))
def rowN (gs : List (Nat × Nat)) : List (Int × Int) := gs.map castF
def Small (gs : List (Nat × Nat)) : Prop := gs.length ≤ 5 ∧ ∀ g ∈ gs, g.1 ≤ 7 ∧ g.2 ≤ 7
def RowAt (H : Hp) (v : V) (fs : List (Int × Int)) : Prop := ∃ a xs, v = .ref a ∧ H a = some (.tup xs) ∧ FormsAt H xs fs
theorem RowAt.grow {H H' : Hp} {v : V} {fs : List (Int × Int)} (h : RowAt H v fs) (s : Same H H') : RowAt H' v fs := by
  obtain ⟨a, xs, e, h1, h2⟩ := h
  exact ⟨a, xs, e, s _ _ h1, h2.keep fun _ _ z => s _ _ z⟩
theorem FormsAt.dx0 {H : Hp} : ∀ {xs : List V} {fs : List (Int × Int)}, FormsAt H xs fs → DxAll H xs (fs.map formD)
  | _, _, .nil => .nil
  | _, _, .cons a b => .cons (.tup a (.cons (.int _) (.cons (.int _) .nil))) (FormsAt.dx0 b)
theorem RowAt.dx0 {H : Hp} {v : V} {fs : List (Int × Int)} (h : RowAt H v fs) : Dx H v (rowD fs) := by
  obtain ⟨a, xs, rfl, h1, h2⟩ := h
  exact .tup h1 h2.dx0
def szD (K : Nat) (b : Blk) : PyData := .tuple [.int (b.lev : Nat), .str b.side, .int (b.sz K : Nat)]
def spnD (s : Spn) : PyData := .tuple [.int (s.lev : Nat), .str s.side, .int (s.beg : Nat), .int (s.fin : Nat)]
def plcD (p : Plc) : PyData := .tuple [.int (p.lev : Nat), .str p.side, .int (p.idx : Nat), .tuple (p.path.map fun c => .int (c : Nat))]
theorem lefts_snoc (g : Nat × Nat) : ∀ (gs : List (Nat × Nat)) (i : Nat), lefts i (gs ++ [g]) = lefts i gs ++ [⟨i + gs.length, "left", g.1⟩]
  | [], i => rfl
  | x :: r, i => by
    have := lefts_snoc g r (i + 1)
    simp only [List.cons_append, lefts, this, List.length_cons]
    rw [show i + 1 + r.length = i + (r.length + 1) by omega]
theorem rights_snoc (g : Nat × Nat) : ∀ (gs : List (Nat × Nat)) (i : Nat), rights i (gs ++ [g]) = rights i gs ++ [⟨i + gs.length, "right", g.2⟩]
  | [], i => rfl
  | x :: r, i => by
    have := rights_snoc g r (i + 1)
    simp only [List.cons_append, rights, this, List.length_cons]
    rw [show i + 1 + r.length = i + (r.length + 1) by omega]
theorem lefts_len : ∀ (gs : List (Nat × Nat)) (i : Nat), (lefts i gs).length = gs.length ∧ (rights i gs).length = gs.length
  | [], _ => ⟨rfl, rfl⟩
  | g :: r, i => by
    have := lefts_len r (i + 1)
    simp only [lefts, rights, List.length_cons, this.1, this.2, and_self]
theorem spansB_app (K : Nat) : ∀ (xs ys : List Blk) (a : Nat), spansB K a (xs ++ ys) = spansB K a xs ++ spansB K (a + total K xs) ys
  | [], ys, a => rfl
  | b :: r, ys, a => by
    have e : a + total K (b :: r) = a + b.sz K + total K r := by
      show a + (b.sz K + total K r) = _
      omega
    rw [List.cons_append, spansB, spansB, e, spansB_app K r ys]
    split <;> rfl
theorem spansB_len (K : Nat) : ∀ (bs : List Blk) (a : Nat), (spansB K a bs).length ≤ bs.length
  | [], _ => Nat.le_refl _
  | b :: r, a => by
    have := spansB_len K r (a + b.sz K)
    rw [spansB]
    split <;> simp only [List.length_cons] <;> omega
theorem total_snoc (K : Nat) (xs : List Blk) (b : Blk) : total K (xs ++ [b]) = total K xs + b.sz K := by
  simp [total]
/-! ## the sides, and what is no member of them -/
structure TxtS (K : PySem.W.Frag) (mg : Str → Option Value) (aS : Addr) : Prop where
  g : ∃ u, mg "SIDES" = some u ∧ RelV (.ref aS) u
  at_ : ∃ (o : Obj) (t1 t2 : Tok) (n : Nat), K.lookup aS = some o ∧ o.cls = .type "tuple" ∧ o.dict = none ∧ o.data = .seq #[.str "left" t1, .str "right" t2] n
theorem TxtS.sq {K : PySem.W.Frag} {mg : Str → Option Value} {aS : Addr} (S : TxtS K mg aS) (H : Hp) : SqT K H aS [.str "left", .str "right"] := by
  obtain ⟨o, t1, t2, n, h1, h2, _, h3⟩ := S.at_
  exact .inr ⟨o, _, n, h1, h2, h3, by show 2 ≤ sizeLine; decide, .cons ⟨_, rfl⟩ (.cons ⟨_, rfl⟩ .nil)⟩
theorem TxtS.kind {K : PySem.W.Frag} {mg : Str → Option Value} {aS : Addr} (S : TxtS K mg aS) : ∃ o, K.lookup aS = some o ∧ o.cls = .type "tuple" ∧ o.dict = none := by
  obtain ⟨o, t1, t2, n, h1, h2, h3, _⟩ := S.at_
  exact ⟨o, h1, h2, h3⟩
def sidesD : List PyData := [.str "left", .str "right"]
def rNotInT (K : PySem.W.Frag) : R2 := fun x y H Q => ∃ (d : PyData) (ds : List PyData), Dp K H x d ∧ Dp K H y (.tuple ds) ∧ SeqAt.shaped d = true ∧ PyData.canLayAll0 ds = true ∧ PyData.depthAll ds ≤ 60 ∧ Q (.bl (!ds.any fun z => PyData.eqv z d)) H
theorem op_notInT {X : Cx} (hu : X.A.units + 65 < cLine) : OpR X (compareOp .NotIn) (rNotInT X.K) := by
  intro pins s σ H x y v u Q I rx ry h
  obtain ⟨d, ds, hd, he, sd, ce, de, q⟩ := h
  obtain ⟨as, r1⟩ := Dp.reads I d x v hd rx
  obtain ⟨bs, r2⟩ := Dp.reads I (.tuple ds) y u he ry
  exact SeqAt.notIn_tuple_reads r2 r1 ce (SeqAt.canLay_of_shaped sd) (by omega) ⟨.bl _, H, I, rfl, q⟩
/-! ## what a place is -/
def pathB (k : Nat) (lv : Int) : PyData → Bool
  | .tuple ds => decide ((ds.length : Int) = lv) && ds.all fun d => within d 0 ((k : Int) - 1)
  | _ => false
def manyAt (gs : List (Nat × Nat)) (a s : PyData) : Int := match a with
  | .int lv => match gs[lv.toNat]? with
    | some g => if PyData.eqv (.str "left") s then (g.1 : Int) else (g.2 : Int)
    | none => 0
  | _ => 0
def levOf : PyData → Int
  | .int lv => lv
  | _ => 0
def placeB (k : Nat) (gs : List (Nat × Nat)) : PyData → Bool
  | .tuple [a, s, i, p] => within a 0 ((gs.length : Int) - 1) && ((sidesD.any fun z => PyData.eqv z s) && (within i 0 (manyAt gs a s - 1) && pathB k (levOf a) p))
  | _ => false
def spIsPlace : Sp := fun vs H Q _ => ∃ (k : Nat) (x y : V) (gs : List (Nat × Nat)) (d : PyData), vs = [.int (k : Nat), x, y] ∧ (k = 2 ∨ k = 3) ∧ RowAt H x (rowN gs) ∧ Small gs ∧ rowB (rowD (rowN gs)) = true ∧ Dx H y d ∧
  (∀ a s i p, d = .tuple [a, s, i, p] → s.hasDict = false ∧ SeqAt.shaped s = true) ∧ ∀ H', Same H H' → Q (.bl (placeB k gs d)) H'
def is4 : PyData → Bool
  | .tuple [_, _, _, _] => true
  | _ => false
theorem is4_len (ds : List PyData) : is4 (.tuple ds) = decide (ds.length = 4) := by
  match ds with
  | [] => rfl
  | [_] => rfl
  | [_, _] => rfl
  | [_, _, _] => rfl
  | [_, _, _, _] => rfl
  | _ :: _ :: _ :: _ :: _ :: r => simp [is4]
theorem sides_any {s : PyData} (h : (sidesD.any fun z => PyData.eqv z s) = true) : s = .str "left" ∨ s = .str "right" := by
  cases s with
  | str z =>
    simp only [sidesD, List.any_cons, List.any_nil, Bool.or_false, Bool.or_eq_true, PyData.eqv, beq_iff_eq] at h
    rcases h with h | h
    · exact .inl (by rw [← h])
    · exact .inr (by rw [← h])
  | _ => simp [sidesD, PyData.eqv] at h
theorem many_at {gs : List (Nat × Nat)} {n : Nat} {g : Nat × Nat} (hg : gs[n]? = some g) : manyAt gs (.int (n : Nat)) (.str "left") = (g.1 : Nat) ∧ manyAt gs (.int (n : Nat)) (.str "right") = (g.2 : Nat) := by
  have e1 : PyData.eqv (.str "left") (.str "left") = true := by decide +kernel
  have e2 : PyData.eqv (.str "left") (.str "right") = false := by decide +kernel
  simp only [manyAt, Int.toNat_natCast, hg, e1, e2, if_true, Bool.false_eq_true, if_false, and_self]
section
variable {gq : Bool} {P : Program} {w : World} {K : PySem.W.Frag} {mg : Str → Option Value} {base : Heap}
theorem c_is_place {aS : Addr} (T : Txt K mg) (TS : TxtS K mg aS) (C_is_within : CalQ gq P w K mg base 2 "is_within" ["value", "least", "greatest"] spWithin) (C_check_arity : CalQ gq P w K mg base 3 "check_arity" ["arity"] spCheckArity)
    (C_check_row : CalQ gq P w K mg base 7 "check_row" ["row"] spCheckRow) (D : DefAt K mg "is_place" s_is_place ["arity", "row", "value"]) : CalQ gq P w K mg base 8 "is_place" ["arity", "row", "value"] spIsPlace := by
  refine calOkQ D sc_is_place (fun xs H Q E h => ?_) (fun f cdv A out s H xs Q E hgd hr h => ?_)
  · obtain ⟨k, x, y, gs, d, rfl, _⟩ := h
    rfl
  · obtain ⟨kk, x, y, gs, d, rfl, hk, hx, hsm, hb, hy, hd, k⟩ := h
    have nd := sc_is_place.nd
    refine ⟨_, (pss_cons (ps_expr (pe_kq C_check_arity hgd hr (by decide) rfl (pa_cons (pv 0) pa_nil)))
      (pss_cons (ps_expr (pe_kq C_check_row hgd hr (by decide) rfl (pa_cons (pv 1) pa_nil)))
      (pss_cons (ps_if (PW.pt (pw_or (pt_not (pt_val (pe_callB call_isi (by rfl) T.isinstance (by decide +kernel) (pa_cons (pv 2) (pa_cons (pe_ty "tuple" rfl T.tuple (by decide +kernel)) pa_nil))))) (pw_or1 (pt_cmpR op_ne (pe_callB call_len_seq (by rfl) T.len (by decide +kernel) (pa_cons (pv 2) pa_nil)) pe_int (nomark _))))) (pss_one (ps_ret pe_bl)) pss_nil)
      (pss_cons (ps_asg (pv 2) (pg_tup (by rfl) (pgs_cons (pg_name (i := 3) nd rfl (.inl rfl)) (pgs_cons (pg_name (i := 4) nd rfl (.inl rfl)) (pgs_cons (pg_name (i := 5) nd rfl (.inl rfl)) (pgs_cons (pg_name (i := 6) nd rfl (.inl rfl)) pgs_nil))))))
      (pss_cons (ps_if (PW.pt (pw_or (pt_not (pt_val (pe_kq C_is_within hgd hr (by decide) rfl (pa_cons (pv 3) (pa_cons pe_int (pa_cons (pe_op op_sub (pe_callB call_len_seq (by rfl) T.len (by decide +kernel) (pa_cons (pv 1) pa_nil)) pe_int) pa_nil)))))) (pw_or1 (pt_cmpR (op_notInT (hu65 hr)) (pv 4) (pe_gv rfl TS.g) rfl)))) (pss_one (ps_ret pe_bl)) pss_nil)
      (pss_cons (ps_if (pt_not (pt_val (pe_kq C_is_within hgd hr (by decide) rfl (pa_cons (pv 5) (pa_cons pe_int (pa_cons (pe_op op_sub (pe_ix ix_tup (pe_ix ix_tup (pv 1) (pv 3) (fun _ _ => rfl)) (pe_bm PySem.F.plainAttrs_tuple PySem.F.slot_tuple_index PySem.F.type_tuple_index mt_tup_index (pe_gv rfl TS.g) (pa_cons (pv 4) pa_nil)) (fun _ _ => rfl)) pe_int) pa_nil)))))) (pss_one (ps_ret pe_bl)) pss_nil)
      (pss_one (ps_ret (pe_and (pe_callB call_isi (by rfl) T.isinstance (by decide +kernel) (pa_cons (pv 6) (pa_cons (pe_ty "tuple" rfl T.tuple (by decide +kernel)) pa_nil))) (pe_and (pe_cmpR op_eq (pe_callB call_len_seq (by rfl) T.len (by decide +kernel) (pa_cons (pv 6) pa_nil)) (pv 3) (nomark _)) (pe_one (pe_callB (cr_all rfl) (by rfl) T.all (by decide +kernel) (pa_cons (pe_lc (own := [("part", 7)]) (g := gName 7) (by rfl) nd (pi_tup (pv 6)) (blkOk_by (own := [("part", 7)]) (N := N_is_place) (sc := defScope s_is_place) (by decide +kernel)) (fun _ _ _ _ _ => pg_name (i := 7) nd rfl (.inl rfl)) (fun _ _ _ _ _ => pts_nil) (fun _ _ _ _ _ => pe_kq C_is_within hgd hr (by decide) rfl (pa_cons (pv 7) (pa_cons pe_int (pa_cons (pe_op op_sub (pv 0) pe_int) pa_nil))))) pa_nil))))))))))))), ?_⟩
    refine ⟨_, rfl, (kk : Nat), rfl, by omega, fun H1 s1 => ?_⟩
    refine ⟨_, rfl, x, _, rfl, (hx.grow s1).dx0, hb, fun H2 s2 => ?_⟩
    have s12 := s1.trans s2
    replace hy := hy.grow s12
    replace hx := hx.grow s12
    refine go_nx ?_
    refine a_if (fun b H' => b = !is4 d ∧ H2 = H') (fun Q' kQ => ?_) ?_ ?_
    · cases hy with
      | tup h1 h2 =>
        have hl := h2.len
        refine ⟨_, rfl, _, _, _, _, true, rfl, .ty _, Dx.ty (.tup h1 h2), kit_ty (by show kitB "tuple" _ = _; decide +kernel), true, rfl, ?_⟩
        refine iteF ⟨_, rfl, _, _, rfl, .inr (SqT.of h1), rfl, _, congrArg V.bl (?_ : _ = !is4 _), kQ _ _ ⟨rfl, rfl⟩⟩
        rw [is4_len]
        congr 1
        refine decide_eq_decide.mpr ⟨fun e => ?_, fun e => ?_⟩
        · have := V.int.inj e
          omega
        · rw [hl, e]
          rfl
      | int i => exact ⟨_, rfl, _, _, _, _, false, rfl, .ty _, Dx.ty (.int i), kit_ty (by show kitB "int" _ = _; decide +kernel), false, rfl, iteT (kQ _ _ ⟨rfl, rfl⟩)⟩
      | bl b => exact ⟨_, rfl, _, _, _, _, false, rfl, .ty _, Dx.ty (.bl b), kit_ty (by show kitB "bool" _ = _; decide +kernel), false, rfl, iteT (kQ _ _ ⟨rfl, rfl⟩)⟩
      | non => exact ⟨_, rfl, _, _, _, _, false, rfl, .ty _, Dx.ty .non, kit_ty (by decide +kernel), false, rfl, iteT (kQ _ _ ⟨rfl, rfl⟩)⟩
      | str x => exact ⟨_, rfl, _, _, _, _, false, rfl, .ty _, Dx.ty (.str x), kit_ty (by show kitB "str" _ = _; decide +kernel), false, rfl, iteT (kQ _ _ ⟨rfl, rfl⟩)⟩
      | lst h1 h2 => exact ⟨_, rfl, _, _, _, _, false, rfl, .ty _, Dx.ty (.lst h1 h2), kit_ty (by show kitB "list" _ = _; decide +kernel), false, rfl, iteT (kQ _ _ ⟨rfl, rfl⟩)⟩
      | dct h1 h2 => exact ⟨_, rfl, _, _, _, _, false, rfl, .ty _, Dx.ty (.dct h1 h2), kit_ty (by show kitB "dict" _ = _; decide +kernel), false, rfl, iteT (kQ _ _ ⟨rfl, rfl⟩)⟩
    · rintro _ ⟨h1, rfl⟩
      have e : placeB kk gs d = false := by
        unfold is4 at h1
        unfold placeB
        split at h1
        · cases h1
        · rename_i h2
          rfl
      rw [e] at k
      exact k _ s12
    · rintro _ ⟨h1, rfl⟩
      obtain ⟨da, ds, di, dp, rfl⟩ : ∃ a s i p, d = .tuple [a, s, i, p] := by
        unfold is4 at h1
        split at h1
        · exact ⟨_, _, _, _, rfl⟩
        · cases h1
      refine go_nx ?_
      obtain ⟨q, ys, rfl, hq, hys⟩ := hy.tupOf
      cases hys with
      | cons ya r1 => cases r1 with
        | cons yb r2 => cases r2 with
          | cons yc r3 => cases r3 with
            | cons yd r4 =>
              cases r4
              rename_i va vs vi vp
              obtain ⟨sd1, sd2⟩ := hd _ _ _ _ rfl
              refine ⟨_, rfl, q, _, rfl, SqT.of hq, rfl, _, _, rfl, _, _, rfl, _, _, rfl, _, _, rfl, rfl, ?_⟩
              refine go_nx ?_
              obtain ⟨a, xs, rfl, ha, hF⟩ := hx
              have lx := hF.len
              have lg : (rowN gs).length = gs.length := List.length_map ..
              have ln : ((xs.length : Nat) : Int) - 1 = (gs.length : Int) - 1 := by omega
              refine a_if (fun b H' => b = !(within da 0 ((gs.length : Int) - 1) && (sidesD.any fun z => PyData.eqv z ds)) ∧ Same H2 H') (fun Q' kQ => ?_) ?_ ?_
              · refine ⟨_, rfl, _, rfl, _, _, rfl, .inr (SqT.of ha), _, _, rfl, rfl, va, da, 0, _, rfl, ya, fun H3 s3 => ⟨_, rfl, ?_⟩⟩
                rw [ln]
                cases hw : within da 0 ((gs.length : Int) - 1) with
                | false => exact iteT (kQ _ _ ⟨by rw [hw, Bool.false_and] <;> rfl, s3⟩)
                | true =>
                  refine iteF ⟨_, rfl, ds, sidesD, (yb.grow s3).dp sd1, .tup (TS.sq _) (.cons (.str _) (.cons (.str _) .nil)), sd2, by decide +kernel, by decide +kernel, _, rfl, kQ _ _ ⟨by rw [hw, Bool.true_and], s3⟩⟩
              · rintro H3 ⟨h3, s3⟩
                have e : placeB kk gs (.tuple [da, ds, di, dp]) = false := by
                  have : (within da 0 ((gs.length : Int) - 1) && (sidesD.any fun z => PyData.eqv z ds)) = false := by
                    cases hz : (within da 0 ((gs.length : Int) - 1) && (sidesD.any fun z => PyData.eqv z ds)) with
                    | false => rfl
                    | true => rw [hz] at h3; cases h3
                  show (within da 0 ((gs.length : Int) - 1) && ((sidesD.any fun z => PyData.eqv z ds) && (within di 0 (manyAt gs da ds - 1) && pathB kk (levOf da) dp))) = false
                  rw [← Bool.and_assoc, this, Bool.false_and]
                rw [e] at k
                exact k _ (s12.trans s3)
              · rintro H3 ⟨h3, s3⟩
                have h3 : (within da 0 ((gs.length : Int) - 1) && (sidesD.any fun z => PyData.eqv z ds)) = true := by
                  cases hz : (within da 0 ((gs.length : Int) - 1) && (sidesD.any fun z => PyData.eqv z ds)) with
                  | true => rfl
                  | false => rw [hz] at h3; cases h3
                rw [Bool.and_eq_true] at h3
                refine go_nx ?_
                obtain ⟨ha3, hs3⟩ := h3
                obtain ⟨lv, rfl⟩ : ∃ lv, da = .int lv := int_of (by unfold within at ha3; rw [Bool.and_eq_true] at ha3; exact ha3.1)
                have hl3 : 0 ≤ lv ∧ lv ≤ (gs.length : Int) - 1 := by
                  unfold within at ha3
                  simp only [Bool.and_eq_true, decide_eq_true_eq] at ha3
                  exact ha3.2
                obtain ⟨n, rfl⟩ : ∃ n : Nat, lv = (n : Int) := ⟨lv.toNat, by omega⟩
                have hn : n < gs.length := by omega
                cases ya
                obtain ⟨g, hg⟩ : ∃ g, gs[n]? = some g := ⟨_, List.getElem?_eq_getElem hn⟩
                obtain ⟨p, hp1, hp2⟩ : ∃ p, xs[n]? = some (.ref p) ∧ H3 p = some (.tup [.int (g.1 : Nat), .int (g.2 : Nat)]) := by
                  obtain ⟨p, f, e, hf, hp⟩ := hF.get n xs[n] (List.getElem?_eq_getElem (by omega))
                  have ef : f = castF g := by
                    have : (rowN gs)[n]? = some f := hf
                    rw [rowN, List.getElem?_map, hg] at this
                    exact (Option.some.inj this).symm
                  subst ef
                  exact ⟨p, by rw [List.getElem?_eq_getElem (by omega), e], s3 _ _ hp⟩
                obtain ⟨sd, j, rfl, hj, hjn, hm⟩ : ∃ (sd : Str) (j : Nat), ds = .str sd ∧ [("left" : Str), "right"][j]? = some sd ∧ (∀ m, m < j → [("left" : Str), "right"][m]? ≠ some sd) ∧ [V.int (g.1 : Nat), .int (g.2 : Nat)][j]? = some (.int (manyAt gs (.int (n : Int)) ds)) := by
                  obtain ⟨m1, m2⟩ := many_at hg
                  rcases sides_any hs3 with rfl | rfl
                  · exact ⟨"left", 0, rfl, rfl, fun m h => absurd h (Nat.not_lt_zero m), by rw [m1]; rfl⟩
                  · refine ⟨"right", 1, rfl, rfl, fun m h => ?_, by rw [m2]; rfl⟩
                    obtain rfl : m = 0 := by omega
                    show some ("left" : Str) ≠ some "right"
                    exact fun z => left_ne (Option.some.inj z)
                cases yb
                refine a_if (fun b H' => b = !within di 0 (manyAt gs (.int (n : Int)) (.str sd) - 1) ∧ Same H3 H') (fun Q' kQ => ?_) ?_ ?_
                · refine ⟨_, rfl, _, rfl, _, rfl, _, _, _, _, rfl, rfl, SqT.of (s3 _ _ ha), atI_nat hp1, ?_⟩
                  refine ⟨.inr (.inl ⟨rfl, TS.kind⟩), _, rfl, aS, ["left", "right"], sd, j, rfl, rfl, TS.sq _, hj, hjn, ?_⟩
                  refine ⟨p, _, _, _, rfl, rfl, SqT.of hp2, atI_nat hm, _, _, rfl, rfl, vi, di, 0, _, rfl, yc.grow s3, fun H4 s4 => ⟨_, rfl, kQ _ _ ⟨rfl, s4⟩⟩⟩
                · rintro H4 ⟨h4, s4⟩
                  have e : placeB kk gs (.tuple [.int (n : Int), .str sd, di, dp]) = false := by
                    have : within di 0 (manyAt gs (.int (n : Int)) (.str sd) - 1) = false := by
                      cases hz : within di 0 (manyAt gs (.int (n : Int)) (.str sd) - 1) with
                      | false => rfl
                      | true => rw [hz] at h4; cases h4
                    show (within (.int (n : Int)) 0 ((gs.length : Int) - 1) && ((sidesD.any fun z => PyData.eqv z (.str sd)) && (within di 0 (manyAt gs (.int (n : Int)) (.str sd) - 1) && pathB kk (n : Int) dp))) = false
                    rw [this, Bool.false_and, Bool.and_false, Bool.and_false]
                  rw [e] at k
                  exact k _ (s12.trans (s3.trans s4))
                · rintro H4 ⟨h4, s4⟩
                  have h4 : within di 0 (manyAt gs (.int (n : Int)) (.str sd) - 1) = true := by
                    cases hz : within di 0 (manyAt gs (.int (n : Int)) (.str sd) - 1) with
                    | true => rfl
                    | false => rw [hz] at h4; cases h4
                  have e : placeB kk gs (.tuple [.int (n : Int), .str sd, di, dp]) = pathB kk (n : Int) dp := by
                    show (within (.int (n : Int)) 0 ((gs.length : Int) - 1) && ((sidesD.any fun z => PyData.eqv z (.str sd)) && (within di 0 (manyAt gs (.int (n : Int)) (.str sd) - 1) && pathB kk (n : Int) dp))) = _
                    rw [ha3, hs3, h4, Bool.true_and, Bool.true_and, Bool.true_and]
                  rw [e] at k
                  replace yd := yd.grow (s3.trans s4)
                  have s14 := s12.trans (s3.trans s4)
                  refine go_nx ?_
                  cases yd with
                  | tup g1 g2 =>
                    rename_i pa ps pds
                    have hl := g2.len
                    refine ⟨_, rfl, _, _, _, _, true, rfl, .ty _, Dx.ty (.tup g1 g2), kit_ty (by show kitB "tuple" _ = _; decide +kernel), true, rfl, iteT ?_⟩
                    refine ⟨_, rfl, _, _, rfl, .inr (SqT.of g1), _, rfl, rfl, _, rfl, ite2 (fun q1 => ?_) (fun q1 => ?_)⟩
                    · have el : (ps.length : Int) = (n : Int) := V.int.inj (of_decide_eq_true q1)
                      have few : ps.length ≤ 5 := by
                        have := hsm.1
                        omega
                      refine ⟨_, rfl, pa, rfl, ⟨_, SqT.of g1⟩, fun Dl nD => ?_⟩
                      refine lc_tup (K := K) (a := pa) (xs := ps) (fun i H' => Same H4 H' ∧ H' Dl = some (.lst (((pds.take i).map fun d => within d 0 ((kk : Int) - 1)).map V.bl))) ?_ ?_ ?_ ?_
                      · exact ⟨same_new nD, upd_same⟩
                      · rintro i H' _ ⟨s5, _⟩
                        exact SqT.of (s5 _ _ g1)
                      · rintro i y H5 hi ⟨s5, hD⟩
                        obtain ⟨d, hd, hy⟩ := g2.get i y hi
                        refine ⟨rfl, ?_⟩
                        refine ⟨_, rfl, _, rfl, _, _, rfl, rfl, y, d, 0, _, rfl, hy.grow s5, fun H6 s6 => ?_⟩
                        refine ⟨_, s6 _ _ hD, ?_, Same.put (s5.trans s6) nD, ?_⟩
                        · rw [List.length_map, List.length_map, List.length_take]
                          exact small1000 (by omega)
                        · rw [upd_same, List.take_add_one, hd, List.map_append, List.map_append]
                          rfl
                      · rintro H5 ⟨s5, hD⟩
                        refine ⟨Dl, _, rfl, SqL.of hD, ?_⟩
                        have e2 := k H5 (s14.trans s5)
                        have ef : pathB kk (n : Int) (.tuple pds) = ((pds.take ps.length).map fun d => within d 0 ((kk : Int) - 1)).all id := by
                          rw [hl, List.take_length]
                          simp only [pathB]
                          rw [decide_eq_true (by omega), Bool.true_and, List.all_map]
                          rfl
                        rw [ef] at e2
                        exact e2
                    · have nf : pathB kk (n : Int) (.tuple pds) = false := by
                        simp only [pathB]
                        rw [decide_eq_false (fun z => q1 (decide_eq_true (congrArg V.int (by omega)))), Bool.false_and]
                      rw [nf] at k
                      exact k _ s14
                  | int i => exact ⟨_, rfl, _, _, _, _, false, rfl, .ty _, Dx.ty (.int i), kit_ty (by show kitB "int" _ = _; decide +kernel), false, rfl, iteF (k _ s14)⟩
                  | bl b => exact ⟨_, rfl, _, _, _, _, false, rfl, .ty _, Dx.ty (.bl b), kit_ty (by show kitB "bool" _ = _; decide +kernel), false, rfl, iteF (k _ s14)⟩
                  | non => exact ⟨_, rfl, _, _, _, _, false, rfl, .ty _, Dx.ty .non, kit_ty (by decide +kernel), false, rfl, iteF (k _ s14)⟩
                  | str x => exact ⟨_, rfl, _, _, _, _, false, rfl, .ty _, Dx.ty (.str x), kit_ty (by show kitB "str" _ = _; decide +kernel), false, rfl, iteF (k _ s14)⟩
                  | lst g1 g2 => exact ⟨_, rfl, _, _, _, _, false, rfl, .ty _, Dx.ty (.lst g1 g2), kit_ty (by show kitB "list" _ = _; decide +kernel), false, rfl, iteF (k _ s14)⟩
                  | dct g1 g2 => exact ⟨_, rfl, _, _, _, _, false, rfl, .ty _, Dx.ty (.dct g1 g2), kit_ty (by show kitB "dict" _ = _; decide +kernel), false, rfl, iteF (k _ s14)⟩
end
/-! ## sums over rows -/
theorem sideL_snoc (k : Int) (f : Int × Int) : ∀ xs : List (Int × Int), sideL k (xs ++ [f]) = sideL k xs + k ^ xs.length * f.1
  | [] => by simp [sideL]
  | x :: r => by
    have ih := sideL_snoc k f r
    simp only [sideL, List.cons_append, List.foldr_cons, List.length_cons] at ih ⊢
    rw [ih, Int.add_mul, Int.pow_succ, Int.mul_assoc, Int.mul_comm f.1 k, ← Int.mul_assoc]
    omega
theorem sideR_snoc (k : Int) (f : Int × Int) : ∀ xs : List (Int × Int), sideR k (xs ++ [f]) = sideR k xs + k ^ xs.length * f.2
  | [] => by simp [sideR]
  | x :: r => by
    have ih := sideR_snoc k f r
    simp only [sideR, List.cons_append, List.foldr_cons, List.length_cons] at ih ⊢
    rw [ih, Int.add_mul, Int.pow_succ, Int.mul_assoc, Int.mul_comm f.2 k, ← Int.mul_assoc]
    omega
theorem side_bound {k : Int} (hk : k = 2 ∨ k = 3) : ∀ {fs : List (Int × Int)}, (∀ f ∈ fs, Side 7 f) → 0 ≤ sideL k fs ∧ sideL k fs + 7 ≤ 7 * 4 ^ fs.length ∧ 0 ≤ sideR k fs ∧ sideR k fs + 7 ≤ 7 * 4 ^ fs.length
  | [], _ => by simp [sideL, sideR]
  | f :: r, h => by
    obtain ⟨a1, a2, a3, a4⟩ := side_bound hk (fs := r) fun g hg => h g (List.mem_cons_of_mem _ hg)
    obtain ⟨b1, b2, b3, b4⟩ := h f List.mem_cons_self
    simp only [sideL, sideR, List.foldr_cons, List.length_cons] at a1 a2 a3 a4 ⊢
    have e : (4 : Int) ^ (r.length + 1) = 4 ^ r.length * 4 := Int.pow_succ ..
    rw [e]
    rcases hk with rfl | rfl <;> omega
theorem side3 {fs : List (Int × Int)} (h : ∀ f ∈ fs, Side 3 f) : ∀ f ∈ fs, Side 7 f := fun f hf => by
  obtain ⟨a, b, c, d⟩ := h f hf
  exact ⟨a, by omega, c, by omega⟩
theorem pow4 {n : Nat} (h : n ≤ 5) : (4 : Int) ^ n ≤ 1024 := by
  match n, h with
  | 0, _ => decide
  | 1, _ => decide
  | 2, _ => decide
  | 3, _ => decide
  | 4, _ => decide
  | 5, _ => decide
/-! ## lengths, places and digits: pure -/
theorem dig_front {K : Nat} : ∀ n q, dig K (n + 1) q = (q / K ^ n % K) :: dig K n q
  | 0, q => by simp [dig]
  | n + 1, q => by
    have e : q / K ^ (n + 1) = q / K / K ^ n := by rw [Nat.pow_succ, Nat.mul_comm, Nat.div_div_eq_div_mul]
    rw [dig, dig_front n (q / K), e, List.cons_append]
    rfl
theorem total_lefts (k : Nat) : ∀ (gs : List (Nat × Nat)) (i : Nat), ((total k (lefts i gs) : Nat) : Int) = ((k ^ i : Nat) : Int) * sideL k (rowN gs) ∧ ((total k (rights i gs) : Nat) : Int) = ((k ^ i : Nat) : Int) * sideR k (rowN gs)
  | [], i => by simp [lefts, rights, total, rowN, sideL, sideR]
  | g :: r, i => by
    obtain ⟨h1, h2⟩ := total_lefts k r (i + 1)
    have e1 : total k (lefts i (g :: r)) = g.1 * k ^ i + total k (lefts (i + 1) r) := rfl
    have e2 : total k (rights i (g :: r)) = g.2 * k ^ i + total k (rights (i + 1) r) := rfl
    have e3 : sideL k (rowN (g :: r)) = sideL k (rowN r) * k + (g.1 : Int) := rfl
    have e4 : sideR k (rowN (g :: r)) = sideR k (rowN r) * k + (g.2 : Int) := rfl
    have e5 : ((k ^ (i + 1) : Nat) : Int) = ((k ^ i : Nat) : Int) * (k : Int) := by rw [Nat.pow_succ]; exact Int.natCast_mul ..
    rw [e1, e2, e3, e4, Int.natCast_add, Int.natCast_add, h1, h2, e5, Int.natCast_mul, Int.natCast_mul, Int.mul_add, Int.mul_add, Int.mul_assoc, Int.mul_assoc, Int.mul_comm (sideL k (rowN r)), Int.mul_comm (sideR k (rowN r)), Int.mul_comm (g.1 : Int), Int.mul_comm (g.2 : Int)]
    omega
theorem total_app (K : Nat) (xs ys : List Blk) : total K (xs ++ ys) = total K xs + total K ys := by simp [total]
theorem total_rev (K : Nat) (xs : List Blk) : total K xs.reverse = total K xs := by simp [total]
theorem places_len (k : Nat) (gs : List (Nat × Nat)) : ((places k gs).length : Int) = sideL k (rowN gs) + sideR k (rowN gs) := by
  obtain ⟨h1, h2⟩ := total_lefts k gs 0
  unfold places blocks
  rw [placesB_len, total_app, total_rev, Int.natCast_add, h1, h2]
  simp
theorem within_int {a lo hi : Int} (h1 : lo ≤ a) (h2 : a ≤ hi) (h3 : -1000000 ≤ a) (h4 : a ≤ 1000000) : within (.int a) lo hi = true := by
  have e1 : intB (.int a) = true := by
    show smallB a = true
    unfold smallB BIG
    rw [decide_eq_true (by omega), decide_eq_true (by omega)]
    rfl
  unfold within
  rw [e1, Bool.true_and]
  show (decide (lo ≤ a) && decide (a ≤ hi)) = true
  rw [decide_eq_true h1, decide_eq_true h2]
  rfl
theorem within_pred {n m : Nat} (h : n < m) (h3 : m ≤ 100000) : within (.int (n : Nat)) 0 ((m : Int) - 1) = true := within_int (by omega) (by omega) (by omega) (by omega)
theorem placeB_eq (k : Nat) (gs : List (Nat × Nat)) (a s i p : PyData) : placeB k gs (.tuple [a, s, i, p]) = (within a 0 ((gs.length : Int) - 1) && ((sidesD.any fun z => PyData.eqv z s) && (within i 0 (manyAt gs a s - 1) && pathB k (levOf a) p))) := rfl
theorem pathB_ints {k : Nat} (hk : k ≤ 100) (lv : Nat) (cs : List Nat) (h1 : cs.length = lv) (h2 : ∀ c ∈ cs, c < k) : pathB k (lv : Nat) (.tuple (cs.map fun c => .int (c : Nat))) = true := by
  have e : pathB k (lv : Nat) (.tuple (cs.map fun c => .int (c : Nat))) = (decide (((cs.map fun c => PyData.int (c : Nat)).length : Int) = (lv : Int)) && (cs.map fun c => PyData.int (c : Nat)).all fun d => within d 0 ((k : Int) - 1)) := rfl
  rw [e, List.length_map, decide_eq_true (by omega), Bool.true_and, List.all_eq_true]
  intro d hd
  obtain ⟨c, hc, rfl⟩ := List.mem_map.mp hd
  have lt := h2 c hc
  exact within_pred lt (by omega)
/-- all that the program needs of the place with a number -/
theorem place_facts {k : Nat} (hk : 0 < k) {gs : List (Nat × Nat)} {n : Nat} {p : Plc} (h : (places k gs)[n]? = some p) :
    ∃ s : Spn, (∃ r, (spansB k 0 (blocks gs)).filter (fun t => decide (t.beg ≤ n) && decide (n < t.fin)) = s :: r) ∧ (∃ r, (spansB k 0 (blocks gs)).filter (fun t => decide (t.lev = p.lev ∧ t.side = p.side)) = s :: r) ∧
      s.lev = p.lev ∧ s.side = p.side ∧ s.beg ≤ n ∧ n < s.fin ∧ p.idx = (n - s.beg) / k ^ p.lev ∧ p.path = dig k p.lev (n - s.beg) ∧
      ∃ g, gs[p.lev]? = some g ∧ ((p.side = "left" ∧ p.idx < g.1) ∨ (p.side = "right" ∧ p.idx < g.2)) := by
  obtain ⟨s, b, hb, hs, e1, e2, h1, h2, h3, rfl⟩ := place_in (K := k) (blocks gs) 0 n p h
  rw [Nat.zero_add] at h1 h2 h3
  refine ⟨s, filter_one hs (by rw [decide_eq_true h1, decide_eq_true h2]; rfl) (fun t ht q => ?_), filter_one hs (decide_eq_true ⟨e1, e2⟩) (fun t ht q => ?_), e1, e2, h1, h2, ?_, ?_, ?_⟩
  · rw [Bool.and_eq_true, decide_eq_true_eq, decide_eq_true_eq] at q
    exact (span_one _ _ n s t hs ht h1 h2 q.1 q.2).symm
  · obtain ⟨q1, q2⟩ := of_decide_eq_true q
    exact span_key _ _ s t (blocks_apart gs) hs ht (q1.trans e1.symm) (q2.trans e2.symm)
  · rw [Nat.zero_add]
    rfl
  · rw [Nat.zero_add]
    rfl
  · obtain ⟨g, hg, hc⟩ := blocks_mem hb
    refine ⟨g, hg, ?_⟩
    have lt : (n - s.beg) / k ^ b.lev < b.many := by
      refine Nat.div_lt_of_lt_mul ?_
      rw [Nat.mul_comm]
      exact h3
    rw [Nat.zero_add]
    rcases hc with ⟨c1, c2⟩ | ⟨c1, c2⟩
    · exact .inl ⟨c1, by rw [← c2]; exact lt⟩
    · exact .inr ⟨c1, by rw [← c2]; exact lt⟩
theorem place_true {k : Nat} (hk : k = 2 ∨ k = 3) {gs : List (Nat × Nat)} (hsm : Small gs) {n : Nat} {p : Plc} (h : (places k gs)[n]? = some p) : placeB k gs (plcD p) = true := by
  obtain ⟨s, _, _, e1, e2, h1, h2, h3, h4, g, hg, hc⟩ := place_facts (by omega) h
  have hl : p.lev < gs.length := (List.getElem?_eq_some_iff.mp hg).1
  obtain ⟨l5, l7⟩ := hsm
  obtain ⟨g7, g8⟩ := l7 g (List.mem_of_getElem? hg)
  obtain ⟨m1, m2⟩ := many_at hg
  have hp := pathB_ints (k := k) (by omega) p.lev p.path (by rw [h4, dig_len]) (by rw [h4]; exact dig_lt (by omega) _ _)
  have hw := within_pred hl (by omega)
  have e : placeB k gs (plcD p) = _ := placeB_eq k gs (.int (p.lev : Nat)) (.str p.side) (.int (p.idx : Nat)) (.tuple (p.path.map fun c => .int (c : Nat)))
  rw [e, hw, Bool.true_and]
  have el : levOf (.int (p.lev : Nat)) = (p.lev : Nat) := rfl
  rw [el, hp, Bool.and_true]
  rcases hc with ⟨c1, c2⟩ | ⟨c1, c2⟩
  · rw [c1, m1, within_pred c2 (by omega), Bool.and_true]
    decide +kernel
  · rw [c1, m2, within_pred c2 (by omega), Bool.and_true]
    decide +kernel
theorem places_few {k : Nat} (hk : k = 2 ∨ k = 3) {gs : List (Nat × Nat)} (h : Small gs) : (places k gs).length ≤ 14336 := by
  have hs : ∀ f ∈ rowN gs, Side 7 f := fun f hf => by
    obtain ⟨g, hg, rfl⟩ := List.mem_map.mp hf
    obtain ⟨a, b⟩ := h.2 g hg
    exact ⟨by simp only [castF]; omega, by simp only [castF]; omega, by simp only [castF]; omega, by simp only [castF]; omega⟩
  obtain ⟨b1, b2, b3, b4⟩ := side_bound (k := (k : Int)) (by omega) hs
  have l : (rowN gs).length ≤ 5 := by
    rw [rowN, List.length_map]
    exact h.1
  have p4 := pow4 l
  have := places_len k gs
  omega
end G

set_option Elab.async false
set_option linter.all false
set_option maxRecDepth 100000
set_option maxHeartbeats 4000000
namespace G
open PySem PySem.Spec PyProof.Rows L2
/-! ## the law's own list of all places -/
def ListAt (H : Hp) (l : Addr) (ds : List PyData) : Prop := ∃ xs, H l = some (.lst xs) ∧ TxAll H xs ds
def pD (p : List Nat) : PyData := .tuple (p.map fun c => .int (c : Nat))
def long (c : Nat) (ps : List (List Nat)) : List (List Nat) := ps.flatMap fun p => (List.range c).map fun j => p ++ [j]
theorem long_app (c : Nat) (xs ys : List (List Nat)) : long c (xs ++ ys) = long c xs ++ long c ys := List.flatMap_append
theorem long_one (c : Nat) (p : List Nat) : long c [p] = (List.range c).map fun j => p ++ [j] := by simp [long]
theorem long_len (c : Nat) : ∀ ps, (long c ps).length = ps.length * c
  | [] => by simp [long]
  | p :: r => by
    have e : long c (p :: r) = long c [p] ++ long c r := long_app c [p] r
    rw [e, List.length_append, long_one, long_len c r, List.length_map, List.length_range, List.length_cons, Nat.succ_mul, Nat.add_comm]
theorem long_dig {c : Nat} (i : Nat) (hc : 0 < c) : ∀ n, long c ((List.range n).map (dig c i)) = (List.range (n * c)).map (dig c (i + 1))
  | 0 => by simp [long]
  | n + 1 => by
    rw [List.range_succ, List.map_append, long_app, long_dig i hc n, Nat.succ_mul, List.range_add, List.map_append]
    congr 1
    rw [List.map_cons, List.map_nil, long_one, List.map_map]
    refine List.map_congr_left fun j hj => ?_
    have hj : j < c := List.mem_range.mp hj
    show dig c i n ++ [j] = dig c i ((n * c + j) / c) ++ [(n * c + j) % c]
    have e1 : (n * c + j) / c = n := by
      rw [Nat.add_comm, Nat.add_mul_div_right _ _ hc, Nat.div_eq_of_lt hj, Nat.zero_add]
    have e2 : (n * c + j) % c = j := by
      rw [Nat.add_comm, Nat.add_mul_mod_self_right, Nat.mod_eq_of_lt hj]
    rw [e1, e2]
theorem blk_step {c : Nat} (b : Blk) (hc : 0 < c) (i : Nat) : (List.range ((i + 1) * c ^ b.lev)).map (plc c b) = (List.range (i * c ^ b.lev)).map (plc c b) ++ (List.range (c ^ b.lev)).map fun p => (⟨b.lev, b.side, i, dig c b.lev p⟩ : Plc) := by
  rw [Nat.succ_mul, List.range_add, List.map_append, List.map_map]
  congr 1
  refine List.map_congr_left fun j hj => ?_
  have hj : j < c ^ b.lev := List.mem_range.mp hj
  have hp : 0 < c ^ b.lev := Nat.pow_pos hc
  show (⟨b.lev, b.side, (i * c ^ b.lev + j) / c ^ b.lev, dig c b.lev (i * c ^ b.lev + j)⟩ : Plc) = _
  have e1 : (i * c ^ b.lev + j) / c ^ b.lev = i := by
    rw [Nat.add_comm, Nat.add_mul_div_right _ _ hp, Nat.div_eq_of_lt hj, Nat.zero_add]
  rw [e1, dig_add hc]
theorem rights_get : ∀ (gs : List (Nat × Nat)) (k j : Nat) (g : Nat × Nat), gs[j]? = some g → (rights k gs)[j]? = some ⟨k + j, "right", g.2⟩
  | [], _, _, _, h => by simp at h
  | x :: r, k, 0, g, h => by
    have h : x = g := Option.some.inj h
    subst h
    rfl
  | x :: r, k, j + 1, g, h => by
    have h : r[j]? = some g := h
    show (rights (k + 1) r)[j]? = _
    rw [rights_get r (k + 1) j g h, show k + 1 + j = k + (j + 1) by omega]
theorem placesB_app (K : Nat) (xs ys : List Blk) : placesB K (xs ++ ys) = placesB K xs ++ placesB K ys := List.flatMap_append
theorem placesB_one (K : Nat) (b : Blk) : placesB K [b] = blkPlaces K b := by simp [placesB]
theorem powC {c n : Nat} (hc : c = 2 ∨ c = 3) (h : n ≤ 5) : c ^ n ≤ 243 := by
  rcases hc with rfl | rfl
  · match n, h with
    | 0, _ => decide
    | 1, _ => decide
    | 2, _ => decide
    | 3, _ => decide
    | 4, _ => decide
    | 5, _ => decide
  · match n, h with
    | 0, _ => decide
    | 1, _ => decide
    | 2, _ => decide
    | 3, _ => decide
    | 4, _ => decide
    | 5, _ => decide
def spLonger : Sp := fun vs H Q _ => ∃ (l : Addr) (c : Nat) (ps : List (List Nat)), vs = [.ref l, .int (c : Int)] ∧ (c = 2 ∨ c = 3) ∧ ListAt H l (ps.map pD) ∧ ps.length ≤ 300 ∧ (∀ p ∈ ps, p.length ≤ 20) ∧
  ∀ (q : Addr) (H' : Hp), Same H H' → ListAt H' q ((long c ps).map pD) → Q (.ref q) H'
def spPaths : Sp := fun vs H Q _ => ∃ (c lev : Nat), vs = [.int (c : Int), .int (lev : Int)] ∧ (c = 2 ∨ c = 3) ∧ lev ≤ 5 ∧ ∀ (q : Addr) (H' : Hp), Same H H' → ListAt H' q (((List.range (c ^ lev)).map (dig c lev)).map pD) → Q (.ref q) H'
def spSideP : Sp := fun vs H Q _ => ∃ (c lev many : Nat) (sd : Str), vs = [.int (c : Int), .int (lev : Int), .str sd, .int (many : Int)] ∧ (c = 2 ∨ c = 3) ∧ lev ≤ 5 ∧ many ≤ 7 ∧
  ∀ (q : Addr) (H' : Hp), Same H H' → ListAt H' q ((blkPlaces c ⟨lev, sd, many⟩).map plcD) → Q (.ref q) H'
def spAll : Sp := fun vs H Q _ => ∃ (c : Nat) (x : V) (gs : List (Nat × Nat)), vs = [.int (c : Int), x] ∧ (c = 2 ∨ c = 3) ∧ RowAt H x (rowN gs) ∧ Small gs ∧
  ∀ (q : Addr) (H' : Hp), H q = none → Same H H' → ListAt H' q ((places c gs).map plcD) → Q (.ref q) H'
section
variable {P : Program} {w : World} {K : PySem.W.Frag} {mg : Str → Option Value} {base : Heap}
theorem c_longer (T : Txt K mg) (D : DefAt K mg "_law_longer" s__law_longer ["_law_paths_here", "_law_arity"]) : CalG P w K mg base 1 "_law_longer" ["_law_paths_here", "_law_arity"] spLonger := by
  refine calOk D sc__law_longer (fun xs H Q E h => ?_) (fun f cdv A out s H xs Q E hgd hr h => ?_)
  · obtain ⟨l, c, ps, rfl, _⟩ := h
    rfl
  · obtain ⟨l, c, ps, rfl, hc, ⟨xs, hl, hX⟩, hn, hm, k⟩ := h
    have nd := sc__law_longer.nd
    refine ⟨_, (pss_cons (ps_set (i := 2) nd rfl (.inl rfl) (pe_lst pa_nil))
      (pss_cons (ps_for PassesOwn.never rfl (pi_list (pv 0)) (pg_name (i := 3) nd rfl (.inr rfl)) (pss_one (ps_expr (pe_bm PySem.F.plainAttrs_list PySem.F.slot_list_extend PySem.F.type_list_extend mt_extend (pv 2) (pa_cons (pe_lc (own := [("_law_part", 4)]) (g := gName 4) (by rfl) nd (pi_range1 rfl T.range (pa_cons (pv 1) pa_nil)) (blkOk_by (own := [("_law_part", 4)]) (N := N__law_longer) (sc := defScope s__law_longer) (by decide +kernel)) (fun _ _ _ _ _ => pg_name (i := 4) nd rfl (.inl rfl)) (fun _ _ _ _ _ => pts_nil) (fun _ _ _ _ _ => pe_op (show OpR _ (binaryOp .Add) (rCatA K) from op_catA) (pv 3) (pe_tup (pa_cons (pv 4) pa_nil)))) pa_nil)))))
      (pss_one (ps_ret (pv 2))))), ?_⟩
    have lx := hX.len
    rw [List.length_map] at lx
    refine ⟨(by show 0 ≤ sizeLine; decide), fun q nq => ?_⟩
    have s1 := same_new (o := .lst []) nq
    refine ⟨_, rfl, l, rfl, ⟨_, SqL.of (s1 _ _ hl)⟩, ?_⟩
    refine for_list (K := K) (a := l) (xs := xs) (fun i σ H' => ∃ v3 v4 ys, σ = [some (.ref l), some (.int c), some (.ref q), v3, v4] ∧ Same H H' ∧ H' q = some (.lst ys) ∧ TxAll H' ys ((long c (ps.take i)).map pD)) ?_ ?_ ?_ ?_
    · exact ⟨_, _, [], rfl, s1, upd_same, .nil⟩
    · rintro i σ H' _ ⟨_, _, _, _, s2, _⟩
      exact SqL.of (s2 _ _ hl)
    · rintro i x σ H2 hi ⟨v3, v4, ys, rfl, s2, hq, hY⟩
      obtain ⟨d, hd, hx⟩ := hX.get i x hi
      rw [List.getElem?_map] at hd
      obtain ⟨p0, hp0, rfl⟩ := Option.map_eq_some_iff.mp hd
      have hp20 := hm p0 (List.mem_of_getElem? hp0)
      obtain ⟨a, zs, rfl, ha2, hZ⟩ := (hx.grow s2).tupOf
      have lz := hZ.len
      rw [List.length_map] at lz
      have hil : i < xs.length := (List.getElem?_eq_some_iff.mp hi).1
      have ly := hY.len
      rw [List.length_map, long_len, List.length_take, Nat.min_eq_left (by omega)] at ly
      refine ⟨_, rfl, .inl ⟨rfl, _, SqL.of hq⟩, _, rfl, _, rfl, (by omega), (by omega), fun Dl nD => ?_⟩
      have nqD : q ≠ Dl := ne_of_none hq nD
      refine lc_range (fun j H' => ∃ ws, Same H2 H' ∧ H' Dl = some (.lst ws) ∧ TxAll H' ws (((List.range j).map fun t => p0 ++ [t]).map pD)) ?_ ?_ ?_
      · exact ⟨[], same_new nD, upd_same, .nil⟩
      · rintro j H3 hj ⟨ws, s3, hD, hW⟩
        have lw := hW.len
        rw [List.length_map, List.length_map, List.length_range] at lw
        refine ⟨rfl, ?_⟩
        have e0 : (0 : Int) + (j : Int) = ((j : Nat) : Int) := Int.zero_add _
        rw [e0]
        refine ⟨_, rfl, _, rfl, (by show 1 ≤ sizeLine; decide), fun p np => ?_⟩
        have s4 := same_new (o := .tup [.int (j : Int)]) np
        have hD4 := s4 _ _ hD
        have lw : ws.length < sizeLine := small1000 (by omega)
        have put : ∀ (H5 : Hp) (r : Addr) (us : List V), Same (upd H3 p (.tup [.int (j : Int)])) H5 → H5 r = some (.tup us) → TxAll H5 us ((p0 ++ [j]).map fun c => .int (c : Nat)) →
            ∃ acc, H5 Dl = some (.lst acc) ∧ acc.length < sizeLine ∧ ∃ ws', Same H2 (upd H5 Dl (.lst (acc ++ [.ref r]))) ∧ upd H5 Dl (.lst (acc ++ [.ref r])) Dl = some (.lst ws') ∧
              TxAll (upd H5 Dl (.lst (acc ++ [.ref r]))) ws' (((List.range (j + 1)).map fun t => p0 ++ [t]).map pD) := by
          intro H5 r us s5 hr5 hu
          have hD5 := s5 _ _ hD4
          have kp : TupK H5 (upd H5 Dl (.lst (ws ++ [.ref r]))) := tupk_put hD5
          refine ⟨ws, hD5, lw, ws ++ [.ref r], Same.put ((s3.trans s4).trans s5) nD, upd_same, ?_⟩
          rw [List.range_succ, List.map_append, List.map_append]
          exact ((hW.grow (s4.trans s5)).keep kp).append (.cons (.tup (kp _ _ hr5) (hu.keep kp)) .nil)
        refine ⟨a, p, zs, [.int (j : Int)], rfl, rfl, SqT.of (s4 _ _ (s3 _ _ ha2)), SqT.of upd_same, Nat.le_trans (show zs.length + 1 ≤ 100 by omega) (by decide), fun e => ?_, fun _ e => ?_, fun _ _ r nr => ?_⟩
        · subst e
          have e1 : p0 = [] := List.eq_nil_of_length_eq_zero (by rw [← lz]; rfl)
          subst e1
          exact put _ p _ (Same.refl _) upd_same (.cons (.int _) .nil)
        · cases e
        · refine put _ r _ (same_new nr) upd_same ?_
          rw [List.map_append]
          exact (hZ.grow ((s3.trans s4).trans (same_new nr))).append (.cons (.int _) .nil)
      · rintro H3 ⟨ws, s3, hD, hW⟩
        have hq3 := s3 _ _ hq
        have lw := hW.len
        rw [List.length_map, List.length_map, List.length_range] at lw
        have b1 : i * c ≤ 900 := by
          have := Nat.mul_le_mul (show i ≤ 300 by omega) (show c ≤ 3 by omega)
          omega
        refine ⟨q, Dl, ys, ws, rfl, rfl, hq3, hD, Nat.le_trans (show ys.length + ws.length ≤ 1000 by omega) (by decide), ?_⟩
        have kp : TupK H3 (upd H3 q (.lst (ys ++ ws))) := tupk_put hq3
        refine ⟨_, _, ys ++ ws, rfl, Same.put (s2.trans s3) nq, upd_same, ?_⟩
        rw [take_one hp0, long_app, long_one, List.map_append]
        exact ((hY.grow s3).keep kp).append (hW.keep kp)
    · rintro σ H2 ⟨v3, v4, ys, rfl, s2, hq, hY⟩
      rw [lx, List.take_length] at hY
      exact ⟨_, rfl, k q H2 s2 ⟨ys, hq, hY⟩⟩
theorem c_paths (T : Txt K mg) (C__law_longer : CalG P w K mg base 1 "_law_longer" ["_law_paths_here", "_law_arity"] spLonger) (D : DefAt K mg "_law_paths" s__law_paths ["_law_arity", "_law_level"]) :
    CalG P w K mg base 2 "_law_paths" ["_law_arity", "_law_level"] spPaths := by
  refine calOk D sc__law_paths (fun xs H Q E h => ?_) (fun f cdv A out s H xs Q E hgd hr h => ?_)
  · obtain ⟨c, lev, rfl, _⟩ := h
    rfl
  · obtain ⟨c, lev, rfl, hc, hlev, k⟩ := h
    have nd := sc__law_paths.nd
    refine ⟨_, (pss_cons (ps_set (i := 2) nd rfl (.inl rfl) (pe_lst (pa_cons (pe_tup pa_nil) pa_nil)))
      (pss_cons (ps_for PassesOwn.never rfl (pi_range1 rfl T.range (pa_cons (pv 1) pa_nil)) (pg_name (i := 3) nd rfl (.inl rfl)) (pss_one (ps_set (i := 2) nd rfl (.inl rfl) (pe_k C__law_longer hgd hr (by decide) rfl (pa_cons (pv 2) (pa_cons (pv 0) pa_nil))))))
      (pss_one (ps_ret (pv 2))))), ?_⟩
    refine ⟨(by show 0 ≤ sizeLine; decide), fun p np => ⟨(by show 1 ≤ sizeLine; decide), fun q nq => ?_⟩⟩
    have s1 := same_new (o := .tup []) np
    have s2 := same_new (o := .lst [.ref p]) nq
    refine ⟨_, rfl, _, rfl, (by omega), (by omega), ?_⟩
    refine for_range (fun i σ H' => ∃ v3 q, σ = [some (.int c), some (.int lev), some (.ref q), v3] ∧ Same H H' ∧ ListAt H' q (((List.range (c ^ i)).map (dig c i)).map pD)) ?_ ?_ ?_
    · refine ⟨_, q, rfl, s1.trans s2, [.ref p], upd_same, ?_⟩
      have e : ((List.range (c ^ 0)).map (dig c 0)).map pD = [pD []] := rfl
      rw [e]
      exact .cons (.tup (s2 _ _ upd_same) .nil) .nil
    · rintro i σ H2 hi ⟨v3, q2, rfl, s3, hp⟩
      refine ⟨_, rfl, _, rfl, q2, c, (List.range (c ^ i)).map (dig c i), rfl, hc, hp, ?_, fun p hp => ?_, fun q3 H3 s4 h3 => ?_⟩
      · have := powC hc (show i ≤ 5 by omega)
        rw [List.length_map, List.length_range]
        omega
      · obtain ⟨j, _, rfl⟩ := List.mem_map.mp hp
        rw [dig_len]
        omega
      · refine ⟨_, q3, rfl, s3.trans s4, ?_⟩
        rw [long_dig i (by omega)] at h3
        rw [Nat.pow_succ]
        exact h3
    · rintro σ H2 ⟨v3, q2, rfl, s3, hp⟩
      exact ⟨_, rfl, k q2 H2 s3 hp⟩
theorem c_side_places (T : Txt K mg) (C__law_paths : CalG P w K mg base 2 "_law_paths" ["_law_arity", "_law_level"] spPaths) (D : DefAt K mg "_law_side_places" s__law_side_places ["_law_arity", "_law_level", "_law_side", "_law_many"]) :
    CalG P w K mg base 3 "_law_side_places" ["_law_arity", "_law_level", "_law_side", "_law_many"] spSideP := by
  refine calOk D sc__law_side_places (fun xs H Q E h => ?_) (fun f cdv A out s H xs Q E hgd hr h => ?_)
  · obtain ⟨c, lev, many, sd, rfl, _⟩ := h
    rfl
  · obtain ⟨c, lev, many, sd, rfl, hc, hlev, hmany, k⟩ := h
    have nd := sc__law_side_places.nd
    refine ⟨_, (pss_cons (ps_set (i := 4) nd rfl (.inl rfl) (pe_lst pa_nil))
      (pss_cons (ps_for PassesOwn.never rfl (pi_range1 rfl T.range (pa_cons (pv 3) pa_nil)) (pg_name (i := 5) nd rfl (.inr rfl)) (pss_one (ps_expr (pe_bm PySem.F.plainAttrs_list PySem.F.slot_list_extend PySem.F.type_list_extend mt_extend (pv 4) (pa_cons (pe_lc (own := [("_law_path", 6)]) (g := gName 6) (by rfl) nd (pi_list (pe_k C__law_paths hgd hr (by decide) rfl (pa_cons (pv 0) (pa_cons (pv 1) pa_nil)))) (blkOk_by (own := [("_law_path", 6)]) (N := N__law_side_places) (sc := defScope s__law_side_places) (by decide +kernel)) (fun _ _ _ _ _ => pg_name (i := 6) nd rfl (.inl rfl)) (fun _ _ _ _ _ => pts_nil) (fun _ _ _ _ _ => pe_tup (pa_cons (pv 1) (pa_cons (pv 2) (pa_cons (pv 5) (pa_cons (pv 6) pa_nil)))))) pa_nil)))))
      (pss_one (ps_ret (pv 4))))), ?_⟩
    have hpow := powC hc hlev
    refine ⟨(by show 0 ≤ sizeLine; decide), fun q nq => ?_⟩
    refine ⟨_, rfl, _, rfl, (by omega), (by omega), ?_⟩
    refine for_range (fun i σ H' => ∃ v5 v6 ys, σ = [some (.int c), some (.int lev), some (.str sd), some (.int many), some (.ref q), v5, v6] ∧ Same H H' ∧ H' q = some (.lst ys) ∧ TxAll H' ys (((List.range (i * c ^ lev)).map (plc c ⟨lev, sd, many⟩)).map plcD)) ?_ ?_ ?_
    · refine ⟨_, _, [], rfl, same_new nq, upd_same, ?_⟩
      rw [Nat.zero_mul]
      exact .nil
    · rintro i σ H2 hi ⟨v5, v6, ys, rfl, s2, hq, hY⟩
      have ly := hY.len
      rw [List.length_map, List.length_map, List.length_range] at ly
      refine ⟨_, rfl, .inl ⟨rfl, _, SqL.of hq⟩, _, rfl, _, rfl, c, lev, rfl, hc, hlev, fun q3 H3 s3 h3 => ?_⟩
      obtain ⟨xs, hq3, hX⟩ := h3
      have lx := hX.len
      rw [List.length_map, List.length_map, List.length_range] at lx
      refine ⟨q3, rfl, ⟨_, SqL.of hq3⟩, fun Dl nD => ?_⟩
      refine lc_list (K := K) (a := q3) (xs := xs) (fun j H' => ∃ ws, Same H3 H' ∧ H' Dl = some (.lst ws) ∧ TxAll H' ws (((List.range j).map fun p => (⟨lev, sd, i, dig c lev p⟩ : Plc)).map plcD)) ?_ ?_ ?_ ?_
      · exact ⟨[], same_new nD, upd_same, .nil⟩
      · rintro j H' _ ⟨_, s4, _⟩
        exact SqL.of (s4 _ _ hq3)
      · rintro j x H4 hj ⟨ws, s4, hD, hW⟩
        have hjl : j < xs.length := (List.getElem?_eq_some_iff.mp hj).1
        have lw := hW.len
        rw [List.length_map, List.length_map, List.length_range] at lw
        obtain ⟨d, hd, hx⟩ := hX.get j x hj
        have ed : d = pD (dig c lev j) := by
          rw [List.getElem?_map, List.getElem?_map, List.getElem?_range (by omega)] at hd
          exact (Option.some.inj hd).symm
        subst ed
        have e0 : (0 : Int) + (i : Int) = ((i : Nat) : Int) := Int.zero_add _
        rw [e0]
        refine ⟨rfl, ?_⟩
        refine ⟨_, rfl, _, rfl, _, rfl, _, rfl, (by show 4 ≤ sizeLine; decide), fun p np => ?_⟩
        have s5 := same_new (o := .tup [.int lev, .str sd, .int (i : Int), x]) np
        have hD5 := s5 _ _ hD
        have kp : TupK (upd H4 p (.tup [.int lev, .str sd, .int (i : Int), x])) (upd (upd H4 p (.tup [.int lev, .str sd, .int (i : Int), x])) Dl (.lst (ws ++ [.ref p]))) := tupk_put hD5
        refine ⟨ws, hD5, small1000 (by omega), ws ++ [.ref p], Same.put (s4.trans s5) nD, upd_same, ?_⟩
        rw [List.range_succ, List.map_append, List.map_append]
        exact ((hW.grow s5).keep kp).append (.cons (.tup (kp _ _ upd_same) (.cons (.int _) (.cons (.str _) (.cons (.int _) (.cons ((hx.grow (s4.trans s5)).keep kp) .nil))))) .nil)
      · rintro H4 ⟨ws, s4, hD, hW⟩
        have hq4 := s4 _ _ (s3 _ _ hq)
        have lw := hW.len
        rw [List.length_map, List.length_map, List.length_range] at lw
        have b1 : i * c ^ lev ≤ 7 * 243 := Nat.mul_le_mul (show i ≤ 7 by omega) hpow
        have kp : TupK H4 (upd H4 q (.lst (ys ++ ws))) := tupk_put hq4
        refine ⟨q, Dl, ys, ws, rfl, rfl, hq4, hD, Nat.le_trans (show ys.length + ws.length ≤ 10000 by omega) (by decide), ?_⟩
        refine ⟨_, _, ys ++ ws, rfl, Same.put ((s2.trans s3).trans s4) nq, upd_same, ?_⟩
        have e := blk_step (c := c) ⟨lev, sd, many⟩ (by omega) i
        rw [show (List.range ((i + 1) * c ^ lev)).map (plc c ⟨lev, sd, many⟩) = _ from e, List.map_append]
        rw [lx] at hW
        exact ((hY.grow (s3.trans s4)).keep kp).append (hW.keep kp)
    · rintro σ H2 ⟨v5, v6, ys, rfl, s2, hq, hY⟩
      exact ⟨_, rfl, k q H2 s2 ⟨ys, hq, hY⟩⟩
theorem c_all (T : Txt K mg) (C__law_side_places : CalG P w K mg base 3 "_law_side_places" ["_law_arity", "_law_level", "_law_side", "_law_many"] spSideP) (D : DefAt K mg "_law_all_places" s__law_all_places ["_law_arity", "_law_row"]) :
    CalG P w K mg base 4 "_law_all_places" ["_law_arity", "_law_row"] spAll := by
  refine calOk D sc__law_all_places (fun xs H Q E h => ?_) (fun f cdv A out s H xs Q E hgd hr h => ?_)
  · obtain ⟨c, x, fs, rfl, _⟩ := h
    rfl
  · obtain ⟨c, x, gs, rfl, hc, hx, hsm, k⟩ := h
    have nd := sc__law_all_places.nd
    refine ⟨_, (pss_cons (ps_set (i := 2) nd rfl (.inl rfl) (pe_lst pa_nil))
      (pss_cons (ps_for PassesOwn.never rfl (pi_range1 rfl T.range (pa_cons (pe_callB call_len_seq (by rfl) T.len (by decide +kernel) (pa_cons (pv 1) pa_nil)) pa_nil)) (pg_name (i := 3) nd rfl (.inl rfl)) (pss_one (ps_expr (pe_bm PySem.F.plainAttrs_list PySem.F.slot_list_extend PySem.F.type_list_extend mt_extend (pv 2) (pa_cons (pe_k C__law_side_places hgd hr (by decide) rfl (pa_cons (pv 0) (pa_cons (pv 3) (pa_cons pe_str (pa_cons (pe_ix ix_tup (pe_ix ix_tup (pv 1) (pv 3) (fun _ _ => rfl)) pe_int (fun _ _ => rfl)) pa_nil))))) pa_nil)))))
      (pss_cons (ps_for PassesOwn.never rfl (pi_range3 rfl T.range (pa_cons (pe_op op_sub (pe_callB call_len_seq (by rfl) T.len (by decide +kernel) (pa_cons (pv 1) pa_nil)) pe_int) (pa_cons (pe_un un_neg pe_int) (pa_cons (pe_un un_neg pe_int) pa_nil)))) (pg_name (i := 3) nd rfl (.inl rfl)) (pss_one (ps_expr (pe_bm PySem.F.plainAttrs_list PySem.F.slot_list_extend PySem.F.type_list_extend mt_extend (pv 2) (pa_cons (pe_k C__law_side_places hgd hr (by decide) rfl (pa_cons (pv 0) (pa_cons (pv 3) (pa_cons pe_str (pa_cons (pe_ix ix_tup (pe_ix ix_tup (pv 1) (pv 3) (fun _ _ => rfl)) pe_int (fun _ _ => rfl)) pa_nil))))) pa_nil)))))
      (pss_one (ps_ret (pv 2)))))), ?_⟩
    obtain ⟨a, xs, rfl, ha, hF⟩ := hx
    have lx : xs.length = gs.length := by rw [hF.len, rowN, List.length_map]
    have l5 := hsm.1
    have item : ∀ i, i < xs.length → ∃ p g, xs[i]? = some (.ref p) ∧ gs[i]? = some g ∧ H p = some (.tup [.int (g.1 : Nat), .int (g.2 : Nat)]) ∧ g.1 ≤ 7 ∧ g.2 ≤ 7 := fun i hi => by
      obtain ⟨p, f, e, hf, hp⟩ := hF.get i xs[i] (List.getElem?_eq_getElem hi)
      rw [rowN, List.getElem?_map] at hf
      obtain ⟨g, hg, rfl⟩ := Option.map_eq_some_iff.mp hf
      have := hsm.2 g (List.mem_of_getElem? hg)
      exact ⟨p, g, by rw [← e]; exact List.getElem?_eq_getElem hi, hg, hp, this.1, this.2⟩
    have bl : ∀ (lev many : Nat) (sd : Str), lev ≤ 5 → many ≤ 7 → (blkPlaces c ⟨lev, sd, many⟩).length ≤ 1701 := fun lev many sd h1 h2 => by
      have e : (blkPlaces c ⟨lev, sd, many⟩).length = many * c ^ lev := by simp [blkPlaces, Blk.sz]
      rw [e]
      exact Nat.mul_le_mul h2 (powC hc h1)
    refine ⟨(by show 0 ≤ sizeLine; decide), fun q nq => ?_⟩
    have s1 := same_new (o := .lst []) nq
    refine ⟨_, rfl, a, xs, rfl, .inr (SqT.of (s1 _ _ ha)), _, rfl, (by omega), (by omega), ?_⟩
    refine for_range (fun i σ H' => ∃ v3 ls, σ = [some (.int c), some (.ref a), some (.ref q), v3] ∧ Same H H' ∧ H' q = some (.lst ls) ∧ TxAll H' ls ((placesB c (lefts 0 (gs.take i))).map plcD) ∧ ls.length ≤ i * 1701) ?_ ?_ ?_
    · exact ⟨_, [], rfl, s1, upd_same, .nil, Nat.zero_le _⟩
    · rintro i σ H2 hi ⟨v3, ls, rfl, s2, hq, hL, hl⟩
      have hil : i < xs.length := by omega
      obtain ⟨p, g, hxi, hg, hp, g1, g2⟩ := item i hil
      have e0 : (0 : Int) + (i : Int) = (i : Int) := Int.zero_add _
      refine ⟨_, rfl, .inl ⟨rfl, _, SqL.of hq⟩, _, rfl, _, rfl, _, rfl, _, rfl, _, _, _, _, rfl, rfl, SqT.of (s2 _ _ ha), (by rw [e0]; exact atI_nat hxi), _, _, _, _, rfl, rfl, SqT.of (s2 _ _ hp), atI_nat (j := 0) rfl, ?_⟩
      refine ⟨c, i, g.1, "left", (by rw [e0]; rfl), hc, by omega, g1, fun q3 H3 s3 h3 => ?_⟩
      obtain ⟨ws, hq3, hW⟩ := h3
      have hqq := s3 _ _ hq
      have lw := hW.len
      rw [List.length_map] at lw
      have := bl i g.1 "left" (by omega) g1
      have kp : TupK H3 (upd H3 q (.lst (ls ++ ws))) := tupk_put hqq
      refine ⟨q, q3, ls, ws, rfl, rfl, hqq, hq3, Nat.le_trans (show ls.length + ws.length ≤ 100000 by omega) (by decide), ?_⟩
      refine ⟨_, ls ++ ws, rfl, Same.put (s2.trans s3) nq, upd_same, ?_, by rw [List.length_append]; omega⟩
      rw [take_one hg, lefts_snoc, List.length_take, Nat.min_eq_left (by omega), Nat.zero_add, placesB_app, placesB_one, List.map_append]
      exact ((hL.grow s3).keep kp).append (hW.keep kp)
    · rintro σ H2 ⟨v3, ls, rfl, s2, hq, hL, hl⟩
      refine go_nx ?_
      rw [show (Int.toNat (xs.length : Int)) = gs.length by omega] at hL hl
      rw [List.take_length] at hL
      refine ⟨_, rfl, a, xs, rfl, .inr (SqT.of (s2 _ _ ha)), _, _, rfl, rfl, _, rfl, _, rfl, _, _, _, _, rfl, RgC.neg (by omega) (by omega) (by decide) (by decide), ?_⟩
      have cnt : (((xs.length : Int) - 1) - (-1)).toNat = xs.length := by omega
      refine for_rangeC (fun i σ H' => ∃ v3 rs, σ = [some (.int c), some (.ref a), some (.ref q), v3] ∧ Same H H' ∧ H' q = some (.lst rs) ∧ TxAll H' rs ((placesB c (lefts 0 gs ++ (rights 0 gs).reverse.take i)).map plcD) ∧ rs.length ≤ (gs.length + i) * 1701) ?_ ?_ ?_
      · refine ⟨_, ls, rfl, s2, hq, ?_, hl⟩
        rw [List.take_zero, List.append_nil]
        exact hL
      · rintro i σ H4 hi ⟨v3, rs, rfl, s4, hq4, hR, hl4⟩
        have hi' : i < xs.length := by
          have h := hi
          omega
        have hil : xs.length - 1 - i < xs.length := by omega
        obtain ⟨p, g, hxi, hg, hp, g1, g2⟩ := item (xs.length - 1 - i) hil
        have e0 : (xs.length : Int) - 1 + ((i : Nat) : Int) * -1 = ((xs.length - 1 - i : Nat) : Int) := by omega
        refine ⟨_, rfl, .inl ⟨rfl, _, SqL.of hq4⟩, _, rfl, _, rfl, _, rfl, _, rfl, _, _, _, _, rfl, rfl, SqT.of (s4 _ _ ha), (by rw [e0]; exact atI_nat hxi), _, _, _, _, rfl, rfl, SqT.of (s4 _ _ hp), atI_nat (j := 1) rfl, ?_⟩
        refine ⟨c, xs.length - 1 - i, g.2, "right", (by rw [e0]; rfl), hc, by omega, g2, fun q3 H3 s3 h3 => ?_⟩
        obtain ⟨ws, hq3, hW⟩ := h3
        have hqq := s3 _ _ hq4
        have lw := hW.len
        rw [List.length_map] at lw
        have := bl (xs.length - 1 - i) g.2 "right" (by omega) g2
        have kp : TupK H3 (upd H3 q (.lst (rs ++ ws))) := tupk_put hqq
        have hrv : (rights 0 gs).reverse[i]? = some ⟨xs.length - 1 - i, "right", g.2⟩ := by
          have lr := (lefts_len gs 0).2
          rw [List.getElem?_reverse (by omega), lr, ← lx, rights_get gs 0 _ g hg, Nat.zero_add]
        refine ⟨q, q3, rs, ws, rfl, rfl, hqq, hq3, Nat.le_trans (show rs.length + ws.length ≤ 100000 by omega) (by decide), ?_⟩
        refine ⟨_, rs ++ ws, rfl, Same.put (s4.trans s3) nq, upd_same, ?_, by rw [List.length_append]; omega⟩
        rw [take_one hrv, ← List.append_assoc, placesB_app, placesB_one, List.map_append]
        exact ((hR.grow s3).keep kp).append (hW.keep kp)
      · rintro σ H4 ⟨v3, rs, rfl, s4, hq4, hR, hl4⟩
        refine ⟨_, rfl, k q H4 nq s4 ⟨rs, hq4, ?_⟩⟩
        have lr := (lefts_len gs 0).2
        rw [cnt, List.take_of_length_le (by rw [List.length_reverse, lr]; omega)] at hR
        exact hR
end
end G

set_option Elab.async false
set_option linter.all false
set_option maxRecDepth 100000
set_option maxHeartbeats 4000000
namespace G
open PySem PySem.Spec PyProof.Rows L2
/-! ## a value is a place just if it is listed -/
def val (k : Nat) (cs : List Nat) : Nat := cs.foldl (fun i c => i * k + c) 0
theorem val_snoc' (k : Nat) (cs : List Nat) (c : Nat) : val k (cs ++ [c]) = val k cs * k + c := by
  unfold val
  rw [List.foldl_append]
  rfl
theorem dig_val {k : Nat} (hk : 0 < k) : ∀ (n : Nat) (cs : List Nat), cs.length = n → (∀ c ∈ cs, c < k) → dig k n (val k cs) = cs ∧ val k cs < k ^ n
  | 0, cs, hl, _ => by
    have e : cs = [] := List.eq_nil_of_length_eq_zero hl
    subst e
    exact ⟨rfl, by simp [val]⟩
  | n + 1, cs, hl, hc => by
    rcases List.eq_nil_or_concat cs with z | ⟨i, c, z⟩
    · rw [z] at hl
      cases hl
    · rw [List.concat_eq_append] at z
      subst z
      rw [List.length_append] at hl
      obtain ⟨h1, h2⟩ := dig_val hk n i (by simpa using hl) fun x hx => hc x (List.mem_append_left _ hx)
      have hck : c < k := hc c (by simp)
      rw [val_snoc']
      have e1 : (val k i * k + c) / k = val k i := by
        rw [Nat.add_comm, Nat.add_mul_div_right _ _ hk, Nat.div_eq_of_lt hck, Nat.zero_add]
      have e2 : (val k i * k + c) % k = c := by
        rw [Nat.add_comm, Nat.add_mul_mod_self_right, Nat.mod_eq_of_lt hck]
      refine ⟨?_, ?_⟩
      · rw [dig, e1, e2, h1]
      · rw [Nat.pow_succ]
        have := Nat.mul_le_mul_right k (show val k i + 1 ≤ k ^ n from h2)
        rw [Nat.add_mul] at this
        omega
theorem plc_val {k : Nat} (hk : 0 < k) (b : Blk) (idx : Nat) (cs : List Nat) (hl : cs.length = b.lev) (hc : ∀ c ∈ cs, c < k) (hi : idx < b.many) :
    (⟨b.lev, b.side, idx, cs⟩ : Plc) ∈ blkPlaces k b := by
  obtain ⟨h1, h2⟩ := dig_val hk b.lev cs hl hc
  have hp : 0 < k ^ b.lev := Nat.pow_pos hk
  refine List.mem_map.mpr ⟨idx * k ^ b.lev + val k cs, List.mem_range.mpr ?_, ?_⟩
  · show idx * k ^ b.lev + val k cs < b.many * k ^ b.lev
    have := Nat.mul_le_mul_right (k ^ b.lev) (show idx + 1 ≤ b.many from hi)
    rw [Nat.add_mul] at this
    omega
  · show (⟨b.lev, b.side, (idx * k ^ b.lev + val k cs) / k ^ b.lev, dig k b.lev (idx * k ^ b.lev + val k cs)⟩ : Plc) = _
    rw [dig_add hk, h1, Nat.add_comm, Nat.add_mul_div_right _ _ hp, Nat.div_eq_of_lt h2, Nat.zero_add]
theorem lefts_get : ∀ (gs : List (Nat × Nat)) (k j : Nat) (g : Nat × Nat), gs[j]? = some g → (⟨k + j, "left", g.1⟩ : Blk) ∈ lefts k gs
  | [], _, _, _, h => by simp at h
  | x :: r, k, 0, g, h => by
    have h : x = g := Option.some.inj h
    subst h
    exact List.mem_cons_self
  | x :: r, k, j + 1, g, h => by
    have h : r[j]? = some g := h
    have := lefts_get r (k + 1) j g h
    rw [show k + 1 + j = k + (j + 1) by omega] at this
    exact List.mem_cons_of_mem _ this
theorem within_parts {d : PyData} {lo hi : Int} (h : within d lo hi = true) : ∃ i : Int, d = .int i ∧ lo ≤ i ∧ i ≤ hi := by
  unfold within at h
  rw [Bool.and_eq_true] at h
  obtain ⟨i, rfl⟩ := int_of h.1
  have h := h.2
  simp only [Bool.and_eq_true, decide_eq_true_eq] at h
  exact ⟨i, rfl, h.1, h.2⟩
theorem path_nats {k : Nat} : ∀ ds : List PyData, (ds.all fun d => within d 0 ((k : Int) - 1)) = true → ∃ cs : List Nat, ds = (cs.map fun c => PyData.int (c : Nat)) ∧ ∀ c ∈ cs, c < k
  | [], _ => ⟨[], rfl, fun _ z => nomatch z⟩
  | d :: r, h => by
    rw [List.all_cons, Bool.and_eq_true] at h
    obtain ⟨i, rfl, h1, h2⟩ := within_parts h.1
    obtain ⟨cs, rfl, hc⟩ := path_nats r h.2
    refine ⟨i.toNat :: cs, ?_, fun c hm => ?_⟩
    · rw [List.map_cons, Int.toNat_of_nonneg h1]
    · rcases List.mem_cons.mp hm with e | e
      · omega
      · exact hc c e
theorem place_listed {k : Nat} (hk : 0 < k) {gs : List (Nat × Nat)} {d : PyData} (h : placeB k gs d = true) : ∃ p ∈ places k gs, d = plcD p := by
  unfold placeB at h
  split at h
  · rename_i a s i p
    rw [Bool.and_eq_true, Bool.and_eq_true, Bool.and_eq_true] at h
    obtain ⟨h1, h2, h3, h4⟩ := h
    obtain ⟨lv, rfl, l0, l1⟩ := within_parts h1
    obtain ⟨n, rfl⟩ : ∃ n : Nat, lv = (n : Int) := ⟨lv.toNat, by omega⟩
    have hn : n < gs.length := by omega
    obtain ⟨g, hg⟩ : ∃ g, gs[n]? = some g := ⟨_, List.getElem?_eq_getElem hn⟩
    obtain ⟨ix, rfl, i0, i1⟩ := within_parts h3
    obtain ⟨q, rfl⟩ : ∃ q : Nat, ix = (q : Int) := ⟨ix.toNat, by omega⟩
    obtain ⟨cs, rfl, hl, hc⟩ : ∃ cs : List Nat, p = pD cs ∧ cs.length = n ∧ ∀ c ∈ cs, c < k := by
      unfold pathB at h4
      split at h4
      · rename_i ds
        rw [Bool.and_eq_true, decide_eq_true_eq] at h4
        obtain ⟨cs, rfl, hc⟩ := path_nats ds h4.2
        have h5 := h4.1
        rw [List.length_map] at h5
        have h5 : (cs.length : Int) = (n : Int) := h5
        exact ⟨cs, rfl, by omega, hc⟩
      · cases h4
    obtain ⟨m1, m2⟩ := many_at hg
    have put : ∀ b : Blk, b ∈ blocks gs → b.lev = n → s = .str b.side → (q : Int) < (b.many : Int) → ∃ p ∈ places k gs, PyData.tuple [.int (n : Int), s, .int (q : Int), pD cs] = plcD p := fun b hb e1 e2 e3 => by
      refine ⟨⟨b.lev, b.side, q, cs⟩, List.mem_flatMap.mpr ⟨b, hb, plc_val hk b q cs (by omega) hc (by omega)⟩, ?_⟩
      rw [e2, ← e1]
      rfl
    rcases sides_any h2 with rfl | rfl
    · rw [m1] at i1
      have := lefts_get gs 0 n g hg
      rw [Nat.zero_add] at this
      exact put ⟨n, "left", g.1⟩ (List.mem_append_left _ this) rfl rfl (by show (q : Int) < (g.1 : Int); omega)
    · rw [m2] at i1
      have := List.mem_of_getElem? (rights_get gs 0 n g hg)
      rw [Nat.zero_add] at this
      exact put ⟨n, "right", g.2⟩ (List.mem_append_right _ (List.mem_reverse.mpr this)) rfl rfl (by show (q : Int) < (g.2 : Int); omega)
  · cases h
theorem listed_place {k : Nat} (hk : k = 2 ∨ k = 3) {gs : List (Nat × Nat)} (hsm : Small gs) {p : Plc} (h : p ∈ places k gs) : placeB k gs (plcD p) = true := by
  obtain ⟨n, hn⟩ := List.mem_iff_getElem?.mp h
  exact place_true hk hsm hn
theorem plain_ints : ∀ cs : List Nat, plainAll (cs.map fun c => PyData.int (c : Nat)) = true
  | [] => rfl
  | c :: r => by
    rw [List.map_cons, plainAll, plain_ints r]
    rfl
theorem side_plain {s : Str} (h : s = "left" ∨ s = "right") : plainD (.str s) = true := by
  rcases h with rfl | rfl <;> decide +kernel
theorem plain_plc {p : Plc} (h : p.side = "left" ∨ p.side = "right") : plainD (plcD p) = true := by
  have e := plain_ints p.path
  have e2 := side_plain h
  unfold plcD
  rw [plainD, plainAll, plainAll, plainAll, plainAll, plainAll, e2, plainD, plainD, plainD, e]
  rfl
theorem place_side {k : Nat} (hk : 0 < k) {gs : List (Nat × Nat)} {p : Plc} (h : p ∈ places k gs) : p.side = "left" ∨ p.side = "right" := by
  obtain ⟨n, hn⟩ := List.mem_iff_getElem?.mp h
  obtain ⟨s, _, _, e1, e2, h1, h2, h3, h4, g, hg, hc⟩ := place_facts hk hn
  rcases hc with ⟨c, _⟩ | ⟨c, _⟩
  · exact .inl c
  · exact .inr c
/-- what the law asks of the texts is what is_place answers -/
theorem listed_iff {k : Nat} (hk : k = 2 ∨ k = 3) {gs : List (Nat × Nat)} (hsm : Small gs) {d : PyData} (hd : plainD d = true) :
    (d.shown ∈ (places k gs).map fun p => (plcD p).shown) ↔ placeB k gs d = true := by
  constructor
  · intro h
    obtain ⟨p, hp, e⟩ := List.mem_map.mp h
    have := shown_inj (plain_plc (place_side (by omega) hp)) hd e
    rw [← this]
    exact listed_place hk hsm hp
  · intro h
    obtain ⟨p, hp, rfl⟩ := place_listed (by omega) h
    exact List.mem_map.mpr ⟨p, hp, rfl⟩
/-! ## number_of and beside of what is no place -/
def spNever : Sp := fun _ _ _ _ => False
def spBadPlace (CP : Addr) : Sp := fun vs H _ E => ∃ (k : Nat) (x y : V) (gs : List (Nat × Nat)) (d : PyData), vs = [.int (k : Nat), x, y] ∧ (k = 2 ∨ k = 3) ∧ RowAt H x (rowN gs) ∧ Small gs ∧ rowB (rowD (rowN gs)) = true ∧ Dx H y d ∧
  (∀ a s i p, d = .tuple [a, s, i, p] → s.hasDict = false ∧ SeqAt.shaped s = true) ∧ placeB k gs d = false ∧ ∀ H', Same H H' → E (.ref CP) none H'
section
variable {P : Program} {w : World} {K : PySem.W.Frag} {mg : Str → Option Value} {base : Heap}
theorem c_never_spans (D : DefAt K mg "_spans" s__spans ["arity", "row"]) : CalQ false P w K mg base 1 "_spans" ["arity", "row"] spNever :=
  calOkQ D sc__spans (fun xs H Q E h => h.elim) (fun f cdv A out s H xs Q E hgd hr h => h.elim)
theorem c_never_at (D : DefAt K mg "_place_at" s__place_at ["arity", "row", "number"]) : CalQ false P w K mg base 1 "_place_at" ["arity", "row", "number"] spNever :=
  calOkQ D sc__place_at (fun xs H Q E h => h.elim) (fun f cdv A out s H xs Q E hgd hr h => h.elim)
theorem c_never_length (D : DefAt K mg "length_of" s_length_of ["arity", "row"]) : CalQ false P w K mg base 1 "length_of" ["arity", "row"] spNever :=
  calOkQ D sc_length_of (fun xs H Q E h => h.elim) (fun f cdv A out s H xs Q E hgd hr h => h.elim)
theorem x_number_of {CP : Addr} (T : Txt K mg) (X_InvalidPlace : ErrAt K mg "InvalidPlace" CP veL "ValueError.__new__") (C_is_place : CalQ false P w K mg base 8 "is_place" ["arity", "row", "value"] spIsPlace) (C__spans : CalQ false P w K mg base 1 "_spans" ["arity", "row"] spNever)
    (D : DefAt K mg "number_of" s_number_of ["arity", "row", "place"]) : CalXQ false P w K mg base 9 "number_of" ["arity", "row", "place"] (spBadPlace CP) := by
  refine calOkXQ D sc_number_of (fun xs H Q E h => ?_) (fun f cdv A out s H xs Q E hgd hr h => ?_)
  · obtain ⟨k, x, y, gs, d, rfl, _⟩ := h
    rfl
  · obtain ⟨kk, x, y, gs, d, rfl, hk, hx, hsm, hb, hy, hd, hn, k⟩ := h
    have nd := sc_number_of.nd
    refine ⟨_, (pss_cons (ps_if (pt_not (pt_val (pe_kq C_is_place hgd hr (by decide) rfl (pa_cons (pv 0) (pa_cons (pv 1) (pa_cons (pv 2) pa_nil)))))) (pss_one (ps_raise rfl (takes_of rfl rfl rfl rfl) (pmk_own PySem.F.excBase_ValueError X_InvalidPlace.exc X_InvalidPlace.at_ X_InvalidPlace.keep (raises_own X_InvalidPlace.base X_InvalidPlace.ty) rfl))) pss_nil)
      (PSs.nox (pss_cons (ps_asg (pv 2) (pg_tup (by rfl) (pgs_cons (pg_name (i := 3) nd rfl (.inr rfl)) (pgs_cons (pg_name (i := 4) nd rfl (.inr rfl)) (pgs_cons (pg_name (i := 5) nd rfl (.inl rfl)) (pgs_cons (pg_name (i := 6) nd rfl (.inl rfl)) pgs_nil))))))
      (pss_cons (ps_for PassesOwn.never rfl (pi_tup (pv 6)) (pg_name (i := 7) nd rfl (.inl rfl)) (pss_one (ps_set (i := 5) nd rfl (.inl rfl) (pe_op op_add (pe_op op_mul (pv 5) (pv 0)) (pv 7)))))
      (pss_cons (ps_setLc (i := 8) (own := [("span", 9)]) (g := gName 9) (by rfl) nd rfl rfl (sw_true rfl rfl rfl (by decide +kernel)) (pi_tup (pe_kq C__spans hgd hr (by decide) rfl (pa_cons (pv 0) (pa_cons (pv 1) pa_nil)))) (blkOk_by (own := [("span", 9)]) (N := N_number_of) (sc := defScope s_number_of) (by decide +kernel)) (fun _ _ _ _ _ => pg_name (i := 9) nd rfl (.inl rfl)) (fun _ _ _ _ _ => pts_one (pt_cmpR (show OpR _ (compareOp .Eq) (rEqD K) from op_eqD hr.units) (pe_slice sl_tupD (pv 9) po_none (po_some pe_int)) (pe_tup (pa_cons (pv 3) (pa_cons (pv 4) pa_nil))) (nomark _))) (fun _ _ _ _ _ => pe_ix (show IxR _ (rIxT K) from ix_tup) (pv 9) pe_int (fun _ _ => rfl)))
      (pss_one (ps_ret (pe_op op_add (pe_ix ix_list (pv 8) pe_int (fun _ _ => rfl)) (pv 5))))))))), ?_⟩
    refine a_if (fun b H' => b = true ∧ Same H H') (fun Q' kQ => ?_) (fun H' h => k H' h.2) (fun H' h => nomatch h.1)
    exact ⟨_, rfl, _, rfl, _, rfl, kk, x, y, gs, d, rfl, hk, hx, hsm, hb, hy, hd, fun H1 s1 => ⟨_, rfl, kQ _ _ ⟨by rw [hn]; rfl, s1⟩⟩⟩
theorem x_beside {CP : Addr} (T : Txt K mg) (C_number_of : CalXQ false P w K mg base 9 "number_of" ["arity", "row", "place"] (spBadPlace CP)) (C__place_at : CalQ false P w K mg base 1 "_place_at" ["arity", "row", "number"] spNever) (C_length_of : CalQ false P w K mg base 1 "length_of" ["arity", "row"] spNever)
    (D : DefAt K mg "beside" s_beside ["arity", "row", "place"]) : CalXQ false P w K mg base 10 "beside" ["arity", "row", "place"] (spBadPlace CP) := by
  refine calOkXQ D sc_beside (fun xs H Q E h => ?_) (fun f cdv A out s H xs Q E hgd hr h => ?_)
  · obtain ⟨k, x, y, gs, d, rfl, _⟩ := h
    rfl
  · obtain ⟨kk, x, y, gs, d, rfl, hk, hx, hsm, hb, hy, hd, hn, k⟩ := h
    have nd := sc_beside.nd
    refine ⟨_, (pss_cons (ps_set (i := 3) nd rfl (.inl rfl) (pe_kxq C_number_of (takes_of rfl rfl rfl rfl) hgd hr (by decide) rfl (pa_cons (pv 0) (pa_cons (pv 1) (pa_cons (pv 2) pa_nil)))))
      (PSs.nox (pss_cons (ps_set (i := 4) nd rfl (.inl rfl) (pe_ifExp (pt_cmpR op_gt (pv 3) pe_int (nomark _)) (pe_kq C__place_at hgd hr (by decide) rfl (pa_cons (pv 0) (pa_cons (pv 1) (pa_cons (pe_op op_sub (pv 3) pe_int) pa_nil)))) pe_non))
      (pss_cons (ps_set (i := 5) nd rfl (.inl rfl) (pe_ifExp (pt_cmpR op_lt (pe_op op_add (pv 3) pe_int) (pe_kq C_length_of hgd hr (by decide) rfl (pa_cons (pv 0) (pa_cons (pv 1) pa_nil))) (nomark _)) (pe_kq C__place_at hgd hr (by decide) rfl (pa_cons (pv 0) (pa_cons (pv 1) (pa_cons (pe_op op_add (pv 3) pe_int) pa_nil)))) pe_non))
      (pss_one (ps_ret (pe_tup (pa_cons (pv 4) (pa_cons (pv 5) pa_nil))))))))), ?_⟩
    exact ⟨_, rfl, _, rfl, _, rfl, kk, x, y, gs, d, rfl, hk, hx, hsm, hb, hy, hd, hn, fun H' s => k H' s⟩
end
end G

set_option Elab.async false
set_option linter.all false
set_option maxRecDepth 100000
set_option maxHeartbeats 4000000
namespace G
open PySem PySem.Spec PyProof.Rows L2
theorem log_of {x : Int} {n : Nat} (h : x.natAbs < 2 ^ n) (hn : n ≤ 1200) (h0 : 0 < n) : x.natAbs.log2 < 1200 := by
  by_cases z : x.natAbs = 0
  · rw [z]
    decide
  · exact Nat.lt_of_lt_of_le ((Nat.log2_lt z).mpr h) hn
theorem nice_int {i : Int} (h0 : -1000000 ≤ i) (h1 : i ≤ 1000000) : nice (.int i) = true := by
  have e : (2 : Nat) ^ 20 = 1048576 := by decide
  have := log_of (x := i) (n := 20) (by omega) (by decide) (by decide)
  simp only [nice, this, decide_true]
structure Tame (p : Plc) : Prop where
  lev : p.lev ≤ 5
  side : p.side = "left" ∨ p.side = "right"
  idx : p.idx ≤ 7
  few : p.path.length ≤ 5
  low : ∀ c ∈ p.path, c < 4
theorem tame_of {k : Nat} (hk : k = 2 ∨ k = 3) {gs : List (Nat × Nat)} (hsm : Small gs) {n : Nat} {p : Plc} (h : (places k gs)[n]? = some p) : Tame p := by
  obtain ⟨s, _, _, e1, e2, h1, h2, h3, h4, g, hg, hc⟩ := place_facts (by omega) h
  have hl : p.lev < gs.length := (List.getElem?_eq_some_iff.mp hg).1
  obtain ⟨l5, l7⟩ := hsm
  obtain ⟨g7, g8⟩ := l7 g (List.mem_of_getElem? hg)
  refine ⟨by omega, ?_, ?_, by rw [h4, dig_len]; omega, fun c hc => ?_⟩
  · rcases hc with ⟨c, _⟩ | ⟨c, _⟩
    · exact .inl c
    · exact .inr c
  · rcases hc with ⟨_, c⟩ | ⟨_, c⟩ <;> omega
  · rw [h4] at hc
    have := dig_lt (K := k) (by omega) _ _ c hc
    omega
theorem ints_nice : ∀ cs : List Nat, (∀ c ∈ cs, c < 4) → niceAll (cs.map fun c => PyData.int (c : Nat)) = true ∧ PyData.depthAll (cs.map fun c => PyData.int (c : Nat)) = 0 ∧ PyData.bulkAll (cs.map fun c => PyData.int (c : Nat)) = cs.length
  | [], _ => ⟨rfl, by simp [PyData.depthAll], rfl⟩
  | c :: r, h => by
    obtain ⟨h1, h2, h3⟩ := ints_nice r fun t ht => h t (List.mem_cons_of_mem _ ht)
    have h0 := h c List.mem_cons_self
    refine ⟨?_, ?_, ?_⟩
    · simp only [List.map_cons, niceAll, h1, Bool.and_true]
      exact nice_int (by omega) (by omega)
    · simp only [List.map_cons, PyData.depthAll, PyData.depth, h2]
      rfl
    · simp only [List.map_cons, PyData.bulkAll, PyData.bulk, h3, List.length_cons]
      omega
theorem side_nice {s : Str} (h : s = "left" ∨ s = "right") : nice (.str s) = true ∧ PyData.bulk (.str s) ≤ 5 ∧ PyData.depth (.str s) = 0 := by
  rcases h with rfl | rfl
  · exact ⟨by decide +kernel, by decide +kernel, by simp [PyData.depth]⟩
  · exact ⟨by decide +kernel, by decide +kernel, by simp [PyData.depth]⟩
theorem Tame.show_ {p : Plc} (t : Tame p) : nice (plcD p) = true ∧ (plcD p).depth ≤ 2 ∧ (plcD p).bulk ≤ 30 := by
  obtain ⟨t1, t2, t3, t4, t5⟩ := t
  obtain ⟨a1, a2, a3⟩ := ints_nice p.path t5
  obtain ⟨b1, b2, b3⟩ := side_nice t2
  have c1 := nice_int (i := (p.lev : Nat)) (by omega) (by omega)
  have c2 := nice_int (i := (p.idx : Nat)) (by omega) (by omega)
  refine ⟨?_, ?_, ?_⟩
  · unfold plcD
    rw [nice, niceAll, niceAll, niceAll, niceAll, niceAll, c1, b1, c2]
    show (nice (.tuple _) && true) = true
    rw [nice, a1]
    rfl
  · simp only [plcD, PyData.depth, PyData.depthAll, a2]
    omega
  · have e : (plcD p).bulk = 0 + 1 + (PyData.bulk (.str p.side) + 1 + (0 + 1 + (PyData.bulkAll (p.path.map fun c => PyData.int (c : Nat)) + 1 + 0))) := rfl
    rw [e, a3]
    omega
theorem Tame.shw {p : Plc} (t : Tame p) : Shw (plcD p) := by
  obtain ⟨a, b, c⟩ := t.show_
  exact G.shw a (by omega) (by omega)
/-! ## the law's `_law_is_refused`, `_law_is_listed`, `_law_mixed` -/
def TTref (CP : Addr) : (XK → Hp → VK → Prop) → Hp → VK → Prop := fun tl H Q =>
  tl (fun cls d H' => cls = .ref CP ∧ Q (.bl true) H') H (fun _ H' => Q (.bl false) H')
structure RefTxt (K : PySem.W.Frag) (mg : Str → Option Value) (CP : Addr) : Prop where
  gP : mg "InvalidPlace" = some (.ref CP)
  pp : PySem.W.exmOne K (.ref CP) (.ref CP) = some true
section
variable {X : Cx}
theorem ref_gives {CP g : Addr} {cdg : Value} {q : Str} (M : RefTxt X.K X.mg CP) :
    LamX.GivesTo X N__law_is_refused "_law_is_refused" (defScope s__law_is_refused) g cdg (defBody s__law_is_refused) "_law_call" q (TTref CP) := by
  intro f c' s H Q tl act hc h
  have nd := sc__law_is_refused.nd
  refine ⟨_, pss_cons (ps_mix (X := (cxOf C8.CX0 X.prog X.w X.K X.mg X.base N__law_is_refused "_law_is_refused" (defScope s__law_is_refused) g cdg X.A X.stack s H C8.E0).nox)
      (tb := fun W D σ H => ∃ Ech : XK, (∀ cls d σ' H', Ech cls d H' → W cls d σ' H') ∧ σ[0]? = some (some (.ref f)) ∧ H c' = some (LamX.CodeO c' q) ∧ tl Ech H (fun _ H' => D.nx σ H'))
      rfl rfl LamX.takes0 (fun W pn xe tk _ => ?_)
      (.plain ⟨rfl, by decide, .inl M.gP⟩ (fun a oe cls d pn _ _ _ => pss_one (ps_ret pe_bl)) .nil))
    (pss_one (ps_ret pe_bl)), ?_⟩
  · refine ⟨fun pins s' σ H' D I h' => ?_⟩
    obtain ⟨Ech, hW, h1, h2, h3⟩ := h'
    exact (pss_one (ps_expr (act W pn xe Ech _ _ tk hW))).run pins s' σ H' D I ⟨h1, h2, h3⟩
  · refine ⟨_, fun cls d σ' H' hE => ?_, rfl, hc, h⟩
    obtain ⟨rfl, k⟩ := hE
    exact ⟨true, M.pp, fun _ a _ => k, fun z => Bool.noConfusion z⟩
theorem pe_is_refused {CP c P : Addr} {T : List (Addr × Str)} {k : Nat} {params : Arguments} {body : Expr} {scope : Scope} {t : XK → TE} {p lpos pos : Pos}
    (TX : Txt X.K X.mg) (M : RefTxt X.K X.mg CP) (O : True) (D : DefAt X.K X.mg "_law_is_refused" s__law_is_refused ["_law_call"])
    (hgd : X.A.guards = some []) (hg : Gl X "_law_is_refused")
    (TB : LamX.TabB X.base X.mg c P) (hcode : X.env.code = .ref c) (hmT : (P, X.env.qual ++ "<lambda>") ∈ T) (hu : ∀ p ∈ T, p.1 = P → p.2 = X.env.qual ++ "<lambda>") (hr : Room (k + 2) X.A) (L : LamX.LamS X.env.scope scope) (hdef : defaultsOf params X.env = ([], []))
    (hbind : ∀ (q : Str) (cl : List (Str × Addr)) (pm cv ctv : Value), bindArgs (PySem.W.kla_fn "<lambda>" q params body scope cl pm cv ctv) ⟨[], []⟩ = pure [])
    (hbody : ∀ (A : Around) (outer : List Env) (s : Shared) (H : Hp) (E : XK) (f c' : Addr), Room k (A.deeper (LamX.lamEnv X scope s.heap.objs.size f c')) → PE (LamX.lamCx X A outer s H E scope f c') body (t E)) :
    PE X (.Call (.Name "_law_is_refused" p) [.Lambda params body scope lpos] [] pos) (LamX.tLam T (TTref CP) t) := by
  obtain ⟨f, fd, F, m, b⟩ := D.ex
  obtain ⟨oc, od, kV, doc, pm, an, cdv, ct, osl, rfl, lk, hcd⟩ := F.ex
  exact LamX.pe_lamcall hg m F.kp lk hcd (Binds.all b) sc__law_is_refused rfl (.inl rfl) (ref_gives M) TB hcode hmT hu hr L hdef hbind hbody
end
def placeTexts (ps : List Plc) : List Str := ps.map fun p => (plcD p).shown
def spListed : Sp := fun vs H Q _ => ∃ (l : Addr) (v : V) (d : PyData) (ps : List Plc), vs = [.ref l, v] ∧ ListAt H l (ps.map plcD) ∧ ps.length ≤ 20000 ∧ (∀ p ∈ ps, Tame p) ∧ Dx H v d ∧ Shw d ∧
  ∀ H', Same H H' → Q (.bl (decide (d.shown ∈ placeTexts ps))) H'
theorem inV_strs (x : Str) : ∀ ys : List Str, inV (.str x) (ys.map V.str) = decide (x ∈ ys)
  | [] => rfl
  | y :: r => by
    have ih := inV_strs x r
    unfold inV at ih ⊢
    rw [List.map_cons, List.any_cons, ih]
    have e : eqV (.str y) (.str x) = decide (y = x) := rfl
    rw [e]
    by_cases q : y = x
    · subst q
      simp
    · have q2 : ¬ x = y := fun z => q z.symm
      simp [q, q2]
section
variable {P : Program} {w : World} {K : PySem.W.Frag} {mg : Str → Option Value} {base : Heap}
theorem c_is_listed (T : Txt K mg) (D : DefAt K mg "_law_is_listed" s__law_is_listed ["_law_places", "_law_value"]) : CalG P w K mg base 1 "_law_is_listed" ["_law_places", "_law_value"] spListed := by
  refine calOk D sc__law_is_listed (fun xs H Q E h => ?_) (fun f cdv A out s H xs Q E hgd hr h => ?_)
  · obtain ⟨l, v, d, ps, rfl, _⟩ := h
    rfl
  · obtain ⟨l, v, d, ps, rfl, ⟨xs, hl, hX⟩, hn, ht, hv, hw, k⟩ := h
    have nd := sc__law_is_listed.nd
    refine ⟨_, (pss_one (ps_ret (pe_cmpR op_in_seq (pe_callB (call_repr hgd hr.units) (by rfl) T.repr (by decide +kernel) (pa_cons (pv 1) pa_nil)) (pe_lc (own := [("_law_place", 2)]) (g := gName 2) (by rfl) nd (pi_list (pv 0)) (blkOk_by (own := [("_law_place", 2)]) (N := N__law_is_listed) (sc := defScope s__law_is_listed) (by decide +kernel)) (fun _ _ _ _ _ => pg_name (i := 2) nd rfl (.inl rfl)) (fun _ _ _ _ _ => pts_nil) (fun _ _ _ _ _ => pe_callB (show CallR _ (.builtin "repr") (rRepr K) from call_repr (by exact hgd) (by exact hr.units)) (by rfl) T.repr (by decide +kernel) (pa_cons (pv 2) pa_nil))) rfl))), ?_⟩
    have lx := hX.len
    rw [List.length_map] at lx
    refine ⟨_, rfl, _, _, rfl, hv.dp hw.noDict, hw, ?_⟩
    refine ⟨_, rfl, l, rfl, ⟨_, SqL.of hl⟩, fun Dl nD => ?_⟩
    refine lc_list (K := K) (a := l) (xs := xs) (fun i H' => Same H H' ∧ H' Dl = some (.lst ((placeTexts (ps.take i)).map V.str))) ?_ ?_ ?_ ?_
    · exact ⟨same_new nD, upd_same⟩
    · rintro i H' _ ⟨s1, _⟩
      exact SqL.of (s1 _ _ hl)
    · rintro i y H2 hi ⟨s2, hD⟩
      obtain ⟨dd, hd, hy⟩ := hX.get i y hi
      rw [List.getElem?_map] at hd
      obtain ⟨p, hp, rfl⟩ := Option.map_eq_some_iff.mp hd
      have tp := ht p (List.mem_of_getElem? hp)
      have hil : i < xs.length := (List.getElem?_eq_some_iff.mp hi).1
      refine ⟨rfl, ?_⟩
      refine ⟨_, rfl, _, _, rfl, (hy.grow s2).dx.dp tp.shw.noDict, tp.shw, ?_⟩
      refine ⟨_, hD, ?_, Same.put s2 nD, ?_⟩
      · rw [List.length_map]
        unfold placeTexts
        rw [List.length_map, List.length_take]
        exact Nat.lt_of_lt_of_le (show min i ps.length < 20001 by omega) (by decide)
      · rw [upd_same, take_one hp]
        unfold placeTexts
        rw [List.map_append, List.map_append]
        rfl
    · rintro H2 ⟨s2, hD⟩
      rw [lx, List.take_length] at hD
      refine ⟨Dl, _, rfl, .inl (SqL.of hD), rfl, ?_, ?_⟩
      · rw [List.all_eq_true]
        intro z hz
        obtain ⟨y, _, rfl⟩ := List.mem_map.mp hz
        rfl
      · show Q (.bl (inV (.str d.shown) ((placeTexts ps).map V.str))) H2
        rw [inV_strs]
        exact k _ s2
end
end G

set_option Elab.async false
set_option linter.all false
set_option maxRecDepth 100000
set_option maxHeartbeats 4000000
namespace G
open PySem PySem.Spec PyProof.Rows L2
/-! ## the law's `_law_mixed` -/
theorem Mv.tupK {d : Addr} {H H' : Hp} (hd : DiceAt H d) (m : Mv d H H') : TupK H H' := fun p zs h => m.tups hd p zs h
def spMixed : Sp := fun vs H Q _ => ∃ (d l : Addr) (ds : List PyData), vs = [.ref d, .ref l] ∧ DiceAt H d ∧ l ≠ d ∧ ListAt H l ds ∧ ds.length ≤ 20000 ∧
  ∀ (q : Addr) (es : List PyData) (H' : Hp), Mv d H H' → H q = none → ListAt H' q es → es.length = ds.length → (∀ e ∈ es, e ∈ ds) → Q (.ref q) H'
theorem TxAll.eraseIdx {H : Hp} : ∀ {xs : List V} {ds : List PyData} (n : Nat), TxAll H xs ds → TxAll H (xs.eraseIdx n) (ds.eraseIdx n)
  | _, _, _, .nil => .nil
  | _, _, 0, .cons a b => b
  | _, _, n + 1, .cons a b => .cons a (TxAll.eraseIdx n b)
section
variable {P : Program} {w : World} {K : PySem.W.Frag} {mg : Str → Option Value} {base : Heap}
theorem c_mixed (T : Txt K mg) (C__law_roll : CalG P w K mg base 1 "_law_roll" ["_law_dice_here", "_law_total"] spRoll) (D : DefAt K mg "_law_mixed" s__law_mixed ["_law_dice_here", "_law_items"]) : CalG P w K mg base 2 "_law_mixed" ["_law_dice_here", "_law_items"] spMixed := by
  refine calOk D sc__law_mixed (fun xs H Q E h => ?_) (fun f cdv A out s H xs Q E hgd hr h => ?_)
  · obtain ⟨d, l, ds, rfl, _⟩ := h
    rfl
  · obtain ⟨d, l, ds, rfl, hd, ld, ⟨xs, hl, hX⟩, hn, k⟩ := h
    have nd := sc__law_mixed.nd
    refine ⟨_, (pss_cons (ps_par (i := 2) (j := 3) (by rfl) nd rfl rfl (by decide) rfl rfl (pa_cons (pe_callTy call_list_of (by rfl) T.list (by decide +kernel) (pa_cons (pv 1) pa_nil)) (pa_cons (pe_lst pa_nil) pa_nil)) (by rfl))
      (pss_cons (ps_for PassesOwn.never rfl (pi_range1 rfl T.range (pa_cons (pe_callB call_len_seq (by rfl) T.len (by decide +kernel) (pa_cons (pv 1) pa_nil)) pa_nil)) (pg_name (i := 4) nd rfl (.inl rfl)) (pss_one (ps_expr (pe_bm PySem.F.plainAttrs_list PySem.F.slot_list_append PySem.F.type_list_append mt_append (pv 3) (pa_cons (pe_bm PySem.F.plainAttrs_list PySem.F.slot_list_pop PySem.F.type_list_pop mt_popAt (pv 2) (pa_cons (pe_k C__law_roll hgd hr (by decide) rfl (pa_cons (pv 0) (pa_cons (pe_callB call_len_seq (by rfl) T.len (by decide +kernel) (pa_cons (pv 2) pa_nil)) pa_nil))) pa_nil)) pa_nil)))))
      (pss_one (ps_ret (pv 3))))), ?_⟩
    have lx := hX.len
    refine ⟨_, rfl, _, _, rfl, .inl (SqL.of hl), fun a na => ?_⟩
    have s1 := same_new (o := .lst xs) na
    refine ⟨(by show 0 ≤ sizeLine; decide), fun q nq => ?_⟩
    have s2 := same_new (o := .lst []) nq
    have nqH : H q = none := s1.free nq
    have neq : a ≠ q := ne_of_none upd_same nq
    have m2 := ((Mv.refl hd).new (o := .lst xs) na).new (o := .lst []) nq
    have ad := hd.ne na
    have qd := hd.ne nqH
    refine ⟨_, _, rfl, ?_⟩
    refine ⟨_, rfl, l, xs, rfl, .inl (SqL.of (s2 _ _ (s1 _ _ hl))), _, rfl, (by omega), (by omega), ?_⟩
    refine for_range (fun i σ H' => ∃ v4 ls es fs gs, σ = [some (.ref d), some (.ref l), some (.ref a), some (.ref q), v4] ∧ Mv d H H' ∧ H' a = some (.lst ls) ∧ TxAll H' ls es ∧ H' q = some (.lst fs) ∧ TxAll H' fs gs ∧
      es.length + i = ds.length ∧ gs.length = i ∧ (∀ e ∈ es, e ∈ ds) ∧ (∀ e ∈ gs, e ∈ ds)) ?_ ?_ ?_
    · exact ⟨_, xs, ds, [], [], rfl, m2, s2 _ _ upd_same, (hX.grow s1).grow s2, upd_same, .nil, rfl, rfl, fun _ z => z, fun _ z => nomatch z⟩
    · rintro i σ H2 hi ⟨v4, ls, es, fs, gs, rfl, m, ha, hL, hq, hF, l1, l2, in1, in2⟩
      have le := hL.len
      have lf := hF.len
      have hin : i < ds.length := by omega
      refine ⟨_, rfl, .inl ⟨rfl, _, SqL.of hq⟩, _, rfl, .inl ⟨rfl, _, SqL.of ha⟩, _, rfl, _, rfl, a, ls, rfl, .inl (SqL.of ha), ?_⟩
      refine ⟨d, _, rfl, m.dice, (by omega), ?_, fun r H3 r0 r1 m3 _ => ?_⟩
      · exact log_of (n := 20) (by have e : (2 : Nat) ^ 20 = 1048576 := (by decide); omega) (by decide) (by decide) |> fun h => Nat.lt_of_lt_of_le h (by decide)
      have ha3 := m3.get ad ha
      have hq3 := m3.get qd hq
      have hL3 := hL.keep (Mv.tupK m.dice m3)
      have hF3 := hF.keep (Mv.tupK m.dice m3)
      obtain ⟨y, hy⟩ : ∃ y, ls[r.toNat]? = some y := ⟨_, List.getElem?_eq_getElem (by omega)⟩
      obtain ⟨dy, hdy, ty⟩ := hL3.get _ _ hy
      have ix : seqIndex? r ls.length = some r.toNat := PySem.seqIndex_of r0 (by omega)
      refine ⟨a, ls, r, r.toNat, y, rfl, rfl, ha3, (by omega), (by omega), ix, hy, ?_⟩
      have k1 : TupK H3 (upd H3 a (.lst (ls.eraseIdx r.toNat))) := tupk_put ha3
      have hq4 : upd H3 a (.lst (ls.eraseIdx r.toNat)) q = some (.lst fs) := by rw [upd_ne neq.symm]; exact hq3
      refine ⟨q, fs, y, rfl, rfl, hq4, Nat.lt_of_lt_of_le (show fs.length < 20001 by omega) (by decide), ?_⟩
      have k2 : TupK (upd H3 a (.lst (ls.eraseIdx r.toNat))) (upd (upd H3 a (.lst (ls.eraseIdx r.toNat))) q (.lst (fs ++ [y]))) := tupk_put hq4
      have dyin : dy ∈ ds := in1 dy (List.mem_of_getElem? hdy)
      refine ⟨_, ls.eraseIdx r.toNat, es.eraseIdx r.toNat, fs ++ [y], gs ++ [dy], rfl, ((m.trans m3).set na ad).set nqH qd, ?_, ((hL3.eraseIdx r.toNat).keep k1).keep k2, upd_same, ((hF3.keep k1).keep k2).append (.cons ((ty.keep k1).keep k2) .nil), ?_, ?_, ?_, ?_⟩
      · rw [upd_ne neq]
        exact upd_same
      · rw [List.length_eraseIdx]
        split <;> omega
      · rw [List.length_append, l2]
        rfl
      · exact fun e he => in1 e (List.mem_of_mem_eraseIdx he)
      · intro e he
        rcases List.mem_append.mp he with z | z
        · exact in2 e z
        · rw [List.mem_singleton.mp z]
          exact dyin
    · rintro σ H2 ⟨v4, ls, es, fs, gs, rfl, m, ha, hL, hq, hF, l1, l2, in1, in2⟩
      exact ⟨_, rfl, k q gs H2 m nqH ⟨fs, hq, hF⟩ (by omega) in2⟩
end
end G

set_option Elab.async false
set_option linter.all false
set_option maxRecDepth 100000
set_option maxHeartbeats 4000000
namespace G
open PySem PySem.Spec PyProof.Rows L2
theorem a_par {i j : Nat} {ta : TA} {rest : TS} {D : Ends} {σ : L2.St} {H : Hp} (R : V → V → Hp → Prop) (h : ∀ Q' : List V → Hp → Prop, (∀ v w H', R v w H' → Q' [v, w] H') → ta σ H Q')
    (k : ∀ v w H', R v w H' → rest D ((σ.set i (some v)).set j (some w)) H') : tSeq (tPar i j ta) rest D σ H := h _ fun v w H' r => ⟨v, w, rfl, k v w H' r⟩
/-! ## the law's `_law_bent` -/
def rSlT : V → Option Int → Option Int → Hp → VK → Prop := fun x lo hi H Q => ∃ ds : List PyData, Tx H x (.tuple ds) ∧ ∀ v H', Same H H' → Tx H' v (.tuple (cutD ds lo hi)) → Q v H'
theorem TxAll.take {H : Hp} : ∀ {xs : List V} {ds : List PyData} (n : Nat), TxAll H xs ds → TxAll H (xs.take n) (ds.take n)
  | _, _, 0, _ => .nil
  | _, _, _ + 1, .nil => .nil
  | _, _, n + 1, .cons a b => .cons a (TxAll.take n b)
theorem TxAll.drop {H : Hp} : ∀ {xs : List V} {ds : List PyData} (n : Nat), TxAll H xs ds → TxAll H (xs.drop n) (ds.drop n)
  | _, _, 0, h => h
  | _, _, _ + 1, .nil => .nil
  | _, _, n + 1, .cons a b => TxAll.drop n b
theorem sl_tupT {X : Cx} : SlR X rSlT := by
  intro pins s σ H x v vl vu lo hi sl Q I rx hs pl pu h
  obtain ⟨ds, hx, k⟩ := h
  obtain ⟨a, xs, rfl, ha, hxs⟩ := hx.tupOf
  have l1 := hxs.len
  refine sl_tupA pins s σ H (.ref a) v vl vu lo hi sl Q I rx hs pl pu ⟨a, xs, rfl, SqT.of ha, fun e => ?_, fun _ p np => ?_⟩
  · refine k _ _ (Same.refl _) ?_
    have e2 : cutD ds lo hi = ds := by
      unfold cutD
      rw [← l1, e.1, e.2]
      simp [l1]
    rw [e2]
    exact hx
  · have s1 := same_new (o := .tup (cutV xs lo hi)) np
    refine k _ _ s1 (.tup upd_same ?_)
    have e2 : cutV xs lo hi = (xs.drop (HT.sIx ds.length 0 lo)).take (HT.sIx ds.length ds.length hi - HT.sIx ds.length 0 lo) := by
      unfold cutV
      rw [l1]
    rw [e2]
    exact ((hxs.drop _).take _).grow (e2 ▸ s1)
def rCatT : R2 := fun x y H Q => ∃ ds es : List PyData, Tx H x (.tuple ds) ∧ Tx H y (.tuple es) ∧ ds.length + es.length ≤ 100000 ∧ ∀ v H', Same H H' → Tx H' v (.tuple (ds ++ es)) → Q v H'
theorem op_catT {X : Cx} : OpR X (binaryOp .Add) rCatT := by
  refine OpR.to op_catA fun x y H Q h => ?_
  obtain ⟨ds, es, hx, hy, hl, k⟩ := h
  obtain ⟨a, xs, rfl, ha, hxs⟩ := hx.tupOf
  obtain ⟨b, ys, rfl, hb, hys⟩ := hy.tupOf
  have l1 := hxs.len
  have l2 := hys.len
  refine ⟨a, b, xs, ys, rfl, rfl, SqT.of ha, SqT.of hb, Nat.le_trans (show xs.length + ys.length ≤ 100000 by omega) (by decide), fun e => ?_, fun _ e => ?_, fun _ _ r nr => ?_⟩
  · subst e
    cases hxs
    exact k _ _ (Same.refl _) hy
  · subst e
    cases hys
    refine k _ _ (Same.refl _) ?_
    rw [List.append_nil]
    exact hx
  · exact k _ _ (same_new nr) (.tup upd_same ((hxs.append hys).grow (same_new nr)))
theorem TxAll.flat {H : Hp} {xs : List V} {ds : List PyData} (h : TxAll H xs ds) : ∀ n, TxAll H (List.replicate n xs).flatten (List.replicate n ds).flatten
  | 0 => .nil
  | n + 1 => by
    rw [List.replicate_succ, List.replicate_succ, List.flatten_cons, List.flatten_cons]
    exact h.append (TxAll.flat h n)
def rRepX : R2 := fun x y H Q => ∃ (k : Nat) (ds : List PyData), y = .int (k : Nat) ∧ Tx H x (.tuple ds) ∧ ds ≠ [] ∧ k ≤ 1000 ∧ ds.length ≤ 1000 ∧ ∀ v H', Same H H' → Tx H' v (.tuple (List.replicate k ds).flatten) → Q v H'
theorem op_repX {X : Cx} : OpR X (binaryOp .Mult) rRepX := by
  refine OpR.to op_repN fun x y H Q h => ?_
  obtain ⟨n, ds, rfl, hx, h0, h3, h4, k⟩ := h
  obtain ⟨a, xs, rfl, ha, hxs⟩ := hx.tupOf
  have l1 := hxs.len
  refine ⟨a, (n : Nat), xs, rfl, rfl, SqT.of ha, fun e => ?_, by omega, by omega, by omega, fun e => ?_, fun _ p np => ?_⟩
  · subst e
    cases hxs
    exact h0 rfl
  · have e1 : n = 1 := by omega
    subst e1
    refine k _ _ (Same.refl _) ?_
    simpa using hx
  · refine k _ _ (same_new np) (.tup upd_same ?_)
    rw [Int.toNat_natCast]
    exact (hxs.flat n).grow (same_new np)
theorem DiceAt.neT {H : Hp} {d p : Addr} {xs : List V} (hd : DiceAt H d) (h : H p = some (.tup xs)) : p ≠ d := fun e => by
  obtain ⟨l, s, c, q⟩ := hd
  rw [e, q] at h
  cases h
mutual
theorem Tx.hid {d : Addr} {H : Hp} (hd : DiceAt H d) : ∀ {x : V} {dat : PyData}, Tx H x dat → Dx (hide d H) x dat
  | _, _, .non => .non
  | _, _, .int i => .int i
  | _, _, .str x => .str x
  | _, _, .tup h a => .tup (hide_up (hd.neT h) h) (TxAll.hid hd a)
theorem TxAll.hid {d : Addr} {H : Hp} (hd : DiceAt H d) : ∀ {xs : List V} {ds : List PyData}, TxAll H xs ds → DxAll (hide d H) xs ds
  | _, _, .nil => .nil
  | _, _, .cons a b => .cons (Tx.hid hd a) (TxAll.hid hd b)
end
theorem Tx.plc {H : Hp} {v : V} {p : Plc} (h : Tx H v (plcD p)) : ∃ q w, v = .ref q ∧ H q = some (.tup [.int (p.lev : Nat), .str p.side, .int (p.idx : Nat), w]) ∧ Tx H w (.tuple (p.path.map fun c => .int (c : Nat))) := by
  obtain ⟨q, zs, rfl, hq, hz⟩ := h.tupOf
  cases hz with
  | cons z1 r1 => cases r1 with
    | cons z2 r2 => cases r2 with
      | cons z3 r3 => cases r3 with
        | cons z4 r4 =>
          cases r4
          cases z1
          cases z2
          cases z3
          exact ⟨q, _, rfl, hq, z4⟩
/-- small plain data -/
structure Ft (n b : Nat) (d : PyData) : Prop where
  plain : plainD d = true
  nice_ : nice d = true
  deep : d.depth ≤ n
  few : d.bulk ≤ b
theorem Ft.mono {n b n' b' : Nat} {d : PyData} (h : Ft n b d) (h1 : n ≤ n') (h2 : b ≤ b') : Ft n' b' d := ⟨h.plain, h.nice_, Nat.le_trans h.deep h1, Nat.le_trans h.few h2⟩
theorem Ft.all {n b : Nat} : ∀ {ds : List PyData}, (∀ d ∈ ds, Ft n b d) → plainAll ds = true ∧ niceAll ds = true ∧ PyData.depthAll ds ≤ n ∧ PyData.bulkAll ds ≤ ds.length * (b + 1)
  | [], _ => ⟨rfl, rfl, by simp [PyData.depthAll], by simp [PyData.bulkAll]⟩
  | d :: r, h => by
    obtain ⟨h1, h2, h3, h4⟩ := Ft.all fun e he => h e (List.mem_cons_of_mem _ he)
    obtain ⟨g1, g2, g3, g4⟩ := h d List.mem_cons_self
    refine ⟨by rw [plainAll, g1, h1]; rfl, by rw [niceAll, g2, h2]; rfl, ?_, ?_⟩
    · simp only [PyData.depthAll]
      omega
    · have e : PyData.bulkAll (d :: r) = d.bulk + 1 + PyData.bulkAll r := rfl
      rw [e, List.length_cons, Nat.succ_mul]
      omega
theorem Ft.tup {n b : Nat} {ds : List PyData} (h : ∀ d ∈ ds, Ft n b d) : Ft (n + 1) (ds.length * (b + 1)) (.tuple ds) := by
  obtain ⟨h1, h2, h3, h4⟩ := Ft.all h
  exact ⟨by rw [plainD]; exact h1, by rw [nice]; exact h2, by simp only [PyData.depth]; omega, h4⟩
theorem Ft.lst {n b : Nat} {ds : List PyData} (h : ∀ d ∈ ds, Ft n b d) : Ft (n + 1) (ds.length * (b + 1)) (.list ds) := by
  obtain ⟨h1, h2, h3, h4⟩ := Ft.all h
  exact ⟨by rw [plainD]; exact h1, by rw [nice]; exact h2, by simp only [PyData.depth]; omega, h4⟩
theorem Ft.int {i : Int} (h0 : -1000000 ≤ i) (h1 : i ≤ 1000000) : Ft 0 0 (.int i) := ⟨rfl, nice_int h0 h1, by simp [PyData.depth], Nat.le_refl _⟩
theorem Ft.non : Ft 0 0 .none := ⟨rfl, rfl, by simp [PyData.depth], Nat.le_refl _⟩
theorem Ft.bl (b : Bool) : Ft 0 0 (.bool b) := ⟨rfl, rfl, by simp [PyData.depth], Nat.le_refl _⟩
theorem Ft.str {x : Str} (h : x ∈ okTexts) : Ft 0 8 (.str x) := by
  have h2 : okTexts.all (fun x => plainD (.str x) && nice (.str x) && decide (PyData.bulk (.str x) ≤ 8)) = true := by decide +kernel
  have h3 := List.all_eq_true.mp h2 x h
  rw [Bool.and_eq_true, Bool.and_eq_true, decide_eq_true_eq] at h3
  exact ⟨h3.1.1, h3.1.2, by simp [PyData.depth], h3.2⟩
theorem Ft.side {x : Str} (h : x = "left" ∨ x = "right") : Ft 0 8 (.str x) := by
  rcases h with rfl | rfl <;> exact Ft.str (by decide +kernel)
theorem Ft.shw {n b : Nat} {d : PyData} (h : Ft n b d) (h1 : n ≤ 60) (h2 : b ≤ 10000) : Shw d := G.shw h.nice_ (Nat.le_trans h.deep h1) (Nat.le_trans h.few h2)
theorem Ft.four {a s i w : PyData} (ha : Ft 2 20 a) (hs : Ft 2 20 s) (hi : Ft 2 20 i) (hw : Ft 2 20 w) : Ft 4 1000 (.tuple [a, s, i, w]) := by
  refine (Ft.tup (n := 2) (b := 20) fun d hd => ?_).mono (by decide) (by show 4 * 21 ≤ 1000; decide)
  simp only [List.mem_cons, List.not_mem_nil, or_false] at hd
  rcases hd with rfl | rfl | rfl | rfl
  · exact ha
  · exact hs
  · exact hi
  · exact hw
mutual
theorem plain_lay : ∀ d : PyData, plainD d = true → PyData.canLay0 d = true ∧ d.hasDict = false
  | .none, _ => by simp [PyData.canLay0, PyData.hasDict]
  | .bool _, _ => by simp [PyData.canLay0, PyData.hasDict]
  | .int _, _ => by simp [PyData.canLay0, PyData.hasDict]
  | .str x, h => by
    have h2 : okTexts.all (fun x => PyData.strOk x) = true := by decide +kernel
    have h3 := List.all_eq_true.mp h2 x (txt_ok h)
    simp [PyData.canLay0, PyData.hasDict, h3]
  | .list xs, h => by
    obtain ⟨a, b⟩ := plain_layAll xs (by rw [plainD] at h; exact h)
    simp [PyData.canLay0, PyData.hasDict, a, b]
  | .tuple xs, h => by
    obtain ⟨a, b⟩ := plain_layAll xs (by rw [plainD] at h; exact h)
    simp [PyData.canLay0, PyData.hasDict, a, b]
theorem plain_layAll : ∀ ds : List PyData, plainAll ds = true → PyData.canLayAll0 ds = true ∧ PyData.hasDictAll ds = false
  | [], _ => ⟨rfl, rfl⟩
  | d :: r, h => by
    rw [plainAll, Bool.and_eq_true] at h
    obtain ⟨a, b⟩ := plain_lay d h.1
    obtain ⟨a', b'⟩ := plain_layAll r h.2
    simp [PyData.canLayAll0, PyData.hasDictAll, a, b, a', b']
end
theorem Ft.sides {n b : Nat} {dat : PyData} (h : Ft n b dat) (hn : n ≤ 60) : ∀ a s i w, dat = .tuple [a, s, i, w] → s.hasDict = false ∧ SeqAt.shaped s = true := by
  rintro a s i w rfl
  have hp := h.plain
  have hd := h.deep
  rw [plainD, plainAll, plainAll, Bool.and_eq_true, Bool.and_eq_true] at hp
  obtain ⟨c, e⟩ := plain_lay s hp.2.1
  simp only [PyData.depth, PyData.depthAll] at hd
  refine ⟨e, ?_⟩
  show (PyData.canLay0 _ && decide (PyData.depth _ ≤ 64)) = true
  rw [c, Bool.true_and]
  exact decide_eq_true (by omega)
theorem Tame.ft {p : Plc} (t : Tame p) : Ft 2 30 (plcD p) := by
  obtain ⟨a, b, c⟩ := t.show_
  exact ⟨plain_plc t.side, a, b, c⟩
theorem ft_path {cs : List Int} (h : ∀ c ∈ cs, -1000000 ≤ c ∧ c ≤ 1000000) (hl : cs.length ≤ 20) : Ft 1 20 (.tuple (cs.map PyData.int)) := by
  refine (Ft.tup (n := 0) (b := 0) fun d hd => ?_).mono (by decide) (by rw [List.length_map]; omega)
  obtain ⟨c, hc, rfl⟩ := List.mem_map.mp hd
  exact Ft.int (h c hc).1 (h c hc).2
def spBent : Sp := fun vs H Q _ => ∃ (d : Addr) (v : V) (p : Plc), vs = [.ref d, v] ∧ DiceAt H d ∧ Tx H v (plcD p) ∧ Tame p ∧ ∀ v' dat H', Mv d H H' → Dx (hide d H') v' dat → Ft 5 5000 dat → Q v' H'
theorem fresh_tup {d p : Addr} {H : Hp} {xs : List V} {ds : List PyData} (hd : DiceAt H d) (np : H p = none) (h : DxAll (hide d H) xs ds) : Dx (hide d (upd H p (.tup xs))) (.ref p) (.tuple ds) :=
  .tup (by rw [hide_ne (hd.ne np)]; exact upd_same) (DxAll.grow (fresh_same hd np) h)
theorem fresh_lst {d p : Addr} {H : Hp} {xs : List V} {ds : List PyData} (hd : DiceAt H d) (np : H p = none) (h : DxAll (hide d H) xs ds) : Dx (hide d (upd H p (.lst xs))) (.ref p) (.list ds) :=
  .lst (by rw [hide_ne (hd.ne np)]; exact upd_same) (DxAll.grow (fresh_same hd np) h)
theorem cut_mem {ds : List PyData} {lo hi : Option Int} {d : PyData} (h : d ∈ cutD ds lo hi) : d ∈ ds := by
  unfold cutD at h
  exact List.mem_of_mem_drop (List.mem_of_mem_take h)
theorem cut_len (ds : List PyData) (lo hi : Option Int) : (cutD ds lo hi).length ≤ ds.length := by
  unfold cutD
  rw [List.length_take, List.length_drop]
  omega
theorem ft_ints {ds : List PyData} (h : ∀ d ∈ ds, Ft 0 0 d) (hl : ds.length ≤ 20) : Ft 1 20 (.tuple ds) := (Ft.tup h).mono (by decide) (by omega)
section
variable {P : Program} {w : World} {K : PySem.W.Frag} {mg : Str → Option Value} {base : Heap}
theorem c_bent (T : Txt K mg) (C__law_roll : CalG P w K mg base 1 "_law_roll" ["_law_dice_here", "_law_total"] spRoll) (C__law_pick : CalG P w K mg base 2 "_law_pick" ["_law_dice_here", "_law_items"] (spPick K))
    (D : DefAt K mg "_law_bent" s__law_bent ["_law_dice_here", "_law_place"]) : CalG P w K mg base 3 "_law_bent" ["_law_dice_here", "_law_place"] spBent := by
  refine calOk D sc__law_bent (fun xs H Q E h => ?_) (fun f cdv A out s H xs Q E hgd hr h => ?_)
  · obtain ⟨d, v, p, rfl, _⟩ := h
    rfl
  · obtain ⟨d, v, p, rfl, hd, hv, tp, k⟩ := h
    have nd := sc__law_bent.nd
    refine ⟨_, (pss_cons (ps_asg (pv 1) (pg_tup (by rfl) (pgs_cons (pg_name (i := 2) nd rfl (.inl rfl)) (pgs_cons (pg_name (i := 3) nd rfl (.inl rfl)) (pgs_cons (pg_name (i := 4) nd rfl (.inl rfl)) (pgs_cons (pg_name (i := 5) nd rfl (.inl rfl)) pgs_nil))))))
      (pss_cons (ps_par (i := 6) (j := 7) (by rfl) nd rfl rfl (by decide) rfl rfl (pa_cons (pe_k C__law_roll hgd hr (by decide) rfl (pa_cons (pv 0) (pa_cons pe_int pa_nil))) (pa_cons (pe_k C__law_pick hgd hr (by decide) rfl (pa_cons (pv 0) (pa_cons (pe_lst (pa_cons pe_int (pa_cons (pe_op op_sub pe_int pe_int) (pa_cons pe_int (pa_cons pe_int pa_nil))))) pa_nil))) pa_nil)) (by rfl))
      (pss_cons (ps_if (pt_cmpR op_eq (pv 6) pe_int (nomark _)) (pss_one (ps_ret (pe_tup (pa_cons (pe_op op_add (pv 2) (pv 7)) (pa_cons (pv 3) (pa_cons (pv 4) (pa_cons (pv 5) pa_nil))))))) pss_nil)
      (pss_cons (ps_if (pt_cmpR op_eq (pv 6) pe_int (nomark _)) (pss_one (ps_ret (pe_tup (pa_cons (pv 2) (pa_cons (pe_ifExp (pt_cmpR op_eq (pv 3) pe_str (nomark _)) pe_str pe_str) (pa_cons (pv 4) (pa_cons (pv 5) pa_nil))))))) pss_nil)
      (pss_cons (ps_if (pt_cmpR op_eq (pv 6) pe_int (nomark _)) (pss_one (ps_ret (pe_tup (pa_cons (pv 2) (pa_cons (pv 3) (pa_cons (pe_op op_add (pv 4) (pv 7)) (pa_cons (pv 5) pa_nil))))))) pss_nil)
      (pss_cons (ps_if (PW.pt (pw_and (pt_cmpR op_eq (pv 6) pe_int (nomark _)) (pw_and1 (pt_cmpR (op_neD hr.units) (pv 5) (pe_tup pa_nil) (nomark _))))) (pss_cons (ps_set (i := 8) nd rfl (.inl rfl) (pe_k C__law_roll hgd hr (by decide) rfl (pa_cons (pv 0) (pa_cons (pe_callB call_len_seq (by rfl) T.len (by decide +kernel) (pa_cons (pv 5) pa_nil)) pa_nil))))
        (pss_one (ps_ret (pe_tup (pa_cons (pv 2) (pa_cons (pv 3) (pa_cons (pv 4) (pa_cons (pe_op op_catT (pe_op op_catT (pe_slice sl_tupT (pv 5) po_none (po_some (pv 8))) (pe_tup (pa_cons (pe_op op_add (pe_ix ix_tup (pv 5) (pv 8) (fun _ _ => rfl)) (pv 7)) pa_nil))) (pe_slice sl_tupT (pv 5) (po_some (pe_op op_add (pv 8) pe_int)) po_none)) pa_nil)))))))) pss_nil)
      (pss_cons (ps_if (pt_cmpR op_eq (pv 6) pe_int (nomark _)) (pss_one (ps_ret (pe_tup (pa_cons (pv 2) (pa_cons (pv 3) (pa_cons (pv 4) (pa_cons (pe_op op_catT (pv 5) (pe_tup (pa_cons pe_int pa_nil))) pa_nil))))))) pss_nil)
      (pss_cons (ps_if (pt_cmpR op_eq (pv 6) pe_int (nomark _)) (pss_one (ps_ret (pe_tup (pa_cons (pv 2) (pa_cons (pv 3) (pa_cons (pv 4) (pa_cons (pe_slice sl_tupT (pv 5) (po_some pe_int) po_none) pa_nil))))))) pss_nil)
      (pss_cons (ps_if (pt_cmpR op_eq (pv 6) pe_int (nomark _)) (pss_one (ps_ret (pe_k C__law_pick hgd hr (by decide) rfl (pa_cons (pv 0) (pa_cons (pe_lst (pa_cons (pe_callTy call_list_of (by rfl) T.list (by decide +kernel) (pa_cons (pv 1) pa_nil)) (pa_cons (pe_slice sl_tupT (pv 1) po_none (po_some pe_int)) (pa_cons (pe_op op_catT (pv 1) (pe_tup (pa_cons pe_int pa_nil))) (pa_cons (pe_tup (pa_cons (pv 2) (pa_cons (pv 3) (pa_cons (pv 4) (pa_cons (pe_callTy call_list_of (by rfl) T.list (by decide +kernel) (pa_cons (pv 5) pa_nil)) pa_nil))))) (pa_cons (pe_tup (pa_cons (pv 1) pa_nil)) pa_nil)))))) pa_nil))))) pss_nil)
      (pss_cons (ps_if (pt_cmpR op_eq (pv 6) pe_int (nomark _)) (pss_one (ps_ret (pe_tup (pa_cons (pv 2) (pa_cons (pe_k C__law_pick hgd hr (by decide) rfl (pa_cons (pv 0) (pa_cons (pe_lst (pa_cons pe_str (pa_cons pe_str (pa_cons pe_non (pa_cons pe_int (pa_cons (pe_lst (pa_cons pe_str pa_nil)) pa_nil)))))) pa_nil))) (pa_cons (pv 4) (pa_cons (pv 5) pa_nil))))))) pss_nil)
      (pss_cons (ps_set (i := 9) nd rfl (.inl rfl) (pe_lst (pa_cons (pe_tup (pa_cons pe_bl (pa_cons (pv 3) (pa_cons (pv 4) (pa_cons (pv 5) pa_nil))))) (pa_cons (pe_tup (pa_cons (pv 2) (pa_cons (pv 3) (pa_cons pe_non (pa_cons (pv 5) pa_nil))))) (pa_cons (pe_tup (pa_cons (pv 2) (pa_cons (pv 3) (pa_cons (pv 4) (pa_cons pe_non pa_nil))))) pa_nil)))))
      (pss_cons (ps_set (i := 9) nd rfl (.inl rfl) (pe_op op_cat (pv 9) (pe_lst (pa_cons (pe_tup (pa_cons pe_non (pa_cons (pv 3) (pa_cons (pv 4) (pa_cons (pv 5) pa_nil))))) (pa_cons (pe_tup (pa_cons (pv 2) (pa_cons (pv 3) (pa_cons pe_bl (pa_cons (pv 5) pa_nil))))) (pa_cons (pe_tup (pa_cons (pv 2) (pa_cons (pv 3) (pa_cons (pv 4) (pa_cons (pe_op op_repX (pe_tup (pa_cons pe_str pa_nil)) (pv 2)) pa_nil))))) pa_nil))))))
      (pss_one (ps_ret (pe_k C__law_pick hgd hr (by decide) rfl (pa_cons (pv 0) (pa_cons (pv 9) pa_nil))))))))))))))))), ?_⟩
    have fp := tp.ft
    obtain ⟨t1, t2, t3, t4, t5⟩ := tp
    obtain ⟨q, wv, rfl, hq, hw⟩ := hv.plc
    refine ⟨_, rfl, q, _, rfl, SqT.of hq, rfl, _, _, rfl, _, _, rfl, _, _, rfl, _, _, rfl, rfl, ?_⟩
    refine go_nx ?_
    -- way, by
    refine a_par (fun x y H' => (∃ r b : Int, x = .int r ∧ y = .int b ∧ 0 ≤ r ∧ r < 9 ∧ -10 ≤ b ∧ b ≤ 10) ∧ Mv d H H') (fun Q' kQ => ?_) ?_
    · refine ⟨_, rfl, d, 9, rfl, hd, (by decide), (by decide +kernel), fun r H1 r0 r1 m1 _ => ?_⟩
      refine ⟨_, rfl, _, _, rfl, rfl, (by show 4 ≤ sizeLine; decide), fun p1 n1 => ?_⟩
      have m2 := Mv.new (o := .lst [.int 1, .int (0 - 1), .int 2, .int 7]) (Mv.refl m1.dice) n1
      refine ⟨d, p1, _, rfl, m2.dice, SqL.of upd_same, m1.dice.ne n1, (by show 0 < 4; decide), (by show 4 ≤ 1000; decide), fun i2 x2 H2 e2 m3 _ => ?_⟩
      refine kQ _ _ _ ⟨?_, (m1.trans m2).trans m3⟩
      match i2, e2 with
      | 0, e => cases e; exact ⟨r, 1, rfl, rfl, r0, r1, by decide, by decide⟩
      | 1, e => cases e; exact ⟨r, 0 - 1, rfl, rfl, r0, r1, by decide, by decide⟩
      | 2, e => cases e; exact ⟨r, 2, rfl, rfl, r0, r1, by decide, by decide⟩
      | 3, e => cases e; exact ⟨r, 7, rfl, rfl, r0, r1, by decide, by decide⟩
      | n + 4, e => cases e
    rintro _ _ H1 ⟨⟨r, b, rfl, rfl, r0, r1, b0, b1⟩, m⟩
    replace hv := hv.keep (Mv.tupK hd m)
    replace hw := hw.keep (Mv.tupK hd m)
    replace hq := Mv.tupK hd m _ _ hq
    have dd := m.dice
    have hwd := hw.hid dd
    have fints : ∀ e ∈ (p.path.map fun c => PyData.int (c : Nat)), Ft 0 0 e := fun e he => by
      obtain ⟨c, hc, rfl⟩ := List.mem_map.mp he
      have := t5 c hc
      exact Ft.int (by omega) (by omega)
    have plen : (p.path.map fun c => PyData.int (c : Nat)).length ≤ 5 := by rw [List.length_map]; exact t4
    have fpath : Ft 2 20 (.tuple (p.path.map fun c => PyData.int (c : Nat))) := (ft_ints fints (by omega)).mono (by decide) (by decide)
    have flev : Ft 2 20 (.int (p.lev : Nat)) := (Ft.int (by omega) (by omega)).mono (by decide) (by decide)
    have fidx : Ft 2 20 (.int (p.idx : Nat)) := (Ft.int (by omega) (by omega)).mono (by decide) (by decide)
    have fside : Ft 2 20 (.str p.side) := (Ft.side t2).mono (by decide) (by decide)
    have done : ∀ {va vs vi vw : V} {da ds di dw : PyData} {H2 : Hp} (z : Addr), Mv d H H2 → H2 z = none → Dx (hide d H2) va da → Dx (hide d H2) vs ds → Dx (hide d H2) vi di → Dx (hide d H2) vw dw → Ft 2 20 da → Ft 2 20 ds → Ft 2 20 di → Ft 2 20 dw →
        Q (.ref z) (upd H2 z (.tup [va, vs, vi, vw])) := fun z m2 nz ha hs hi hw fa fs fi fw =>
      k _ _ _ (m2.new nz) (fresh_tup m2.dice nz (.cons ha (.cons hs (.cons hi (.cons hw .nil))))) ((Ft.four fa fs fi fw).mono (by decide) (by decide))
    have many : ∀ {xs : List V} {ds : List PyData} {H2 : Hp} (z : Addr), Mv d H H2 → H2 z = none → DxAll (hide d H2) xs ds → (∀ e ∈ ds, Ft 5 5000 e) → 0 < xs.length → xs.length ≤ 1000 → spPick K [.ref d, .ref z] (upd H2 z (.lst xs)) Q (fun _ _ _ => False) := fun {xs ds H2} z m2 nz hx hf h0 h9 => by
      have m3 := m2.new (o := .lst xs) nz
      have h2 := DxAll.grow (fresh_same (o := .lst xs) m2.dice nz) hx
      refine ⟨d, z, xs, rfl, m3.dice, SqL.of upd_same, m2.dice.ne nz, h0, h9, fun i x H3 e m4 _ => ?_⟩
      obtain ⟨dat, din, hdx⟩ := picked h2 m4 e
      exact k _ _ _ (m3.trans m4) hdx (hf dat din)
    -- 0
    refine a_if (fun b H' => H1 = H') (fun Q' kQ => ⟨_, rfl, rfl, _, rfl, kQ _ _ rfl⟩) ?_ ?_
    · rintro _ rfl
      refine ⟨_, rfl, _, rfl, _, _, rfl, rfl, _, rfl, _, rfl, _, rfl, (by show 4 ≤ sizeLine; decide), fun z nz => ?_⟩
      exact done z m nz (.int _) (.str _) (.int _) hwd ((Ft.int (by omega) (by omega)).mono (by decide) (by decide)) fside fidx fpath
    rintro _ rfl
    refine go_nx ?_
    -- 1
    refine a_if (fun b H' => H1 = H') (fun Q' kQ => ⟨_, rfl, rfl, _, rfl, kQ _ _ rfl⟩) ?_ ?_
    · rintro _ rfl
      refine ⟨_, rfl, _, rfl, rfl, _, rfl, ite2 (fun _ => ?_) (fun _ => ?_)⟩
      · refine ⟨_, rfl, _, rfl, (by show 4 ≤ sizeLine; decide), fun z nz => ?_⟩
        exact done z m nz (.int _) (.str _) (.int _) hwd flev ((Ft.side (.inr rfl)).mono (by decide) (by decide)) fidx fpath
      · refine ⟨_, rfl, _, rfl, (by show 4 ≤ sizeLine; decide), fun z nz => ?_⟩
        exact done z m nz (.int _) (.str _) (.int _) hwd flev ((Ft.side (.inl rfl)).mono (by decide) (by decide)) fidx fpath
    rintro _ rfl
    refine go_nx ?_
    -- 2
    refine a_if (fun b H' => H1 = H') (fun Q' kQ => ⟨_, rfl, rfl, _, rfl, kQ _ _ rfl⟩) ?_ ?_
    · rintro _ rfl
      refine ⟨_, rfl, _, rfl, _, rfl, _, rfl, _, _, rfl, rfl, _, rfl, (by show 4 ≤ sizeLine; decide), fun z nz => ?_⟩
      exact done z m nz (.int _) (.str _) (.int _) hwd flev fside ((Ft.int (by omega) (by omega)).mono (by decide) (by decide)) fpath
    rintro _ rfl
    refine go_nx ?_
    -- 3
    refine a_if (fun b H' => (b = true → p.path ≠ []) ∧ Same H1 H') (fun Q' kQ => ?_) ?_ ?_
    · refine ⟨_, rfl, rfl, _, rfl, ite2 (fun _ => ?_) (fun _ => kQ _ _ ⟨(fun z => Bool.noConfusion z), Same.refl _⟩)⟩
      refine ⟨_, rfl, (by show 0 ≤ sizeLine; decide), fun p1 n1 => ?_⟩
      have s1 := same_new (o := .tup []) n1
      obtain ⟨lay, nod⟩ := plain_lay _ fpath.plain
      have shp : SeqAt.shaped (.tuple (p.path.map fun c => PyData.int (c : Nat))) = true := by
        have hdp := fpath.deep
        show (PyData.canLay0 _ && decide (PyData.depth _ ≤ 64)) = true
        rw [lay, Bool.true_and]
        exact decide_eq_true (by omega)
      refine ⟨_, .tuple [], (hw.grow s1).dx.dp nod, .tup (SqT.of upd_same) .nil, shp, (by decide +kernel), ?_⟩
      by_cases e : p.path = []
      · refine ⟨false, congrArg V.bl (by rw [e]; decide +kernel), kQ _ _ ⟨(fun z => Bool.noConfusion z), s1⟩⟩
      · refine ⟨true, congrArg V.bl ?_, kQ _ _ ⟨fun _ => e, s1⟩⟩
        cases e2 : p.path with
        | nil => exact absurd e2 e
        | cons c r => simp [PyData.eqv, PyData.eqvAll]
    · rintro H2 ⟨hne, s2⟩
      have hne := hne rfl
      have mm := m.ofSame s2
      have hw2 := hw.grow s2
      obtain ⟨pa, ps, rfl, hpa, hps⟩ := hw2.tupOf
      have lps := hps.len
      rw [List.length_map] at lps
      have pos : 0 < p.path.length := List.length_pos_iff.mpr hne
      refine a_set (fun v H' => ∃ j : Nat, v = .int (j : Nat) ∧ j < p.path.length ∧ Mv d H2 H') (fun Q' kQ => ?_) ?_
      · refine ⟨_, rfl, _, rfl, pa, ps, rfl, .inr (SqT.of hpa), d, _, rfl, mm.dice, (by omega), ?_, fun r H3 r0 r1 m3 _ => ?_⟩
        · exact Nat.lt_of_lt_of_le (log_of (x := (ps.length : Int)) (n := 20) (by have e : (2 : Nat) ^ 20 = 1048576 := (by decide); omega) (by decide) (by decide)) (by decide)
        · exact kQ _ _ ⟨r.toNat, by rw [Int.toNat_of_nonneg r0], by omega, m3⟩
      rintro _ H3 ⟨j, rfl, hj, m3⟩
      have m3' := mm.trans m3
      have hw3 := hw2.keep (Mv.tupK mm.dice m3)
      have hpa3 := Mv.tupK mm.dice m3 _ _ hpa
      have hps3 := hps.keep (Mv.tupK mm.dice m3)
      obtain ⟨c, hc⟩ : ∃ c, p.path[j]? = some c := ⟨_, List.getElem?_eq_getElem hj⟩
      have c4 := t5 c (List.mem_of_getElem? hc)
      obtain ⟨cv, hcv, hct⟩ := hps3.getD j (.int (c : Nat)) (by rw [List.getElem?_map, hc]; rfl)
      cases hct
      refine ⟨_, rfl, _, rfl, _, rfl, ?_⟩
      refine ⟨_, rfl, _, rfl, _, rfl, _, hw3, fun v1 H4 s4 h1 => ?_⟩
      refine ⟨_, rfl, _, rfl, _, _, _, _, rfl, rfl, SqT.of (s4 _ _ hpa3), atI_nat hcv, _, rfl, _, _, rfl, rfl, (by show 1 ≤ sizeLine; decide), fun p5 n5 => ?_⟩
      have s5 := same_new (o := .tup [.int ((c : Nat) + b : Int)]) n5
      have h5 : Tx (upd H4 p5 (.tup [.int ((c : Nat) + b : Int)])) (.ref p5) (.tuple [.int ((c : Nat) + b : Int)]) := .tup upd_same (.cons (.int _) .nil)
      refine ⟨_, _, h1.grow s5, h5, ?_, fun v2 H6 s6 h6 => ?_⟩
      · have := cut_len (p.path.map fun c => PyData.int (c : Nat)) none (some (j : Int))
        show (cutD _ _ _).length + 1 ≤ 100000
        omega
      refine ⟨_, rfl, _, rfl, _, _, rfl, rfl, _, rfl, _, ((hw3.grow s4).grow s5).grow s6, fun v3 H7 s7 h7 => ?_⟩
      have l1 := cut_len (p.path.map fun c => PyData.int (c : Nat)) none (some (j : Int))
      have l2 := cut_len (p.path.map fun c => PyData.int (c : Nat)) (some ((j : Int) + 1)) none
      refine ⟨_, _, h6.grow s7, h7, ?_, fun v4 H8 s8 h8 => ?_⟩
      · rw [List.length_append]
        show (cutD _ _ _).length + 1 + (cutD _ _ _).length ≤ 100000
        omega
      refine ⟨(by show 4 ≤ sizeLine; decide), fun z nz => ?_⟩
      have mF := m3'.ofSame ((((s4.trans s5).trans s6).trans s7).trans s8)
      refine done z mF nz (.int _) (.str _) (.int _) (h8.hid mF.dice) flev fside fidx ((ft_ints (fun e he => ?_) ?_).mono (by decide) (by decide))
      · rcases List.mem_append.mp he with he | he
        · rcases List.mem_append.mp he with he | he
          · exact fints e (cut_mem he)
          · rw [List.mem_singleton.mp he]
            exact Ft.int (by omega) (by omega)
        · exact fints e (cut_mem he)
      · rw [List.length_append, List.length_append]
        show (cutD _ _ _).length + 1 + (cutD _ _ _).length ≤ 20
        omega
    rintro H2 ⟨_, s2⟩
    refine go_nx ?_
    replace m := m.ofSame s2
    replace hv := hv.grow s2
    replace hw := hw.grow s2
    replace hq := s2 _ _ hq
    replace dd := m.dice
    replace hwd := hw.hid dd
    -- 4
    refine a_if (fun b H' => H2 = H') (fun Q' kQ => ⟨_, rfl, rfl, _, rfl, kQ _ _ rfl⟩) ?_ ?_
    · rintro _ rfl
      refine ⟨_, rfl, _, rfl, _, rfl, _, rfl, (by show 1 ≤ sizeLine; decide), fun p5 n5 => ?_⟩
      have s5 := same_new (o := .tup [.int 0]) n5
      have h5 : Tx (upd H2 p5 (.tup [.int 0])) (.ref p5) (.tuple [.int 0]) := .tup upd_same (.cons (.int _) .nil)
      refine ⟨_, _, hw.grow s5, h5, (by show _ + 1 ≤ 100000; omega), fun v4 H8 s8 h8 => ?_⟩
      refine ⟨(by show 4 ≤ sizeLine; decide), fun z nz => ?_⟩
      have mF := m.ofSame (s5.trans s8)
      refine done z mF nz (.int _) (.str _) (.int _) (h8.hid mF.dice) flev fside fidx ((ft_ints (fun e he => ?_) (by rw [List.length_append]; show _ + 1 ≤ 20; omega)).mono (by decide) (by decide))
      rcases List.mem_append.mp he with he | he
      · exact fints e he
      · rw [List.mem_singleton.mp he]
        exact Ft.int (by decide) (by decide)
    rintro _ rfl
    refine go_nx ?_
    -- 5
    refine a_if (fun b H' => H2 = H') (fun Q' kQ => ⟨_, rfl, rfl, _, rfl, kQ _ _ rfl⟩) ?_ ?_
    · rintro _ rfl
      refine ⟨_, rfl, _, rfl, _, rfl, _, rfl, _, rfl, _, hw, fun v4 H8 s8 h8 => ?_⟩
      refine ⟨(by show 4 ≤ sizeLine; decide), fun z nz => ?_⟩
      have mF := m.ofSame s8
      have l1 := cut_len (p.path.map fun c => PyData.int (c : Nat)) (some 1) none
      exact done z mF nz (.int _) (.str _) (.int _) (h8.hid mF.dice) flev fside fidx ((ft_ints (fun e he => fints e (cut_mem he)) (by omega)).mono (by decide) (by decide))
    rintro _ rfl
    refine go_nx ?_
    have ln : ∀ (i : Int), (0 : Int) ≤ i → Ft 0 0 (.int 0) := fun _ _ => Ft.int (by decide) (by decide)
    have fpl : ∀ (lo hi : Option Int), Ft 5 5000 (.tuple (cutD [.int (p.lev : Nat), .str p.side, .int (p.idx : Nat), .tuple (p.path.map fun c => PyData.int (c : Nat))] lo hi)) := fun lo hi => by
      have hl := cut_len [.int (p.lev : Nat), .str p.side, .int (p.idx : Nat), .tuple (p.path.map fun c => PyData.int (c : Nat))] lo hi
      refine (Ft.tup (n := 2) (b := 20) fun e he => ?_).mono (by decide) (by
        have h4 : (cutD [.int (p.lev : Nat), .str p.side, .int (p.idx : Nat), .tuple (p.path.map fun c => PyData.int (c : Nat))] lo hi).length ≤ 4 := hl
        omega)
      have he := cut_mem he
      simp only [List.mem_cons, List.not_mem_nil, or_false] at he
      rcases he with rfl | rfl | rfl | rfl
      · exact flev
      · exact fside
      · exact fidx
      · exact fpath
    -- 6
    refine a_if (fun b H' => H2 = H') (fun Q' kQ => ⟨_, rfl, rfl, _, rfl, kQ _ _ rfl⟩) ?_ ?_
    · rintro _ rfl
      refine ⟨_, rfl, _, rfl, q, _, rfl, .inr (SqT.of hq), fun a1 n1 => ?_⟩
      have s1 := same_new (o := .lst [.int (p.lev : Nat), .str p.side, .int (p.idx : Nat), wv]) n1
      have l1 : Dx (hide d (upd H2 a1 (.lst [.int (p.lev : Nat), .str p.side, .int (p.idx : Nat), wv]))) (.ref a1) (.list [.int (p.lev : Nat), .str p.side, .int (p.idx : Nat), .tuple (p.path.map fun c => PyData.int (c : Nat))]) :=
        fresh_lst m.dice n1 (.cons (.int _) (.cons (.str _) (.cons (.int _) (.cons hwd .nil))))
      have m1 := m.new (o := .lst [.int (p.lev : Nat), .str p.side, .int (p.idx : Nat), wv]) n1
      generalize upd H2 a1 (.lst [.int (p.lev : Nat), .str p.side, .int (p.idx : Nat), wv]) = L1 at *
      refine ⟨_, rfl, _, rfl, _, hv.grow s1, fun v2 L2 s2 h2 => ?_⟩
      have m2 := m1.ofSame s2
      have l2 := l1.grow ((Mv.refl m1.dice).ofSame s2).same
      refine ⟨_, rfl, (by show 1 ≤ sizeLine; decide), fun a3 n3 => ?_⟩
      have s3 := same_new (o := .tup [.int 0]) n3
      refine ⟨_, _, ((hv.grow s1).grow s2).grow s3, .tup upd_same (.cons (.int 0) .nil), (by show 4 + 1 ≤ 100000; decide), fun v4 L4 s4 h4 => ?_⟩
      have m4 := m2.ofSame (s3.trans s4)
      have l4 := l2.grow ((Mv.refl m2.dice).ofSame (s3.trans s4)).same
      have w4 := (((hw.grow s1).grow s2).grow s3).grow s4
      obtain ⟨pa, ps, rfl, hpa, hps⟩ := w4.tupOf
      refine ⟨_, rfl, _, rfl, _, rfl, _, rfl, pa, ps, rfl, .inr (SqT.of hpa), fun a5 n5 => ?_⟩
      have s5 := same_new (o := .lst ps) n5
      have m5 := m4.new (o := .lst ps) n5
      have l5 : Dx (hide d (upd L4 a5 (.lst ps))) (.ref a5) (.list (p.path.map fun c => PyData.int (c : Nat))) := fresh_lst m4.dice n5 (hps.hid m4.dice)
      have g5 := ((Mv.refl m4.dice).new (o := .lst ps) n5).same
      refine ⟨(by show 4 ≤ sizeLine; decide), fun a6 n6 => ?_⟩
      have m6 := m5.new (o := .tup [.int (p.lev : Nat), .str p.side, .int (p.idx : Nat), .ref a5]) n6
      have l6 := fresh_tup m5.dice n6 (.cons (.int (p.lev : Nat)) (.cons (.str p.side) (.cons (.int (p.idx : Nat)) (.cons l5 .nil))))
      have g6 := ((Mv.refl m5.dice).new (o := .tup [.int (p.lev : Nat), .str p.side, .int (p.idx : Nat), .ref a5]) n6).same
      have s6 := same_new (o := .tup [.int (p.lev : Nat), .str p.side, .int (p.idx : Nat), .ref a5]) n6
      have v6 := (((((hv.grow s1).grow s2).grow s3).grow s4).grow s5).grow s6
      refine ⟨_, rfl, (by show 1 ≤ sizeLine; decide), fun a7 n7 => ?_⟩
      have m7 := m6.new (o := .tup [.ref q]) n7
      have g7 := ((Mv.refl m6.dice).new (o := .tup [.ref q]) n7).same
      have l7 := fresh_tup m6.dice n7 (.cons (v6.hid m6.dice) .nil)
      refine ⟨(by show 5 ≤ sizeLine; decide), fun z nz => ?_⟩
      have hx2 := ((((h2.grow s3).grow s4).grow s5).grow s6).hid m6.dice
      have hx4 := ((h4.grow s5).grow s6).hid m6.dice
      refine many z m7 nz (.cons (((l4.grow g5).grow g6).grow g7) (.cons (hx2.grow g7) (.cons (hx4.grow g7) (.cons (l6.grow g7) (.cons l7 .nil))))) (fun e he => ?_) (by show 0 < 5; decide) (by show 5 ≤ 1000; decide)
      simp only [List.mem_cons, List.not_mem_nil, or_false] at he
      rcases he with rfl | rfl | rfl | rfl | rfl
      · refine (Ft.lst (n := 2) (b := 20) fun e he => ?_).mono (by decide) (by show 4 * 21 ≤ 5000; decide)
        simp only [List.mem_cons, List.not_mem_nil, or_false] at he
        rcases he with rfl | rfl | rfl | rfl
        · exact flev
        · exact fside
        · exact fidx
        · exact fpath
      · exact fpl _ _
      · refine (Ft.tup (n := 2) (b := 20) fun e he => ?_).mono (by decide) (by show 5 * 21 ≤ 5000; decide)
        simp only [List.mem_append, List.mem_cons, List.not_mem_nil, or_false] at he
        rcases he with (rfl | rfl | rfl | rfl) | rfl
        · exact flev
        · exact fside
        · exact fidx
        · exact fpath
        · exact (Ft.int (by decide) (by decide)).mono (by decide) (by decide)
      · exact (Ft.four flev fside fidx ((Ft.lst fints).mono (by decide) (by rw [List.length_map]; omega))).mono (by decide) (by decide)
      · refine (Ft.tup (n := 2) (b := 30) fun e he => ?_).mono (by decide) (by show 1 * 31 ≤ 5000; decide)
        rw [List.mem_singleton.mp he]
        exact fp
    rintro _ rfl
    refine go_nx ?_
    -- 7
    refine a_if (fun b H' => H2 = H') (fun Q' kQ => ⟨_, rfl, rfl, _, rfl, kQ _ _ rfl⟩) ?_ ?_
    · rintro _ rfl
      refine ⟨_, rfl, _, rfl, (by show 1 ≤ sizeLine; decide), fun a1 n1 => ⟨(by show 5 ≤ sizeLine; decide), fun a2 n2 => ?_⟩⟩
      have m1 := m.new (o := .lst [.str "left"]) n1
      have m2 := m1.new (o := .lst [.str "Left", .str "", .non, .int 0, .ref a1]) n2
      have h2 : DxAll (hide d (upd (upd H2 a1 (.lst [.str "left"])) a2 (.lst [.str "Left", .str "", .non, .int 0, .ref a1]))) [.str "Left", .str "", .non, .int 0, .ref a1] [.str "Left", .str "", .none, .int 0, .list [.str "left"]] :=
        DxAll.grow (fresh_same m1.dice n2) (.cons (.str _) (.cons (.str _) (.cons .non (.cons (.int _) (.cons (fresh_lst m.dice n1 (.cons (.str _) .nil)) .nil)))))
      refine ⟨d, a2, _, rfl, m2.dice, SqL.of upd_same, m1.dice.ne n2, (by show 0 < 5; decide), (by show 5 ≤ 1000; decide), fun i x H3 e m4 _ => ?_⟩
      obtain ⟨dat, din, hdx⟩ := picked h2 m4 e
      have hw3 := ((hw.keep (Mv.tupK m.dice (Mv.new (Mv.refl m.dice) n1))).keep (Mv.tupK m1.dice (Mv.new (Mv.refl m1.dice) n2))).keep (Mv.tupK m2.dice m4)
      refine ⟨_, rfl, _, rfl, (by show 4 ≤ sizeLine; decide), fun z nz => ?_⟩
      have mF := m2.trans m4
      refine done z mF nz (.int _) hdx (.int _) (hw3.hid mF.dice) flev ?_ fidx fpath
      simp only [List.mem_cons, List.not_mem_nil, or_false] at din
      rcases din with rfl | rfl | rfl | rfl | rfl
      · exact (Ft.str (by decide +kernel)).mono (by decide) (by decide)
      · exact (Ft.str (by decide +kernel)).mono (by decide) (by decide)
      · exact Ft.non.mono (by decide) (by decide)
      · exact (Ft.int (by decide) (by decide)).mono (by decide) (by decide)
      · refine (Ft.lst (n := 0) (b := 8) fun e he => ?_).mono (by decide) (by decide)
        rw [List.mem_singleton.mp he]
        exact Ft.side (.inl rfl)
    rintro _ rfl
    refine go_nx ?_
    -- the others
    refine a_set (fun v H' => ∃ l xs ds, v = .ref l ∧ H' l = some (.lst xs) ∧ l ≠ d ∧ Same H2 H' ∧ DxAll (hide d H') xs ds ∧ (∀ e ∈ ds, Ft 5 5000 e) ∧ xs.length = 3) (fun Q' kQ => ?_) ?_
    · refine ⟨_, rfl, _, rfl, _, rfl, (by show 4 ≤ sizeLine; decide), fun p1 n1 => ?_⟩
      have s1 := same_new (o := .tup [.bl true, .str p.side, .int (p.idx : Nat), wv]) n1
      have l1 := fresh_tup dd n1 (.cons (.bl true) (.cons (.str p.side) (.cons (.int (p.idx : Nat)) (.cons hwd .nil))))
      have m1 := (Mv.refl dd).new (o := .tup [.bl true, .str p.side, .int (p.idx : Nat), wv]) n1
      refine ⟨_, rfl, _, rfl, _, rfl, (by show 4 ≤ sizeLine; decide), fun p2 n2 => ?_⟩
      have s2 := same_new (o := .tup [.int (p.lev : Nat), .str p.side, .non, wv]) n2
      have l2 := fresh_tup m1.dice n2 (.cons (.int (p.lev : Nat)) (.cons (.str p.side) (.cons .non (.cons (hwd.grow m1.same) .nil))))
      have m2 := (Mv.refl m1.dice).new (o := .tup [.int (p.lev : Nat), .str p.side, .non, wv]) n2
      refine ⟨_, rfl, _, rfl, _, rfl, (by show 4 ≤ sizeLine; decide), fun p3 n3 => ?_⟩
      have s3 := same_new (o := .tup [.int (p.lev : Nat), .str p.side, .int (p.idx : Nat), .non]) n3
      have l3 := fresh_tup m2.dice n3 (.cons (.int (p.lev : Nat)) (.cons (.str p.side) (.cons (.int (p.idx : Nat)) (.cons .non .nil))))
      have m3 := (Mv.refl m2.dice).new (o := .tup [.int (p.lev : Nat), .str p.side, .int (p.idx : Nat), .non]) n3
      refine ⟨(by show 3 ≤ sizeLine; decide), fun z nz => ?_⟩
      have m4 := (Mv.refl m3.dice).new (o := .lst [.ref p1, .ref p2, .ref p3]) nz
      refine kQ _ _ ⟨z, _, _, rfl, upd_same, m3.dice.ne nz, ((s1.trans s2).trans s3).trans (same_new nz), .cons (((l1.grow m2.same).grow m3.same).grow m4.same) (.cons ((l2.grow m3.same).grow m4.same) (.cons (l3.grow m4.same) .nil)), fun e he => ?_, rfl⟩
      have f0 : Ft 2 20 .none := Ft.non.mono (by decide) (by decide)
      have fb : Ft 2 20 (.bool true) := (Ft.bl true).mono (by decide) (by decide)
      simp only [List.mem_cons, List.not_mem_nil, or_false] at he
      rcases he with rfl | rfl | rfl
      · exact (Ft.four fb fside fidx fpath).mono (by decide) (by decide)
      · exact (Ft.four flev fside f0 fpath).mono (by decide) (by decide)
      · exact (Ft.four flev fside fidx f0).mono (by decide) (by decide)
    rintro _ H3 ⟨l, xs, ds, rfl, hl, nl, s3, hx, hf, lx⟩
    replace m := m.ofSame s3
    replace hw := hw.grow s3
    replace dd := m.dice
    replace hwd := hw.hid dd
    refine a_set (fun v H' => ∃ l xs ds, v = .ref l ∧ H' l = some (.lst xs) ∧ l ≠ d ∧ Mv d H H' ∧ DxAll (hide d H') xs ds ∧ (∀ e ∈ ds, Ft 5 5000 e) ∧ xs.length = 6) (fun Q' kQ => ?_) ?_
    · refine ⟨_, rfl, ?_⟩
      refine ⟨_, rfl, _, rfl, _, rfl, (by show 4 ≤ sizeLine; decide), fun p1 n1 => ?_⟩
      have s1 := same_new (o := .tup [.non, .str p.side, .int (p.idx : Nat), wv]) n1
      have l1 := fresh_tup dd n1 (.cons .non (.cons (.str p.side) (.cons (.int (p.idx : Nat)) (.cons hwd .nil))))
      have m1 := (Mv.refl dd).new (o := .tup [.non, .str p.side, .int (p.idx : Nat), wv]) n1
      refine ⟨_, rfl, _, rfl, _, rfl, (by show 4 ≤ sizeLine; decide), fun p2 n2 => ?_⟩
      have s2 := same_new (o := .tup [.int (p.lev : Nat), .str p.side, .bl true, wv]) n2
      have l2 := fresh_tup m1.dice n2 (.cons (.int (p.lev : Nat)) (.cons (.str p.side) (.cons (.bl true) (.cons (hwd.grow m1.same) .nil))))
      have m2 := (Mv.refl m1.dice).new (o := .tup [.int (p.lev : Nat), .str p.side, .bl true, wv]) n2
      refine ⟨_, rfl, _, rfl, _, rfl, (by show 1 ≤ sizeLine; decide), fun p3 n3 => ?_⟩
      have s3' := same_new (o := .tup [.str "0"]) n3
      have m3 := (Mv.refl m2.dice).new (o := .tup [.str "0"]) n3
      refine ⟨_, rfl, p.lev, [.str "0"], rfl, .tup upd_same (.cons (.str _) .nil), (fun z => nomatch z), (by omega), (by show 1 ≤ 1000; decide), fun v4 H4 s4 h4 => ?_⟩
      have m4 := (Mv.refl m3.dice).ofSame s4
      refine ⟨(by show 4 ≤ sizeLine; decide), fun p5 n5 => ?_⟩
      have s5 := same_new (o := .tup [.int (p.lev : Nat), .str p.side, .int (p.idx : Nat), v4]) n5
      have l5 := fresh_tup m4.dice n5 (.cons (.int (p.lev : Nat)) (.cons (.str p.side) (.cons (.int (p.idx : Nat)) (.cons (h4.hid m4.dice) .nil))))
      have m5 := (Mv.refl m4.dice).new (o := .tup [.int (p.lev : Nat), .str p.side, .int (p.idx : Nat), v4]) n5
      refine ⟨(by show 3 ≤ sizeLine; decide), fun z nz => ?_⟩
      have m6 := (Mv.refl m5.dice).new (o := .lst [.ref p1, .ref p2, .ref p5]) nz
      have sAll := ((((s1.trans s2).trans s3').trans s4).trans s5).trans (same_new (o := .lst [.ref p1, .ref p2, .ref p5]) nz)
      have hAll := ((Mv.refl dd).ofSame sAll).same
      refine ⟨l, z, xs, _, rfl, rfl, sAll _ _ hl, upd_same, (by rw [lx]; show 3 + 3 ≤ sizeLine; decide), fun y ny => ?_⟩
      have m7 := (Mv.refl m6.dice).new (o := .lst (xs ++ [.ref p1, .ref p2, .ref p5])) ny
      refine kQ _ _ ⟨y, _, ds ++ _, rfl, upd_same, m6.dice.ne ny, (m.ofSame sAll).trans m7, DxAll.grow m7.same ((DxAll.grow hAll hx).append (.cons (((((l1.grow m2.same).grow m3.same).grow m4.same).grow m5.same).grow m6.same) (.cons ((((l2.grow m3.same).grow m4.same).grow m5.same).grow m6.same) (.cons (l5.grow m6.same) .nil)))), fun e he => ?_, by rw [List.length_append, lx]; rfl⟩
      have f0 : Ft 2 20 .none := Ft.non.mono (by decide) (by decide)
      have fb : Ft 2 20 (.bool true) := (Ft.bl true).mono (by decide) (by decide)
      have fr : Ft 2 20 (.tuple (List.replicate p.lev [PyData.str "0"]).flatten) := by
        have e1 : (List.replicate p.lev [PyData.str "0"]).flatten = List.replicate p.lev (PyData.str "0") := List.flatten_replicate_singleton
        rw [e1]
        refine (Ft.tup (n := 0) (b := 1) fun e he => ?_).mono (by decide) (by rw [List.length_replicate]; omega)
        rw [List.eq_of_mem_replicate he]
        exact ⟨by decide +kernel, by decide +kernel, by simp [PyData.depth], by decide +kernel⟩
      rcases List.mem_append.mp he with he | he
      · exact hf e he
      · simp only [List.mem_cons, List.not_mem_nil, or_false] at he
        rcases he with rfl | rfl | rfl
        · exact (Ft.four f0 fside fidx fpath).mono (by decide) (by decide)
        · exact (Ft.four flev fside fb fpath).mono (by decide) (by decide)
        · exact (Ft.four flev fside fidx fr).mono (by decide) (by decide)
    rintro _ H4 ⟨z, ys, es, rfl, hz, nz, m4, hy, hf4, ly⟩
    refine ⟨_, rfl, _, rfl, d, z, ys, rfl, m4.dice, SqL.of hz, nz, (by omega), (by omega), fun i x H5 e m5 _ => ?_⟩
    obtain ⟨dat, din, hdx⟩ := picked hy m5 e
    exact k _ _ _ (m4.trans m5) hdx (hf4 dat din)
end
end G

set_option Elab.async false
set_option linter.all false
set_option maxRecDepth 100000
set_option maxHeartbeats 4000000
namespace G
open PySem PySem.Spec PyProof.Rows L2
/-! ## the law's `_law_right` -/
theorem ne_self (x : Str) : (!decide (V.str x = V.str x)) = false := by simp
theorem or_no {tA tB : TT} {σ : L2.St} {H : Hp} {Q : Bool → Hp → Prop} (R : Hp → Prop) (h1 : ∀ Q2 : Bool → Hp → Prop, (∀ H', R H' → Q2 false H') → tA σ H Q2) (h2 : ∀ H', R H' → tB σ H' Q) : tOr tA tB σ H Q := h1 _ fun H' r => h2 H' r
def tabs1 (PR : Addr) : List (Addr × Str) := [(PR, (envOfC "_law_right" (defScope s__law_right) 0 0 .none).qual ++ "<lambda>")]
theorem TupK.ext {H H' : Hp} (e : LamX.ExtN H H') : TupK H H' := fun p zs h => e p _ h fun _ z => by cases z
theorem MvT.tupK {T : List (Addr × Str)} {d : Addr} {H H' : Hp} (hd : DiceAt H d) (m : MvT T d H H') : TupK H H' := fun p zs h => by
  have np := hd.neT h
  have q := m.ext p _ (by rw [hide_ne np]; exact h) fun _ z => by cases z
  rw [hide_ne np] at q
  exact q
theorem MvT.lstK {T : List (Addr × Str)} {d : Addr} {H H' : Hp} (m : MvT T d H H') {l : Addr} {xs : List V} (np : l ≠ d) (h : H l = some (.lst xs)) : H' l = some (.lst xs) := by
  have q := m.ext l _ (by rw [hide_ne np]; exact h) fun _ z => by cases z
  rw [hide_ne np] at q
  exact q
theorem ListAt.mvT {T : List (Addr × Str)} {d : Addr} {H H' : Hp} {l : Addr} {ds : List PyData} (h : ListAt H l ds) (hd : DiceAt H d) (m : MvT T d H H') (np : l ≠ d) : ListAt H' l ds := by
  obtain ⟨xs, h1, h2⟩ := h
  exact ⟨xs, m.lstK np h1, h2.keep (m.tupK hd)⟩
theorem ListAt.ne {H : Hp} {d l : Addr} {ds : List PyData} (h : H l = none) (hd : DiceAt H d) : l ≠ d := hd.ne h
theorem RowAt.keepK {H H' : Hp} {v : V} {fs : List (Int × Int)} (h : RowAt H v fs) (s : TupK H H') : RowAt H' v fs := by
  obtain ⟨a, xs, e, h1, h2⟩ := h
  exact ⟨a, xs, e, s _ _ h1, h2.keep s⟩
theorem RowAt.of {d : Addr} {H : Hp} {v : V} {fs : List (Int × Int)} (h : Dx (hide d H) v (rowD fs)) : RowAt H v fs := h.seen.rowOf
def natF (f : Int × Int) : Nat × Nat := (f.1.toNat, f.2.toNat)
theorem side_le {n : Int} (hn : n ≤ 7) {fs : List (Int × Int)} (h : ∀ f ∈ fs, Side n f) : ∀ f ∈ fs, Side 7 f := fun f hf => by
  obtain ⟨a, b, c, d⟩ := h f hf
  exact ⟨a, by omega, c, by omega⟩
theorem row_nat {fs : List (Int × Int)} (h : ∀ f ∈ fs, Side 7 f) : rowN (fs.map natF) = fs := by
  unfold rowN
  rw [List.map_map]
  refine (List.map_congr_left fun f hf => ?_).trans (List.map_id _)
  obtain ⟨a, _, c, _⟩ := h f hf
  show ((f.1.toNat : Int), (f.2.toNat : Int)) = f
  rw [Int.toNat_of_nonneg a, Int.toNat_of_nonneg c]
theorem small_nat {fs : List (Int × Int)} (h : ∀ f ∈ fs, Side 7 f) (hl : fs.length ≤ 5) : Small (fs.map natF) := by
  refine ⟨by rw [List.length_map]; exact hl, fun g hg => ?_⟩
  obtain ⟨f, hf, rfl⟩ := List.mem_map.mp hg
  obtain ⟨a, b, c, d⟩ := h f hf
  show f.1.toNat ≤ 7 ∧ f.2.toNat ≤ 7
  omega
theorem tame_in {k : Nat} (hk : k = 2 ∨ k = 3) {gs : List (Nat × Nat)} (hsm : Small gs) {p : Plc} (h : p ∈ places k gs) : Tame p := by
  obtain ⟨n, hn⟩ := List.mem_iff_getElem?.mp h
  exact tame_of hk hsm hn
theorem listed_dec {k : Nat} (hk : k = 2 ∨ k = 3) {gs : List (Nat × Nat)} (hsm : Small gs) {d : PyData} (hd : plainD d = true) : decide (d.shown ∈ placeTexts (places k gs)) = placeB k gs d := by
  have h := listed_iff hk hsm hd
  cases e : placeB k gs d with
  | true => exact decide_eq_true (h.mpr e)
  | false =>
    refine decide_eq_false fun z => ?_
    have q := h.mp z
    rw [e] at q
    cases q
theorem shw_bool (b : Bool) : Shw (.bool b) := shw rfl (by simp [PyData.depth]) (Nat.zero_le _)
theorem cutV_mem {xs : List V} {lo hi : Option Int} {y : V} (h : y ∈ cutV xs lo hi) : y ∈ xs := by
  unfold cutV at h
  exact List.mem_of_mem_drop (List.mem_of_mem_take h)
def ODD : List PyData := [.none, .int 0, .tuple [], .str "0 left 0", .list [], .dict [], .bool true, .tuple [.str "left", .int 0, .int 0, .tuple []], .tuple [.tuple [.int 0, .str "left", .int 0, .tuple []]]]
theorem odd_bad (k : Nat) (gs : List (Nat × Nat)) : ∀ d ∈ ODD, placeB k gs d = false ∧ ∀ a s i p, d = .tuple [a, s, i, p] → s.hasDict = false ∧ SeqAt.shaped s = true := by
  intro d hd
  simp only [ODD, List.mem_cons, List.not_mem_nil, or_false] at hd
  rcases hd with rfl | rfl | rfl | rfl | rfl | rfl | rfl | rfl | rfl
  · exact ⟨rfl, fun _ _ _ _ e => nomatch e⟩
  · exact ⟨rfl, fun _ _ _ _ e => nomatch e⟩
  · exact ⟨rfl, fun _ _ _ _ e => nomatch e⟩
  · exact ⟨rfl, fun _ _ _ _ e => nomatch e⟩
  · exact ⟨rfl, fun _ _ _ _ e => nomatch e⟩
  · exact ⟨rfl, fun _ _ _ _ e => nomatch e⟩
  · exact ⟨rfl, fun _ _ _ _ e => nomatch e⟩
  · refine ⟨rfl, fun a s i p e => ?_⟩
    injection e with e
    injection e with _ e
    injection e with e _
    subst e
    exact ⟨by simp [PyData.hasDict], by decide +kernel⟩
  · exact ⟨rfl, fun _ _ _ _ e => nomatch e⟩
def spRight (T : List (Addr × Str)) : Sp := fun vs H Q _ => ∃ (d : Addr) (c : Nat), vs = [.ref d, .int (c : Int)] ∧ DiceAt H d ∧ (c = 2 ∨ c = 3) ∧ LamX.Tabs T H ∧ ∀ H', MvT T d H H' → Q (.bl true) H'
section
variable {P : Program} {w : World} {K : PySem.W.Frag} {mg : Str → Option Value} {base : Heap}
theorem c_right {CP cR PR : Addr} (T : Txt K mg) (M : RefTxt K mg CP) (TB : LamX.TabB base mg cR PR)
    (C__law_some_row : CalG P w K mg base 3 "_law_some_row" ["_law_dice_here", "_law_levels", "_law_high"] spSomeRow) (C__law_all_places : CalG P w K mg base 4 "_law_all_places" ["_law_arity", "_law_row"] spAll)
    (C__law_mixed : CalG P w K mg base 2 "_law_mixed" ["_law_dice_here", "_law_items"] spMixed) (C__law_bent : CalG P w K mg base 3 "_law_bent" ["_law_dice_here", "_law_place"] spBent)
    (C__law_is_listed : CalG P w K mg base 1 "_law_is_listed" ["_law_places", "_law_value"] spListed) (C__law_pick : CalG P w K mg base 2 "_law_pick" ["_law_dice_here", "_law_items"] (spPick K))
    (C_is_place : CalG P w K mg base 8 "is_place" ["arity", "row", "value"] spIsPlace)
    (C_number_of : CalXQ false P w K mg base 9 "number_of" ["arity", "row", "place"] (spBadPlace CP)) (C_beside : CalXQ false P w K mg base 10 "beside" ["arity", "row", "place"] (spBadPlace CP))
    (D_law_is_refused : DefAt K mg "_law_is_refused" s__law_is_refused ["_law_call"]) (D : DefAtC K mg "_law_right" s__law_right ["_law_dice_here", "_law_arity"] cR) :
    CalG P w K mg base 14 "_law_right" ["_law_dice_here", "_law_arity"] (spRight (tabs1 PR)) := by
  have O : True := trivial
  refine calOkC D sc__law_right (fun xs H Q E h => ?_) (fun f A out s H xs Q E hgd hr h => ?_)
  · obtain ⟨d, c, rfl, _⟩ := h
    rfl
  · obtain ⟨d, c, rfl, hd, hc, ht, k⟩ := h
    have nd := sc__law_right.nd
    have hmT : (PR, (envOfC "_law_right" (defScope s__law_right) 0 0 .none).qual ++ "<lambda>") ∈ tabs1 PR := List.mem_cons_self
    have huT : ∀ p ∈ tabs1 PR, p.1 = PR → p.2 = (envOfC "_law_right" (defScope s__law_right) 0 0 .none).qual ++ "<lambda>" := fun p hp e => by
      rw [List.mem_singleton.mp hp]
    refine ⟨_, (pss_cons (ps_set (i := 8) nd rfl (.inr rfl) (pe_k C__law_some_row hgd hr (by decide) rfl (pa_cons (pv 0) (pa_cons pe_int (pa_cons pe_int pa_nil)))))
      (pss_cons (ps_par (i := 2) (j := 3) (by rfl) nd rfl rfl (by decide) rfl rfl (pa_cons (pe_k C__law_all_places hgd hr (by decide) rfl (pa_cons (pv 1) (pa_cons (pv 8) pa_nil))) (pa_cons (pe_k C__law_all_places hgd hr (by decide) rfl (pa_cons (pe_op op_sub pe_int (pv 1)) (pa_cons (pv 8) pa_nil))) pa_nil)) (by rfl))
      (pss_cons (ps_for PassesOwn.never rfl (pi_list (pe_slice sl_list (pe_k C__law_mixed hgd hr (by decide) rfl (pa_cons (pv 0) (pa_cons (pv 2) pa_nil))) po_none (po_some pe_int))) (pg_name (i := 4) nd rfl (.inl rfl)) (pss_cons (ps_set (i := 6) nd rfl (.inr rfl) (pe_k C__law_bent hgd hr (by decide) rfl (pa_cons (pv 0) (pa_cons (pv 4) pa_nil))))
        (pss_cons (ps_set (i := 5) nd rfl (.inl rfl) (pe_k C__law_is_listed hgd hr (by decide) rfl (pa_cons (pv 2) (pa_cons (pv 6) pa_nil))))
        (pss_cons (ps_if (PW.pt (pw_or (pt_cmpR op_notBl (pe_k C_is_place hgd hr (by decide) rfl (pa_cons (pv 1) (pa_cons (pv 8) (pa_cons (pv 4) pa_nil)))) pe_bl (nomark _)) (pw_or1 (pt_cmpR op_ne (pe_callB (call_reprX hgd hr.units) (by rfl) T.repr (by decide +kernel) (pa_cons (pe_k C_is_place hgd hr (by decide) rfl (pa_cons (pv 1) (pa_cons (pv 8) (pa_cons (pv 6) pa_nil)))) pa_nil)) (pe_callB (call_reprX hgd hr.units) (by rfl) T.repr (by decide +kernel) (pa_cons (pv 5) pa_nil)) (nomark _))))) (pss_one (ps_ret pe_bl)) pss_nil)
        (pss_cons (ps_if (PW.pt (pw_and (pt_not (pt_val (pv 5))) (pw_and1 (pt_not (pt_val (pe_is_refused T M O D_law_is_refused hgd rfl TB rfl hmT huT hr (LamX.lamS_by (sc := defScope s__law_right) (by decide +kernel)) rfl (fun _ _ _ _ _ => rfl) (fun A outer s H E f c' hr2 => pe_kxq (gq := false) C_number_of (takes_of rfl rfl rfl rfl) (fun z => Bool.noConfusion z) hr2 (by decide) rfl (pa_cons (pv 1) (pa_cons (pv 8) (pa_cons (pv 6) pa_nil)))))))))) (pss_one (ps_ret pe_bl)) pss_nil)
        (pss_one (ps_if (PW.pt (pw_and (pt_not (pt_val (pv 5))) (pw_and1 (pt_not (pt_val (pe_is_refused T M O D_law_is_refused hgd rfl TB rfl hmT huT hr (LamX.lamS_by (sc := defScope s__law_right) (by decide +kernel)) rfl (fun _ _ _ _ _ => rfl) (fun A outer s H E f c' hr2 => pe_kxq (gq := false) C_beside (takes_of rfl rfl rfl rfl) (fun z => Bool.noConfusion z) hr2 (by decide) rfl (pa_cons (pv 1) (pa_cons (pv 8) (pa_cons (pv 6) pa_nil)))))))))) (pss_one (ps_ret pe_bl)) pss_nil)))))))
      (pss_cons (ps_for PassesOwn.never rfl (pi_list (pe_slice sl_list (pe_k C__law_mixed hgd hr (by decide) rfl (pa_cons (pv 0) (pa_cons (pv 3) pa_nil))) po_none (po_some pe_int))) (pg_name (i := 4) nd rfl (.inl rfl)) (pss_one (ps_if (pt_cmpR op_ne (pe_callB (call_reprX hgd hr.units) (by rfl) T.repr (by decide +kernel) (pa_cons (pe_k C_is_place hgd hr (by decide) rfl (pa_cons (pv 1) (pa_cons (pv 8) (pa_cons (pv 4) pa_nil)))) pa_nil)) (pe_callB (call_reprX hgd hr.units) (by rfl) T.repr (by decide +kernel) (pa_cons (pe_k C__law_is_listed hgd hr (by decide) rfl (pa_cons (pv 2) (pa_cons (pv 4) pa_nil))) pa_nil)) (nomark _)) (pss_one (ps_ret pe_bl)) pss_nil)))
      (pss_cons (ps_set (i := 7) nd rfl (.inr rfl) (pe_k C__law_pick hgd hr (by decide) rfl (pa_cons (pv 0) (pa_cons (pe_lst (pa_cons pe_non (pa_cons pe_int (pa_cons (pe_tup pa_nil) (pa_cons pe_str (pa_cons (pe_lst pa_nil) (pa_cons pe_dnewK (pa_cons pe_bl (pa_cons (pe_tup (pa_cons pe_str (pa_cons pe_int (pa_cons pe_int (pa_cons (pe_tup pa_nil) pa_nil))))) (pa_cons (pe_tup (pa_cons (pe_tup (pa_cons pe_int (pa_cons pe_str (pa_cons pe_int (pa_cons (pe_tup pa_nil) pa_nil))))) pa_nil)) pa_nil)))))))))) pa_nil))))
      (pss_one (ps_ret (pe_and (pe_cmpR op_isBl (pe_k C_is_place hgd hr (by decide) rfl (pa_cons (pv 1) (pa_cons (pv 8) (pa_cons (pv 7) pa_nil)))) pe_bl (nomark _)) (pe_one (pe_is_refused T M O D_law_is_refused hgd rfl TB rfl hmT huT hr (LamX.lamS_by (sc := defScope s__law_right) (by decide +kernel)) rfl (fun _ _ _ _ _ => rfl) (fun A outer s H E f c' hr2 => pe_kxq (gq := false) C_number_of (takes_of rfl rfl rfl rfl) (fun z => Bool.noConfusion z) hr2 (by decide) rfl (pa_cons (pv 1) (pa_cons (pv 8) (pa_cons (pv 7) pa_nil)))))))))))))), ?_⟩
    have m := MvT.refl hd ht
    -- row
    refine a_set (fun v H' => ∃ gs, RowAt H' v (rowN gs) ∧ Small gs ∧ rowB (rowD (rowN gs)) = true ∧ MvT (tabs1 PR) d H H') (fun Q' kQ => ?_) ?_
    · refine ⟨_, rfl, d, 4, 2, rfl, hd, by decide, by decide, by decide, by decide, fun p fs H' hs hl hcut m3 hp => ?_⟩
      have hs := side_le (by decide) hs
      refine kQ _ _ ⟨fs.map natF, ?_, small_nat hs (by omega), ?_, m.mv m3⟩
      · rw [row_nat hs]
        exact .of hp
      · rw [row_nat hs]
        exact rowB_D hs (by omega) hcut
    rintro x H1 ⟨gs, hx, hsm, hb, m⟩
    have hc5 : (5 - c = 2 ∨ 5 - c = 3) := by omega
    -- places, other
    refine a_par (fun u v H' => ∃ lp lo, u = .ref lp ∧ v = .ref lo ∧ ListAt H' lp ((places c gs).map plcD) ∧ ListAt H' lo ((places (5 - c) gs).map plcD) ∧ lp ≠ d ∧ lo ≠ d ∧ Same H1 H') (fun Q' kQ => ?_) ?_
    · refine ⟨_, rfl, _, rfl, c, x, gs, rfl, hc, hx, hsm, fun lp H2 n2 s2 h2 => ?_⟩
      refine ⟨_, rfl, _, _, rfl, rfl, _, rfl, 5 - c, x, gs, (by show [V.int (5 - (c : Int)), x] = [V.int ((5 - c : Nat) : Int), x]; rw [show (5 : Int) - (c : Int) = ((5 - c : Nat) : Int) by omega]), hc5, hx.grow s2, hsm, fun lo H3 n3 s3 h3 => ?_⟩
      have m2 := m.same s2
      obtain ⟨xs, q1, q2⟩ := h2
      exact kQ _ _ _ ⟨lp, lo, rfl, rfl, ⟨xs, s3 _ _ q1, q2.grow s3⟩, h3, m.dice.ne n2, m2.dice.ne n3, s2.trans s3⟩
    rintro _ _ H2 ⟨lp, lo, rfl, rfl, hlp, hlo, nlp, nlo, s2⟩
    replace m := m.same s2
    replace hx := hx.grow s2
    have fewc := places_few hc hsm
    have few5 := places_few hc5 hsm
    have dd := m.dice
    -- the first loop
    refine ⟨_, rfl, _, rfl, d, lp, _, rfl, dd, nlp, hlp, (by rw [List.length_map]; omega), fun lm es H3 m3 nm hlm le hin => ?_⟩
    obtain ⟨zs, hz, hZ⟩ := hlm
    refine ⟨_, rfl, lm, zs, rfl, SqL.of hz, fun la na => ?_⟩
    have n3 := (MvT.refl dd m.tabs).mv m3
    have n4 := n3.new (o := .lst (cutV zs none (some 6))) na
    have nla := n3.dice.ne na
    have hx4 := hx.keepK (n4.tupK dd)
    have hlp4 := hlp.mvT dd n4 nlp
    have hlo4 := hlo.mvT dd n4 nlo
    have elem : ∀ i y, (cutV zs none (some 6))[i]? = some y → ∃ p ∈ places c gs, Tx (upd H3 la (.lst (cutV zs none (some 6)))) y (plcD p) := fun i y hi => by
      obtain ⟨j, hj⟩ := List.mem_iff_getElem?.mp (cutV_mem (List.mem_of_getElem? hi))
      obtain ⟨e, he, ty⟩ := hZ.get j y hj
      obtain ⟨p, hp, rfl⟩ := List.mem_map.mp (hin e (List.mem_of_getElem? he))
      exact ⟨p, hp, ty.grow (same_new na)⟩
    have hla : upd H3 la (.lst (cutV zs none (some 6))) la = some (.lst (cutV zs none (some 6))) := upd_same
    replace m := m.trans n4
    have d4 := n4.dice
    generalize upd H3 la (.lst (cutV zs none (some 6))) = H4 at *
    generalize cutV zs none (some 6) = ys at *
    clear hlp hlo hx n4 n3 hz hZ hin le nm m3
    refine ⟨la, rfl, ⟨_, SqL.of hla⟩, ?_⟩
    refine for_list (K := K) (a := la) (xs := ys) (fun i σ H' => ∃ v4 v5 v6 v7, σ = [some (.ref d), some (.int (c : Nat)), some (.ref lp), some (.ref lo), v4, v5, v6, v7, some x] ∧ MvT (tabs1 PR) d H4 H') ?_ ?_ ?_ ?_
    · exact ⟨_, _, _, _, rfl, MvT.refl d4 m.tabs⟩
    · rintro i σ H' _ ⟨_, _, _, _, _, n⟩
      exact SqL.of (n.lstK nla hla)
    · rintro i y σ H5 hi ⟨v4, v5, v6, v7, rfl, n⟩
      obtain ⟨p, hp, ty⟩ := elem i y hi
      have tp := tame_in hc hsm hp
      have ty5 := ty.keep (n.tupK d4)
      -- bent
      refine a_set (fun v H' => ∃ dat, Dx (hide d H') v dat ∧ Ft 5 5000 dat ∧ MvT (tabs1 PR) d H4 H') (fun Q' kQ => ?_) ?_
      · exact ⟨_, rfl, _, rfl, d, y, p, rfl, n.dice, ty5, tp, fun v' dat H6 m6 hdx ft => kQ _ _ ⟨dat, hdx, ft, n.mv m6⟩⟩
      rintro vb H6 ⟨dat, hdx, ft, n6⟩
      have hd6 := hdx.seen
      have hs6 := ft.sides (by decide)
      have hw6 := ft.shw (by decide) (by decide)
      have hlp6 := hlp4.mvT d4 n6 nlp
      -- due
      refine a_set (fun v H' => v = .bl (placeB c gs dat) ∧ Same H6 H') (fun Q' kQ => ?_) ?_
      · refine ⟨_, rfl, _, rfl, lp, vb, dat, places c gs, rfl, hlp6, (by omega), (fun p hp => tame_in hc hsm hp), hd6, hw6, fun H7 s7 => kQ _ _ ⟨?_, s7⟩⟩
        rw [listed_dec hc hsm ft.plain]
      rintro _ H7 ⟨rfl, s7⟩
      replace n6 := n6.same s7
      replace hd6 := hd6.grow s7
      have hx7 := hx4.keepK (n6.tupK d4)
      have ty7 := ty.keep (n6.tupK d4)
      -- is_place
      refine a_if (fun b H' => b = false ∧ Same H7 H') (fun Q' kQ => ?_) (fun H' h => nomatch h.1) ?_
      · refine or_no (fun H' => Same H7 H') (fun Q2 k2 => ?_) (fun L1 s1 => ?_)
        · refine ⟨_, rfl, _, rfl, _, rfl, c, x, y, gs, plcD p, rfl, hc, hx7, hsm, hb, ty7.dx, tp.ft.sides (by decide), fun L s => ⟨_, _, rfl, rfl, _, congrArg V.bl ?_, k2 _ s⟩⟩
          rw [listed_place hc hsm hp]
          rfl
        · refine ⟨_, rfl, _, rfl, _, rfl, c, x, vb, gs, dat, rfl, hc, hx7.grow s1, hsm, hb, hd6.grow s1, hs6, fun L s => ?_⟩
          refine ⟨_, _, rfl, .bl _, .inl (shw_bool _), _, rfl, _, _, rfl, .bl _, .inl (shw_bool _), rfl, _, congrArg V.bl (ne_self _), kQ _ _ ⟨rfl, s1.trans s⟩⟩
      rintro H8 ⟨_, s8⟩
      replace n6 := n6.same s8
      replace hd6 := hd6.grow s8
      replace hx7 := hx7.grow s8
      refine go_nx ?_
      refine a_if (fun b H' => b = false ∧ MvT (tabs1 PR) d H8 H' ∧ Dx H' vb dat) (fun Q' kQ => ?_) (fun H' h => nomatch h.1) ?_
      · refine ⟨_, rfl, placeB c gs dat, rfl, ?_⟩
        have n := MvT.refl n6.dice n6.tabs
        cases e : placeB c gs dat with
        | true => exact iteF (kQ _ _ ⟨rfl, n, hd6⟩)
        | false =>
          refine iteT ⟨n6.tabs, fun L1 e1 t1 => ?_⟩
          refine ⟨_, rfl, _, rfl, _, rfl, ?_⟩
          dsimp only [tNil]
          exact ⟨c, x, vb, gs, dat, rfl, hc, hx7.keepK (TupK.ext e1), hsm, hb, Dx.ext e1 hd6, hs6, e, fun H' s => ⟨rfl, _, rfl, kQ _ _ ⟨rfl, (n.lam e1 t1).same s, (Dx.ext e1 hd6).grow s⟩⟩⟩
      rintro H9 ⟨_, n9, hd9⟩
      have hx9 := hx7.keepK (n9.tupK n6.dice)
      replace n6 := n6.trans n9
      refine go_nx ?_
      refine a_if1 (fun b H' => b = false ∧ MvT (tabs1 PR) d H9 H') (fun Q' kQ => ?_) (fun H' h => nomatch h.1) ?_
      · refine ⟨_, rfl, placeB c gs dat, rfl, ?_⟩
        have n := MvT.refl n6.dice n6.tabs
        cases e : placeB c gs dat with
        | true => exact iteF (kQ _ _ ⟨rfl, n⟩)
        | false =>
          refine iteT ⟨n6.tabs, fun L1 e1 t1 => ?_⟩
          refine ⟨_, rfl, _, rfl, _, rfl, ?_⟩
          dsimp only [tNil]
          exact ⟨c, x, vb, gs, dat, rfl, hc, hx9.keepK (TupK.ext e1), hsm, hb, Dx.ext e1 hd9, hs6, e, fun H' s => ⟨rfl, _, rfl, kQ _ _ ⟨rfl, (n.lam e1 t1).same s⟩⟩⟩
      · rintro HA ⟨_, nA⟩
        exact ⟨_, _, _, _, rfl, n6.trans nA⟩
    · rintro σ H5 ⟨v4, v5, v6, v7, rfl, n⟩
      refine go_nx ?_
      replace m := m.trans n
      have hx5 := hx4.keepK (n.tupK d4)
      have hlp5 := hlp4.mvT d4 n nlp
      have hlo5 := hlo4.mvT d4 n nlo
      have d5 := n.dice
      clear hla elem hlp4 hlo4 hx4 nla n d4
      -- the second loop
      refine ⟨_, rfl, _, rfl, d, lo, _, rfl, d5, nlo, hlo5, (by rw [List.length_map]; omega), fun lm es H3 m3 nm hlm le hin => ?_⟩
      obtain ⟨zs, hz, hZ⟩ := hlm
      refine ⟨_, rfl, lm, zs, rfl, SqL.of hz, fun la na => ?_⟩
      have n3 := (MvT.refl d5 m.tabs).mv m3
      have n4 := n3.new (o := .lst (cutV zs none (some 6))) na
      have nla := n3.dice.ne na
      have hx4 := hx5.keepK (n4.tupK d5)
      have hlp4 := hlp5.mvT d5 n4 nlp
      have elem : ∀ i y, (cutV zs none (some 6))[i]? = some y → ∃ p ∈ places (5 - c) gs, Tx (upd H3 la (.lst (cutV zs none (some 6)))) y (plcD p) := fun i y hi => by
        obtain ⟨j, hj⟩ := List.mem_iff_getElem?.mp (cutV_mem (List.mem_of_getElem? hi))
        obtain ⟨e, he, ty⟩ := hZ.get j y hj
        obtain ⟨p, hp, rfl⟩ := List.mem_map.mp (hin e (List.mem_of_getElem? he))
        exact ⟨p, hp, ty.grow (same_new na)⟩
      have hla : upd H3 la (.lst (cutV zs none (some 6))) la = some (.lst (cutV zs none (some 6))) := upd_same
      replace m := m.trans n4
      have d4 := n4.dice
      generalize upd H3 la (.lst (cutV zs none (some 6))) = H4 at *
      generalize cutV zs none (some 6) = ws at *
      clear hlp5 hlo5 hx5 n4 n3 hz hZ hin le nm m3
      refine ⟨la, rfl, ⟨_, SqL.of hla⟩, ?_⟩
      refine for_list (K := K) (a := la) (xs := ws) (fun i σ H' => ∃ v4, σ = [some (.ref d), some (.int (c : Nat)), some (.ref lp), some (.ref lo), v4, v5, v6, v7, some x] ∧ Same H4 H') ?_ ?_ ?_ ?_
      · exact ⟨_, rfl, Same.refl _⟩
      · rintro i σ H' _ ⟨_, _, s⟩
        exact SqL.of (s _ _ hla)
      · rintro i y σ H5 hi ⟨v4, rfl, s5⟩
        obtain ⟨p, hp, ty⟩ := elem i y hi
        have tp := tame_in hc5 hsm hp
        have ty5 := ty.grow s5
        refine a_if1 (fun b H' => b = false ∧ Same H5 H') (fun Q' kQ => ?_) (fun H' h => nomatch h.1) (fun H6 h6 => ⟨_, rfl, s5.trans h6.2⟩)
        refine ⟨_, rfl, _, rfl, _, rfl, c, x, y, gs, plcD p, rfl, hc, hx4.grow s5, hsm, hb, ty5.dx, tp.ft.sides (by decide), fun L s => ?_⟩
        refine ⟨_, _, rfl, .bl _, .inl (shw_bool _), _, rfl, _, rfl, lp, y, plcD p, places c gs, rfl, ?_, (by omega), (fun p hp => tame_in hc hsm hp), (ty5.grow s).dx, tp.shw, fun L2 s2 => ?_⟩
        · obtain ⟨xs, q1, q2⟩ := hlp4
          exact ⟨xs, s _ _ (s5 _ _ q1), (q2.grow s5).grow s⟩
        rw [listed_dec hc hsm tp.ft.plain]
        exact ⟨_, _, rfl, .bl _, .inl (shw_bool _), rfl, _, congrArg V.bl (ne_self _), kQ _ _ ⟨rfl, s.trans s2⟩⟩
      · rintro σ H5 ⟨v4, rfl, s5⟩
        refine go_nx ?_
        replace m := m.same s5
        have hx5 := hx4.grow s5
        have n := MvT.refl m.dice m.tabs
        have d5 := m.dice
        refine a_set (fun v H' => ∃ dat, dat ∈ ODD ∧ Dx (hide d H') v dat ∧ MvT (tabs1 PR) d H5 H') (fun Q' kQ => ?_) ?_
        · refine ⟨_, rfl, (by show 0 ≤ sizeLine; decide), fun p1 n1 => ?_⟩
          obtain ⟨n, x1, _⟩ := newT n n1 .nil
          refine ⟨(by show 0 ≤ sizeLine; decide), fun p2 n2 => ?_⟩
          obtain ⟨n, x2, gr⟩ := newL n n2 .nil
          replace x1 := gr x1
          refine fun p3 n3 => ?_
          obtain ⟨n, x3, gr⟩ := newD n n3
          replace x1 := gr x1
          replace x2 := gr x2
          refine ⟨(by show 0 ≤ sizeLine; decide), fun p4 n4 => ?_⟩
          obtain ⟨n, x4, gr⟩ := newT n n4 .nil
          replace x1 := gr x1
          replace x2 := gr x2
          replace x3 := gr x3
          refine ⟨(by show 4 ≤ sizeLine; decide), fun p5 n5 => ?_⟩
          obtain ⟨n, x5, gr⟩ := newT n n5 (.cons (.str "left") (.cons (.int 0) (.cons (.int 0) (.cons x4 .nil))))
          replace x1 := gr x1
          replace x2 := gr x2
          replace x3 := gr x3
          refine ⟨(by show 0 ≤ sizeLine; decide), fun p6 n6 => ?_⟩
          obtain ⟨n, x6, gr⟩ := newT n n6 .nil
          replace x1 := gr x1
          replace x2 := gr x2
          replace x3 := gr x3
          replace x5 := gr x5
          refine ⟨(by show 4 ≤ sizeLine; decide), fun p7 n7 => ?_⟩
          obtain ⟨n, x7, gr⟩ := newT n n7 (.cons (.int 0) (.cons (.str "left") (.cons (.int 0) (.cons x6 .nil))))
          replace x1 := gr x1
          replace x2 := gr x2
          replace x3 := gr x3
          replace x5 := gr x5
          refine ⟨(by show 1 ≤ sizeLine; decide), fun p8 n8 => ?_⟩
          obtain ⟨n, x8, gr⟩ := newT n n8 (.cons x7 .nil)
          replace x1 := gr x1
          replace x2 := gr x2
          replace x3 := gr x3
          replace x5 := gr x5
          refine ⟨(by show 9 ≤ sizeLine; decide), fun q nq => ?_⟩
          have nq' := n.dice.ne nq
          have hAll := DxAll.cons .non (.cons (.int 0) (.cons x1 (.cons (.str "0 left 0") (.cons x2 (.cons x3 (.cons (.bl true) (.cons x5 (.cons x8 .nil))))))))
          have nN := n.new (o := .lst [.non, .int 0, .ref p1, .str "0 left 0", .ref p2, .ref p3, .bl true, .ref p5, .ref p8]) nq
          have hg := DxAll.grow (fresh_same (o := .lst [.non, .int 0, .ref p1, .str "0 left 0", .ref p2, .ref p3, .bl true, .ref p5, .ref p8]) n.dice nq) hAll
          refine ⟨d, q, _, rfl, nN.dice, SqL.of upd_same, nq', (by show 0 < 9; decide), (by show 9 ≤ 1000; decide), fun i y H6 e m6 _ => ?_⟩
          obtain ⟨dat, din, hdx⟩ := picked hg m6 e
          exact kQ _ _ ⟨dat, din, hdx, nN.mv m6⟩
        rintro vo H6 ⟨dat, hin, hdx, n6⟩
        obtain ⟨bad, hs⟩ := odd_bad c gs dat hin
        have hx6 := hx5.keepK (n6.tupK d5)
        replace m := m.trans n6
        refine a_ret (fun v H' => v = .bl true ∧ MvT (tabs1 PR) d H6 H') (fun Q' kQ => ?_) (fun v H7 e => by rw [e.1]; exact k _ (m.trans e.2))
        refine ⟨_, rfl, _, rfl, _, rfl, c, x, vo, gs, dat, rfl, hc, hx6, hsm, hb, hdx.seen, hs, fun L s => ?_⟩
        refine ⟨_, _, rfl, rfl, true, congrArg V.bl (by rw [bad]; rfl), iteT ?_⟩
        have mL := m.same s
        refine ⟨mL.tabs, fun L1 e1 t1 => ?_⟩
        refine ⟨_, rfl, _, rfl, _, rfl, ?_⟩
        dsimp only [tNil]
        exact ⟨c, x, vo, gs, dat, rfl, hc, (hx6.grow s).keepK (TupK.ext e1), hsm, hb, Dx.ext e1 (hdx.seen.grow s), hs, bad, fun H' s2 => ⟨rfl, kQ _ _ ⟨rfl, ((((MvT.refl m.dice m.tabs).same s).lam e1 t1).same s2)⟩⟩⟩
end
end G

set_option Elab.async false
set_option linter.all false
set_option maxRecDepth 100000
set_option maxHeartbeats 4000000
namespace G
open PySem PySem.Spec PyProof.Rows L2
/-! ## the law -/
theorem TxtS.made {K : PySem.W.Frag} {mg : Str → Option Value} {aS : Addr} {o : Obj} {t1 t2 : Tok} {n : Nat} (g : mg "SIDES" = some (.ref aS)) (l : K.lookup aS = some o) (c : o.cls = .type "tuple") (d : o.dict = none) (e : o.data = .seq #[.str "left" t1, .str "right" t2] n) : TxtS K mg aS :=
  ⟨⟨_, g, rfl⟩, o, t1, t2, n, l, c, d, e⟩
def spLawT (K : PySem.W.Frag) (T : List (Addr × Str)) : Sp := fun vs H Q _ => ∃ (a : Addr) (ns : List Int), vs = [.ref a] ∧ SqL K H a (ns.map V.int) ∧ ns.length ≤ 63 ∧ LamX.Tabs T H ∧ ∀ H', Q (.bl true) H'
theorem sql_ext {K : PySem.W.Frag} {H H' : Hp} {a : Addr} {xs : List V} (e : LamX.ExtN H H') (h : SqL K H a xs) : SqL K H' a xs := by
  rcases h with (h | ⟨o, h⟩) | h
  · exact .inl (.inl (e _ _ h fun _ z => by cases z))
  · exact .inl (.inr ⟨o, e _ _ h fun _ z => by cases z⟩)
  · exact .inr h
theorem MvT.out {T : List (Addr × Str)} {d : Addr} {H H' : Hp} {o : HO} (n : H d = none) (m : MvT T d (upd H d o) H') : LamX.ExtN H H' := fun b u e k => by
  have nb : b ≠ d := ne_of_none e n
  have q := m.ext b u (by rw [hide_ne nb, upd_ne nb]; exact e) k
  rw [hide_ne nb] at q
  exact q
theorem tabs_new {T : List (Addr × Str)} {H : Hp} {p : Addr} {o : HO} (t : LamX.Tabs T H) (n : H p = none) : LamX.Tabs T (upd H p o) := t.ext (same_new n)
section
variable {P : Program} {w : World} {K : PySem.W.Frag} {mg : Str → Option Value}

theorem c_law {fa CP cR PR : Addr} (T : Txt K mg) (hf : mg "law" = some (.ref fa)) (TSx : ∃ aS, TxtS K mg aS) (M : RefTxt K mg CP) (X_InvalidPlace : ErrAt K mg "InvalidPlace" CP veL "ValueError.__new__")
    (D_is_integer : DefAt K mg "is_integer" s_is_integer ["value"])
    (D_is_within : DefAt K mg "is_within" s_is_within ["value", "least", "greatest"])
    (D_is_pair : DefAt K mg "is_pair" s_is_pair ["value"])
    (D_is_pair_within : DefAt K mg "is_pair_within" s_is_pair_within ["value", "least", "greatest"])
    (D_is_form : DefAt K mg "is_form" s_is_form ["value"])
    (D_are_forms : DefAt K mg "are_forms" s_are_forms ["value"])
    (D_is_row : DefAt K mg "is_row" s_is_row ["value"])
    (D_check_row : DefAt K mg "check_row" s_check_row ["row"])
    (D_check_arity : DefAt K mg "check_arity" s_check_arity ["arity"])
    (D_length_of : DefAt K mg "length_of" s_length_of ["arity", "row"])
    (D__place_at : DefAt K mg "_place_at" s__place_at ["arity", "row", "number"])
    (D_number_of : DefAt K mg "number_of" s_number_of ["arity", "row", "place"])
    (D_is_place : DefAt K mg "is_place" s_is_place ["arity", "row", "value"])
    (D__spans : DefAt K mg "_spans" s__spans ["arity", "row"])
    (D_beside : DefAt K mg "beside" s_beside ["arity", "row", "place"])
    (D__law_dice : DefAt K mg "_law_dice" s__law_dice ["_law_script", "_law_spot"])
    (D__law_roll : DefAt K mg "_law_roll" s__law_roll ["_law_dice_here", "_law_total"])
    (D__law_pick : DefAt K mg "_law_pick" s__law_pick ["_law_dice_here", "_law_items"])
    (D__law_mixed : DefAt K mg "_law_mixed" s__law_mixed ["_law_dice_here", "_law_items"])
    (D__law_cut : DefAt K mg "_law_cut" s__law_cut ["_law_forms"])
    (D__law_some_form : DefAt K mg "_law_some_form" s__law_some_form ["_law_dice_here", "_law_high"])
    (D__law_some_row : DefAt K mg "_law_some_row" s__law_some_row ["_law_dice_here", "_law_levels", "_law_high"])
    (D__law_paths : DefAt K mg "_law_paths" s__law_paths ["_law_arity", "_law_level"])
    (D__law_longer : DefAt K mg "_law_longer" s__law_longer ["_law_paths_here", "_law_arity"])
    (D__law_side_places : DefAt K mg "_law_side_places" s__law_side_places ["_law_arity", "_law_level", "_law_side", "_law_many"])
    (D__law_all_places : DefAt K mg "_law_all_places" s__law_all_places ["_law_arity", "_law_row"])
    (D__law_bent : DefAt K mg "_law_bent" s__law_bent ["_law_dice_here", "_law_place"])
    (D__law_is_refused : DefAt K mg "_law_is_refused" s__law_is_refused ["_law_call"])
    (D__law_is_listed : DefAt K mg "_law_is_listed" s__law_is_listed ["_law_places", "_law_value"])
    (D_law : DefAt K mg "law" s_law ["_law_script"])
    (DC_right : DefAtC K mg "_law_right" s__law_right ["_law_dice_here", "_law_arity"] cR) :
    ∃ fd : FuncData, (∀ (s : Shared) (u : Value), BindsTo s fd ⟨[u], []⟩ [("_law_script", u)]) ∧
      ∀ base : Heap, K.In base → base.Ns mainGlobals mg → (∀ p ∈ [(cR, PR)], LamX.TabB base mg p.1 p.2) → FnG P w K mg base CX0 15 fa fd ["_law_script"] (spLawT K (tabs1 PR)) := by
  obtain ⟨aS, TS⟩ := TSx
  refine lawOkT hf D_law sc_law (fun xs H Q E h => ?_) (fun base hK hN hTB f cdv A out s H xs Q E hgd hr h => ?_)
  · obtain ⟨a, ns, rfl, _⟩ := h
    rfl
  · obtain ⟨a, ns, rfl, hS, hlen, hT, k⟩ := h
    have nd := sc_law.nd
    have TBR : LamX.TabB base mg cR PR := hTB (cR, PR) List.mem_cons_self
    have Q_is_integer : CalQ false P w K mg base 1 "is_integer" ["value"] (spJ intB) := c_is_integer T D_is_integer
    have Q_is_within : CalQ false P w K mg base 2 "is_within" ["value", "least", "greatest"] spWithin := c_is_within T Q_is_integer D_is_within
    have Q_is_pair : CalQ false P w K mg base 2 "is_pair" ["value"] (spJ pairB) := c_is_pair T Q_is_integer D_is_pair
    have Q_is_pair_within : CalQ false P w K mg base 3 "is_pair_within" ["value", "least", "greatest"] spPairWithin := c_is_pair_within T Q_is_pair D_is_pair_within
    have Q_is_form : CalQ false P w K mg base 4 "is_form" ["value"] (spJ formB) := c_is_form T Q_is_pair_within D_is_form
    have Q_are_forms : CalQ false P w K mg base 5 "are_forms" ["value"] (spJ formsB) := c_are_forms T Q_is_form D_are_forms
    have Q_is_row : CalQ false P w K mg base 6 "is_row" ["value"] (spJ rowB) := c_is_row T Q_are_forms D_is_row
    have Q_check_arity : CalQ false P w K mg base 3 "check_arity" ["arity"] spCheckArity := c_check_arity T Q_is_within D_check_arity
    have Q_check_row : CalQ false P w K mg base 7 "check_row" ["row"] spCheckRow := c_check_row T Q_is_row D_check_row
    have Q_is_place : CalQ false P w K mg base 8 "is_place" ["arity", "row", "value"] spIsPlace := c_is_place T TS Q_is_within Q_check_arity Q_check_row D_is_place
    have C_is_place : CalG P w K mg base 8 "is_place" ["arity", "row", "value"] spIsPlace := Q_is_place.g
    have X_number_of : CalXQ false P w K mg base 9 "number_of" ["arity", "row", "place"] (spBadPlace CP) := x_number_of T X_InvalidPlace Q_is_place (c_never_spans D__spans) D_number_of
    have X_beside : CalXQ false P w K mg base 10 "beside" ["arity", "row", "place"] (spBadPlace CP) := x_beside T X_number_of (c_never_at D__place_at) (c_never_length D_length_of) D_beside
    have C__law_dice : CalG P w K mg base 1 "_law_dice" ["_law_script", "_law_spot"] (spDice K) := c_dice T D__law_dice
    have C__law_roll : CalG P w K mg base 1 "_law_roll" ["_law_dice_here", "_law_total"] spRoll := c_roll T D__law_roll
    have C__law_pick : CalG P w K mg base 2 "_law_pick" ["_law_dice_here", "_law_items"] (spPick K) := c_pick T C__law_roll D__law_pick
    have C__law_mixed : CalG P w K mg base 2 "_law_mixed" ["_law_dice_here", "_law_items"] spMixed := c_mixed T C__law_roll D__law_mixed
    have C__law_cut : CalG P w K mg base 1 "_law_cut" ["_law_forms"] spCut := c_cut T D__law_cut
    have C__law_some_form : CalG P w K mg base 2 "_law_some_form" ["_law_dice_here", "_law_high"] spSomeForm := c_some_form T C__law_roll D__law_some_form
    have C__law_some_row : CalG P w K mg base 3 "_law_some_row" ["_law_dice_here", "_law_levels", "_law_high"] spSomeRow := c_some_row T C__law_roll C__law_some_form C__law_cut D__law_some_row
    have C__law_longer : CalG P w K mg base 1 "_law_longer" ["_law_paths_here", "_law_arity"] spLonger := c_longer T D__law_longer
    have C__law_paths : CalG P w K mg base 2 "_law_paths" ["_law_arity", "_law_level"] spPaths := c_paths T C__law_longer D__law_paths
    have C__law_side_places : CalG P w K mg base 3 "_law_side_places" ["_law_arity", "_law_level", "_law_side", "_law_many"] spSideP := c_side_places T C__law_paths D__law_side_places
    have C__law_all_places : CalG P w K mg base 4 "_law_all_places" ["_law_arity", "_law_row"] spAll := c_all T C__law_side_places D__law_all_places
    have C__law_bent : CalG P w K mg base 3 "_law_bent" ["_law_dice_here", "_law_place"] spBent := c_bent T C__law_roll C__law_pick D__law_bent
    have C__law_is_listed : CalG P w K mg base 1 "_law_is_listed" ["_law_places", "_law_value"] spListed := c_is_listed T D__law_is_listed
    have C__law_right : CalG P w K mg base 14 "_law_right" ["_law_dice_here", "_law_arity"] (spRight (tabs1 PR)) := c_right T M TBR C__law_some_row C__law_all_places C__law_mixed C__law_bent C__law_is_listed C__law_pick C_is_place X_number_of X_beside D__law_is_refused DC_right
    refine ⟨_, (pss_cons (ps_for PassesOwn.never rfl (pi_range1 rfl T.range (pa_cons (pe_callB (call_max2 rfl) (by rfl) T.max (by decide +kernel) (pa_cons pe_int (pa_cons (pe_callB (call_min2 rfl) (by rfl) T.min (by decide +kernel) (pa_cons pe_int (pa_cons (pe_callB call_len_seq (by rfl) T.len (by decide +kernel) (pa_cons (pv 0) pa_nil)) pa_nil))) pa_nil))) pa_nil)) (pg_name (i := 1) nd rfl (.inl rfl)) (pss_cons (ps_set (i := 2) nd rfl (.inl rfl) (pe_k C__law_dice hgd hr (by decide) rfl (pa_cons (pv 0) (pa_cons (pv 1) pa_nil))))
        (pss_one (ps_for PassesOwn.never rfl (pi_tup (pe_tup (pa_cons pe_int (pa_cons pe_int pa_nil)))) (pg_name (i := 3) nd rfl (.inl rfl)) (pss_one (ps_if (pt_not (pt_val (pe_k C__law_right hgd hr (by decide) rfl (pa_cons (pv 2) (pa_cons (pv 3) pa_nil))))) (pss_one (ps_ret pe_bl)) pss_nil))))))
      (pss_one (ps_ret (pe_and (pe_cmpR (op_eqD hr.units) (pe_gv rfl TS.g) (pe_tup (pa_cons pe_str (pa_cons pe_str pa_nil))) (nomark _)) (pe_one (pe_cmpR op_isBl (pe_k C_is_place hgd hr (by decide) rfl (pa_cons pe_int (pa_cons (pe_tup pa_nil) (pa_cons (pe_tup (pa_cons pe_int (pa_cons pe_str (pa_cons pe_int (pa_cons (pe_tup pa_nil) pa_nil))))) pa_nil)))) pe_bl (nomark _))))))), ?_⟩
    refine ⟨_, rfl, _, _, rfl, .inl hS, _, _, rfl, _, _, rfl, _, rfl, ?_, ?_, ?_⟩
    · rw [List.length_map]; split <;> split <;> omega
    · rw [List.length_map]; split <;> split <;> omega
    refine for_range (fun i σ H' => ∃ v1 v2 v3, σ = [some (.ref a), v1, v2, v3] ∧ LamX.ExtN H H' ∧ LamX.Tabs (tabs1 PR) H') ?_ ?_ ?_
    · exact ⟨_, _, _, rfl, LamX.ExtN.refl _, hT⟩
    · rintro i σ H0 hi ⟨v1, v2, v3, rfl, e0, t0⟩
      refine ⟨_, rfl, _, rfl, a, ns, i, (by show [V.ref a, V.int (0 + (i : Int))] = _; rw [Int.zero_add]), sql_ext e0 hS, Nat.le_trans hlen (by decide), fun d l0 q0 c0 nd0 => ?_⟩
      have dd : DiceAt (upd H0 d (.lst [.int l0, .int q0, .int c0])) d := ⟨_, _, _, upd_same⟩
      have m0 := MvT.refl dd (tabs_new t0 nd0)
      refine ⟨(by show 2 ≤ sizeLine; decide), fun p np => ⟨p, rfl, ⟨_, SqT.of upd_same⟩, ?_⟩⟩
      have hp0 := upd_same (H := upd H0 d (.lst [.int l0, .int q0, .int c0])) (a := p) (o := .tup [.int 2, .int 3])
      have m1 := m0.new (o := .tup [.int 2, .int 3]) np
      generalize upd (upd H0 d (.lst [.int l0, .int q0, .int c0])) p (.tup [.int 2, .int 3]) = H1 at *
      refine for_tup (K := K) (a := p) (xs := [.int 2, .int 3]) (fun i σ H' => ∃ v1 v3, σ = [some (.ref a), v1, some (.ref d), v3] ∧ MvT (tabs1 PR) d H1 H') ?_ ?_ ?_ ?_
      · exact ⟨_, _, rfl, MvT.refl m1.dice m1.tabs⟩
      · rintro j σ H' _ ⟨_, _, _, m⟩
        exact SqT.of (m.tupK m1.dice _ _ hp0)
      · rintro j x σ H2 hj ⟨v1, v3, rfl, m⟩
        have hx : ∃ c : Nat, x = .int (c : Int) ∧ (c = 2 ∨ c = 3) := by
          match j, hj with
          | 0, e => cases e; exact ⟨2, rfl, .inl rfl⟩
          | 1, e => cases e; exact ⟨3, rfl, .inr rfl⟩
        obtain ⟨c, rfl, hc⟩ := hx
        refine a_if1 (fun b H' => b = false ∧ MvT (tabs1 PR) d H2 H') (fun Q' kQ => ?_) (fun H' h => nomatch h.1) (fun H6 h => ⟨_, _, rfl, m.trans h.2⟩)
        exact ⟨_, rfl, _, rfl, d, c, rfl, m.dice, hc, m.tabs, fun H3 m3 => ⟨_, rfl, kQ _ _ ⟨rfl, m3⟩⟩⟩
      · rintro σ H2 ⟨v1, v3, rfl, m⟩
        exact ⟨_, _, _, rfl, e0.trans (MvT.out nd0 (m1.trans m)), m.tabs⟩
    · rintro σ H' ⟨v1, v2, v3, rfl, e0, t0⟩
      refine go_nx ?_
      refine a_ret (fun v _ => v = .bl true) (fun Q' kQ => ?_) (fun v H2 e => by rw [e]; exact k H2)
      refine ⟨(by show 2 ≤ sizeLine; decide), fun p1 n1 => ?_⟩
      have hs : Dp K (upd H' p1 (.tup [.str "left", .str "right"])) (.ref aS) (.tuple sidesD) := .tup (TS.sq _) (.cons (.str _) (.cons (.str _) .nil))
      refine ⟨.tuple sidesD, .tuple sidesD, hs, .tup (SqT.of upd_same) (.cons (.str _) (.cons (.str _) .nil)), (by decide +kernel), (by decide +kernel), true, congrArg V.bl (by decide +kernel), iteT ?_⟩
      refine ⟨(by show 0 ≤ sizeLine; decide), fun p2 n2 => ⟨(by show 0 ≤ sizeLine; decide), fun p3 n3 => ⟨(by show 4 ≤ sizeLine; decide), fun p4 n4 => ?_⟩⟩⟩
      have s3 := same_new (o := .tup []) n3
      have s4 := same_new (o := .tup [.int 0, .str "left", .int 0, .ref p3]) n4
      refine ⟨2, .ref p2, .ref p4, [], .tuple [.int 0, .str "left", .int 0, .tuple []], rfl, .inl rfl, ⟨p2, [], rfl, s4 _ _ (s3 _ _ upd_same), .nil⟩, ⟨by decide, by decide⟩, (by decide +kernel), .tup upd_same (.cons (.int 0) (.cons (.str _) (.cons (.int 0) (.cons (.tup (s4 _ _ upd_same) .nil) .nil)))), fun a s i p e => ?_, fun L sL => ?_⟩
      · injection e with e
        injection e with _ e
        injection e with e _
        subst e
        exact ⟨by simp [PyData.hasDict], by decide +kernel⟩
      · exact ⟨_, _, rfl, rfl, kQ _ _ (congrArg V.bl (by decide +kernel))⟩

end
end G

set_option Elab.async false
set_option linter.all false
open PySem PySem.W PyProof.Rows in
set_option maxRecDepth 100000 in
set_option maxHeartbeats 0 in
theorem PySem.Challenge.cw_fingerbooks_k38_whole_places_judged_holds : PySem.Challenge.rw_fingerbooks_k38_whole_places_judged.Holds := by
  w_on; o_law; k_head; (case hw => w_witness2)
  k_fill
  refine G.endGT (n := 63) (k := 15) (x := "_law_script") rfl (by decide) rfl ⟨rfl, by decide, by decide⟩ (fun w h Y => PySem.W.km_in_of Y) ?F
  case F =>
    intro w mg fa h HT KX gl hmg
    have H_law_right := HT _ "_law_right" 279 275 rfl (by kernel_rfl)
    refine' G.packT (cs := [(279, 275)]) ?tb ?tn ?tc ?sp (G.c_law (cR := 279) (PR := 275) ⟨PySem.W.mg_none_of KX gl ?z1, PySem.W.mg_none_of KX gl ?z2, PySem.W.mg_none_of KX gl ?z3, PySem.W.mg_none_of KX gl ?z4, PySem.W.mg_none_of KX gl ?z5, PySem.W.mg_none_of KX gl ?z6, PySem.W.mg_none_of KX gl ?z7, PySem.W.mg_none_of KX gl ?z8, PySem.W.mg_none_of KX gl ?z9, PySem.W.mg_none_of KX gl ?z10, PySem.W.mg_none_of KX gl ?z11, PySem.W.mg_none_of KX gl ?z12, PySem.W.mg_none_of KX gl ?z13, ⟨_, PySem.W.mg_of KX gl ?z14, ?z15⟩, ⟨_, PySem.W.mg_of KX gl ?z16, ?z17⟩, ⟨_, PySem.W.mg_of KX gl ?z18, ?z19⟩⟩ hmg ⟨_, G.TxtS.made (PySem.W.mg_of KX gl ?z20) ?z21 ?z22 ?z23 ?z24⟩ ⟨PySem.W.mg_of KX gl ?z25, ?z26⟩ ⟨PySem.W.mg_of KX gl ?z27, ?z28, ?z29, ?z30, ?z31⟩ (G.defAt KX gl ?z32 ?z33 ?z34 ?z35 ?z36) (G.defAt KX gl ?z37 ?z38 ?z39 ?z40 ?z41) (G.defAt KX gl ?z42 ?z43 ?z44 ?z45 ?z46) (G.defAt KX gl ?z47 ?z48 ?z49 ?z50 ?z51) (G.defAt KX gl ?z52 ?z53 ?z54 ?z55 ?z56) (G.defAt KX gl ?z57 ?z58 ?z59 ?z60 ?z61) (G.defAt KX gl ?z62 ?z63 ?z64 ?z65 ?z66) (G.defAt KX gl ?z67 ?z68 ?z69 ?z70 ?z71) (G.defAt KX gl ?z72 ?z73 ?z74 ?z75 ?z76) (G.defAt KX gl ?z77 ?z78 ?z79 ?z80 ?z81) (G.defAt KX gl ?z82 ?z83 ?z84 ?z85 ?z86) (G.defAt KX gl ?z87 ?z88 ?z89 ?z90 ?z91) (G.defAt KX gl ?z92 ?z93 ?z94 ?z95 ?z96) (G.defAt KX gl ?z97 ?z98 ?z99 ?z100 ?z101) (G.defAt KX gl ?z102 ?z103 ?z104 ?z105 ?z106) (G.defAt KX gl ?z107 ?z108 ?z109 ?z110 ?z111) (G.defAt KX gl ?z112 ?z113 ?z114 ?z115 ?z116) (G.defAt KX gl ?z117 ?z118 ?z119 ?z120 ?z121) (G.defAt KX gl ?z122 ?z123 ?z124 ?z125 ?z126) (G.defAt KX gl ?z127 ?z128 ?z129 ?z130 ?z131) (G.defAt KX gl ?z132 ?z133 ?z134 ?z135 ?z136) (G.defAt KX gl ?z137 ?z138 ?z139 ?z140 ?z141) (G.defAt KX gl ?z142 ?z143 ?z144 ?z145 ?z146) (G.defAt KX gl ?z147 ?z148 ?z149 ?z150 ?z151) (G.defAt KX gl ?z152 ?z153 ?z154 ?z155 ?z156) (G.defAt KX gl ?z157 ?z158 ?z159 ?z160 ?z161) (G.defAt KX gl ?z162 ?z163 ?z164 ?z165 ?z166) (G.defAt KX gl ?z167 ?z168 ?z169 ?z170 ?z171) (G.defAt KX gl ?z172 ?z173 ?z174 ?z175 ?z176) (G.defAt KX gl ?z177 ?z178 ?z179 ?z180 ?z181) (G.defAtC KX gl ?z182 ?z183 ?z184 ?z185 ?z186))
    (case z1 => k_is)
    (case z2 => k_is)
    (case z3 => k_is)
    (case z4 => k_is)
    (case z5 => k_is)
    (case z6 => k_is)
    (case z7 => k_is)
    (case z8 => k_is)
    (case z9 => k_is)
    (case z10 => k_is)
    (case z11 => k_is)
    (case z12 => k_is)
    (case z13 => k_is)
    (case z14 => k_is)
    (case z15 => exact ⟨_, rfl⟩)
    (case z16 => k_is)
    (case z17 => exact ⟨_, rfl⟩)
    (case z18 => k_is)
    (case z19 => exact ⟨_, rfl⟩)
    (case z20 => k_is)
    (case z21 => k_is)
    (case z22 => rfl)
    (case z23 => rfl)
    (case z24 => rfl)
    (case z25 => k_is)
    (case z26 => first | k_is | kernel_rfl)
    (case z27 => k_is)
    (case z28 => k_exc)
    (case z29 => k_is)
    (case z30 => k_is)
    (case z31 => k_is)
    (case z32 => exact fun us hl => match us, hl with | [_], _ => rfl)
    (case z33 => k_is)
    (case z34 => k_is)
    (case z35 => k_is)
    (case z36 => k_is)
    (case z37 => exact fun us hl => match us, hl with | [_, _, _], _ => rfl)
    (case z38 => k_is)
    (case z39 => k_is)
    (case z40 => k_is)
    (case z41 => k_is)
    (case z42 => exact fun us hl => match us, hl with | [_], _ => rfl)
    (case z43 => k_is)
    (case z44 => k_is)
    (case z45 => k_is)
    (case z46 => k_is)
    (case z47 => exact fun us hl => match us, hl with | [_, _, _], _ => rfl)
    (case z48 => k_is)
    (case z49 => k_is)
    (case z50 => k_is)
    (case z51 => k_is)
    (case z52 => exact fun us hl => match us, hl with | [_], _ => rfl)
    (case z53 => k_is)
    (case z54 => k_is)
    (case z55 => k_is)
    (case z56 => k_is)
    (case z57 => exact fun us hl => match us, hl with | [_], _ => rfl)
    (case z58 => k_is)
    (case z59 => k_is)
    (case z60 => k_is)
    (case z61 => k_is)
    (case z62 => exact fun us hl => match us, hl with | [_], _ => rfl)
    (case z63 => k_is)
    (case z64 => k_is)
    (case z65 => k_is)
    (case z66 => k_is)
    (case z67 => exact fun us hl => match us, hl with | [_], _ => rfl)
    (case z68 => k_is)
    (case z69 => k_is)
    (case z70 => k_is)
    (case z71 => k_is)
    (case z72 => exact fun us hl => match us, hl with | [_], _ => rfl)
    (case z73 => k_is)
    (case z74 => k_is)
    (case z75 => k_is)
    (case z76 => k_is)
    (case z77 => exact fun us hl => match us, hl with | [_, _], _ => rfl)
    (case z78 => k_is)
    (case z79 => k_is)
    (case z80 => k_is)
    (case z81 => k_is)
    (case z82 => exact fun us hl => match us, hl with | [_, _, _], _ => rfl)
    (case z83 => k_is)
    (case z84 => k_is)
    (case z85 => k_is)
    (case z86 => k_is)
    (case z87 => exact fun us hl => match us, hl with | [_, _, _], _ => rfl)
    (case z88 => k_is)
    (case z89 => k_is)
    (case z90 => k_is)
    (case z91 => k_is)
    (case z92 => exact fun us hl => match us, hl with | [_, _, _], _ => rfl)
    (case z93 => k_is)
    (case z94 => k_is)
    (case z95 => k_is)
    (case z96 => k_is)
    (case z97 => exact fun us hl => match us, hl with | [_, _], _ => rfl)
    (case z98 => k_is)
    (case z99 => k_is)
    (case z100 => k_is)
    (case z101 => k_is)
    (case z102 => exact fun us hl => match us, hl with | [_, _, _], _ => rfl)
    (case z103 => k_is)
    (case z104 => k_is)
    (case z105 => k_is)
    (case z106 => k_is)
    (case z107 => exact fun us hl => match us, hl with | [_, _], _ => rfl)
    (case z108 => k_is)
    (case z109 => k_is)
    (case z110 => k_is)
    (case z111 => k_is)
    (case z112 => exact fun us hl => match us, hl with | [_, _], _ => rfl)
    (case z113 => k_is)
    (case z114 => k_is)
    (case z115 => k_is)
    (case z116 => k_is)
    (case z117 => exact fun us hl => match us, hl with | [_, _], _ => rfl)
    (case z118 => k_is)
    (case z119 => k_is)
    (case z120 => k_is)
    (case z121 => k_is)
    (case z122 => exact fun us hl => match us, hl with | [_, _], _ => rfl)
    (case z123 => k_is)
    (case z124 => k_is)
    (case z125 => k_is)
    (case z126 => k_is)
    (case z127 => exact fun us hl => match us, hl with | [_], _ => rfl)
    (case z128 => k_is)
    (case z129 => k_is)
    (case z130 => k_is)
    (case z131 => k_is)
    (case z132 => exact fun us hl => match us, hl with | [_, _], _ => rfl)
    (case z133 => k_is)
    (case z134 => k_is)
    (case z135 => k_is)
    (case z136 => k_is)
    (case z137 => exact fun us hl => match us, hl with | [_, _, _], _ => rfl)
    (case z138 => k_is)
    (case z139 => k_is)
    (case z140 => k_is)
    (case z141 => k_is)
    (case z142 => exact fun us hl => match us, hl with | [_, _], _ => rfl)
    (case z143 => k_is)
    (case z144 => k_is)
    (case z145 => k_is)
    (case z146 => k_is)
    (case z147 => exact fun us hl => match us, hl with | [_, _], _ => rfl)
    (case z148 => k_is)
    (case z149 => k_is)
    (case z150 => k_is)
    (case z151 => k_is)
    (case z152 => exact fun us hl => match us, hl with | [_, _, _, _], _ => rfl)
    (case z153 => k_is)
    (case z154 => k_is)
    (case z155 => k_is)
    (case z156 => k_is)
    (case z157 => exact fun us hl => match us, hl with | [_, _], _ => rfl)
    (case z158 => k_is)
    (case z159 => k_is)
    (case z160 => k_is)
    (case z161 => k_is)
    (case z162 => exact fun us hl => match us, hl with | [_, _], _ => rfl)
    (case z163 => k_is)
    (case z164 => k_is)
    (case z165 => k_is)
    (case z166 => k_is)
    (case z167 => exact fun us hl => match us, hl with | [_], _ => rfl)
    (case z168 => k_is)
    (case z169 => k_is)
    (case z170 => k_is)
    (case z171 => k_is)
    (case z172 => exact fun us hl => match us, hl with | [_, _], _ => rfl)
    (case z173 => k_is)
    (case z174 => k_is)
    (case z175 => k_is)
    (case z176 => k_is)
    (case z177 => exact fun us hl => match us, hl with | [_], _ => rfl)
    (case z178 => k_is)
    (case z179 => k_is)
    (case z180 => k_is)
    (case z181 => k_is)
    (case z182 => exact fun us hl => match us, hl with | [_, _], _ => rfl)
    (case z183 => k_is)
    (case z184 => k_is)
    (case z185 => k_is)
    (case z186 => k_is)
    (case tb =>
      intro p hp
      simp only [List.mem_cons, List.not_mem_nil, or_false] at hp
      rcases hp with rfl
      · exact H_law_right.2)
    (case tc =>
      intro p hp
      simp only [List.mem_cons, List.not_mem_nil, or_false] at hp
      rcases hp with rfl
      · exact H_law_right.1)
    (case tn =>
      intro p hp
      simp only [List.mem_cons, List.not_mem_nil, or_false] at hp
      rcases hp with rfl
      · kernel_rfl)
    (case sp =>
      intro H a ns hl hT hS
      refine ⟨a, ns, rfl, hS, hl, fun p hp => ?_, fun _ => rfl⟩
      simp only [G.tabs1, List.mem_cons, List.not_mem_nil, or_false] at hp
      rcases hp with rfl
      · exact LamX.TabS.nil (hT (279, 275) (by simp)))

