import PyProof.Rows.All
import Wide.All
import OpenK.AllK
import Wide.FinOn
import PyProof.ReprReads
import PyProof.ReprText
import PyProof.ReprLen
import PyProof.ReprBulk
import PyProof.ReprRoads
import HandS.ForMost
import HandS.IsInst
import HandS.Wide
import HandS.StrMore
import HandS.Codes
import KE.DataMinMax
import HandS.TupAny
import HandS.TupMul
import HandS.Style
import HandS.Conv
import HandS.Walk
import HandS.Exc
import HandS.ExcOwn
import HandS.WordsExc
import HandS.TryOnly
import HandS.TryMany
import HandS.Small
import PyProof.EqAt
import PyProof.EqKinds
import PyProof.TupleCall
import KE.KExcInit
import HandS.ForExc
import HandS.ExcInit
import Open.SpecLaws
import KE.OsGo
import HandS.FStr
import HandS.Text
import HandS.Property
import HandS.ClsMeth
import HandS.OwnEq
import HandS.SlotsOwn
import HandS.RaiseFrom
import KE.KCallOwn
import KE.KTupSum
import HandS.Lambda
import PySem.Challenge.RW_fingerbooks_k14_pages_told
set_option Elab.async false
set_option linter.all false
set_option maxRecDepth 100000
set_option maxHeartbeats 2000000
namespace G
open PySem PySem.Spec PyProof.Rows L2

/-! ## Promises that hold where no text of an object is being written (guards empty) -/
structure FnG (P : Program) (w : World) (K : PySem.W.Frag) (mg : Str → Option Value) (base : Heap)
    (CX : CXT) (k : Nat) (f : Addr) (fd : FuncData) (ps : List Str) (sp : Sp) : Prop where
  len : ∀ xs H Q E, sp xs H Q E → xs.length = ps.length
  go : ∀ (A : Around) (out : List Env) (s : Shared) (H : Hp) (args : Args) (us : List Value) (xs : List V) (Q : VK) (E : XK),
    A.guards = some [] → Room k A → Env0 P w K mg base A out s H → BindsTo s fd args (ps.zip us) → Vals xs us → sp xs H Q E →
    codeAny (model P w) A (.call (.ref f) args) (CR CX out P w H s Q E) s

theorem FnG.ofOk {P w K mg base CX k f fd ps sp} (F : FnOk P w K mg base CX k f fd ps sp) : FnG P w K mg base CX k f fd ps sp :=
  ⟨F.len, fun A out s H args us xs Q E _ => F.run A out s H args us xs Q E⟩
theorem FnG.mono {P w K mg base CX j k f fd ps sp} (F : FnG P w K mg base CX j f fd ps sp) (h : j ≤ k) : FnG P w K mg base CX k f fd ps sp :=
  ⟨F.len, fun A out s H args us xs Q E hg hr => F.go A out s H args us xs Q E hg (hr.mono h)⟩

section
variable {X : Cx} {CX : CXT} {k : Nat} {f : Addr} {fd : FuncData} {ps : List Str} {sp : Sp} {dvs : List V} {ds : List Value} {E : XK}
theorem runG {pins : List (Addr × Obj)} {σ : L2.St} {H : Hp} {s : Shared} {Q : VK} {us : List Value} {xs : List V}
    (F : FnG X.prog X.w X.K X.mg X.base CX k f fd ps sp) (hgd : X.A.guards = some []) (hr : Room k X.A)
    (hb : Binds X.K fd ps ds) (hd : Vals dvs ds) (hx : Passes CX X E) (I : Inv X pins σ H s) (r : Vals xs us) (h : sp (xs ++ dvs) H Q E) :
    wpAny (model X.prog X.w) X.A (call (.ref f) us) (EP X pins σ Q) X.xe s := by
  have both : Vals (xs ++ dvs) (us ++ ds) := r.append hd
  have sz : (us ++ ds).length = ps.length := both.length.symm.trans (F.len _ _ _ _ h)
  have body := F.go X.A X.stack s H ⟨us, []⟩ (us ++ ds) (xs ++ dvs) Q E hgd hr I.env0 (hb s us I.kIn sz) both h
  refine wpAny_call (codeAny_mono body fun res t hq => ?_)
  match res, hq with
  | .error e, hq => exact hx pins σ H s e t I hq
  | .ok (.ret u), hq => exact I.after hq
  | .ok .next, hq => exact hq.elim
  | .ok .brk, hq => exact hq.elim
  | .ok .cont, hq => exact hq.elim

theorem pe_g {x : Str} {p pos : Pos} {e : Expr} {es : List Expr} {t : TA} (F : FnG X.prog X.w X.K X.mg X.base CX k f fd ps sp)
    (hgd : X.A.guards = some []) (hr : Room k X.A) (hg : Gl X x) (hm : X.mg x = some (.ref f)) (hk : PySem.W.keepIn X.K (.ref f) = true)
    (hb : Binds X.K fd ps ds) (hd : Vals dvs ds) (hx : Passes CX X E) (ha : PA X (e :: es) t)
    (hdb : (x == ("__debug__" : Str)) = false := by decide)
    (he : starEach (e :: es) X.env = (false, eval e X.env) :: starEach es X.env := by rfl)
    (hpl : (backTo pos (starEach es X.env)).any (·.1) = false := by rfl) :
    PE X (.Call (.Name x p) (e :: es) [] pos) (tCall sp dvs E t) :=
  ⟨fun pins s σ H Q I h => wpAny_Call_Name_kw (ld_glob I hg hm
    (PySem.W.callWith_K (h₀ := X.base) I.ok.mod.kin hk
      (thn (ha.run pos pins s σ H _ I h) fun us s1 ⟨xs, H1, I1, r, q⟩ => ⟨I1.kIn, runG F hgd hr hb hd hx I1 r q⟩) he hpl) hdb)⟩
theorem pe_g0 {x : Str} {p pos : Pos} (F : FnG X.prog X.w X.K X.mg X.base CX k f fd ps sp)
    (hgd : X.A.guards = some []) (hr : Room k X.A) (hg : Gl X x) (hm : X.mg x = some (.ref f)) (hk : PySem.W.keepIn X.K (.ref f) = true)
    (hb : Binds X.K fd ps ds) (hd : Vals dvs ds) (hx : Passes CX X E) (hdb : (x == ("__debug__" : Str)) = false := by decide) :
    PE X (.Call (.Name x p) [] [] pos) (tCall sp dvs E tNil) :=
  ⟨fun pins s σ H Q I h => wpAny_Call_Name_kw (ld_glob I hg hm (PySem.W.callWith_K0 I.kIn hk (runG (us := []) F hgd hr hb hd hx I .nil h)) hdb)⟩
end

/-- a def by its body, guards known -/
theorem okG {P : Program} {w : World} {K : PySem.W.Frag} {mg : Str → Option Value} {base : Heap} {x qual : Str} {st : Stmt} {f : Addr} {fd : FuncData}
    {N ps : List Str} {k : Nat} {sp : Sp} (F : Fun K x qual st f fd) (S : FnScope N ps (defScope st)) (len : ∀ xs H Q E, sp xs H Q E → xs.length = ps.length)
    (hbody : ∀ (cdv : Value) (A : Around) (out : List Env) (s : Shared) (H : Hp) (xs : List V) (Q : VK) (E : XK), A.guards = some [] →
      Room k (A.deeper (envOfC qual (defScope st) s.heap.objs.size f cdv)) → sp xs H Q E →
      ∃ t, PSs (cxOf CX0 P w K mg base N qual (defScope st) f cdv A out s H E).nox (defBody st) t ∧
        t { nx := fun _ H' => Q .non H', rt := Q } (start N xs) H) :
    FnG P w K mg base CX0 (k + 1) f fd ps sp := by
  obtain ⟨oc, od, kV, doc, pm, an, cdv, ct, osl, rfl, lk, hcd⟩ := F.ex
  constructor
  · exact len
  intro A out s H args us xs Q E gA hr e0 hb r hsp
  have old : ∀ b o, base.get? b = some o → s.heap.get? b = some o := fun b o q => (e0.bs b o q).1
  have KX : K.In s.heap := e0.mod.kin.keeps old
  have lim : s.heap.NoLimit := e0.mod.nolimit.keeps old
  refine codeAny_call_function hr.depth (KX _ _ lk) rfl S.co S.gen rfl (PySem.W.codeRec_of KX hcd) (hb _ _ _ _ ?_)
  refine wpAny_newFunctionEnv_cells S.kind (fun y hy => ?_) fun env he s1 x1 => ?_
  · have q := S.par y.1 (List.of_mem_zip (a := y.1) (b := y.2) hy).1
    exact q.elim .inl fun q => .inr ⟨q, PySem.W.cellsFrom_some _ _ _ (.inl q)⟩
  · subst he
    refine ⟨lim.keeps x1.toInCall.keep, codeAny_func ?_⟩
    obtain ⟨t, ht, hq⟩ := hbody cdv A out s H xs Q E gA (hr.deeper _) hsp
    have I := inv_start (CX := CX0) (P := P) (w := w) (K := K) (mg := mg) (base := base) (N := N) (ps := ps) (E := E) S hr.hd e0 (len _ _ _ _ hsp) r x1
    refine wpAny_mono (ht.nox.run [] s1 (start N xs) H _ I hq) (fun fl s2 hs => ?_) fun _ _ z => z
    match fl, hs with
    | .ret u, ⟨v, σ', H', J, rv, q⟩ => exact ⟨v, H', J.os, J.bare, J.base, J.hok, rv, q⟩
    | .next, ⟨σ', H', J, q⟩ => exact ⟨V.non, H', J.os, J.bare, J.base, J.hok, rfl, q⟩
    | .brk, ⟨_, _, _, q⟩ => exact q.elim
    | .cont, ⟨_, _, _, q⟩ => exact q.elim

/-! ## the end of a row -/
theorem endG {l : PySem.W.OpenLaw} {n k : Nat} {q : Program} {loose : List Str} {XP : (Str → Option Value) → Heap → Prop} {YP : World → Heap → Prop} {d : DefRec}
    {K : Params → PySem.W.Frag} {sp : PySem.W.Frag → Sp} {x : Str}
    (hn : l.most = some n) (hn2 : n ≤ sizeLine) (hdf : d.params.defaults = []) (hr : Room k callerA)
    (hY : ∀ (w : World) (h : Heap), YP w h → (K w.params).In h)
    (F : ∀ (w : World) (mg : Str → Option Value) (fa : Addr) (h : Heap), (K w.params).In h → h.Ns mainGlobals mg → mg d.name = some (.ref fa) →
      ∃ fd : FuncData, (∀ (s : Shared) (u : Value), BindsTo s fd ⟨[u], []⟩ [(x, u)]) ∧
        ∀ base : Heap, (K w.params).In base → base.Ns mainGlobals mg → FnG l.prog w (K w.params) mg base CX0 k fa fd [x] (sp (K w.params)))
    (hsp : ∀ (K : PySem.W.Frag) (H : Hp) (a : Addr) (ns : List Int), ns.length ≤ n → SqL K H a (ns.map V.int) →
      sp K [.ref a] H (fun v _ => v = .bl true) fun _ _ _ => False) :
    PySem.W.WalkO q loose XP YP l.row.toRowW d [] (fun f vs => PySem.call f vs) := by
  refine Att.attach_call hn hdf fun w s0 s1 mg mb fa o pm cd doc a vs ns gr Y ho hd hcd hmg ha hi hl hgn => ?_
  have KX := hY w _ Y
  obtain ⟨fd, hbind, F⟩ := F w mg fa _ KX gr.T.g hmg
  have rv := vals_ints hi
  have lenV := hi.length
  have nsz : ns.length ≤ sizeLine := Nat.le_trans hl hn2
  -- the tracked heap T: nothing, or the script alone
  have main : ∀ T : Hp, (∀ b, T b = none ∨ ∃ ob xs, T b = some (.frz ob (.lst xs))) → SqL (K w.params) T a (ns.map V.int) → HOk l.prog w T s1.heap →
      (∀ b, T b ≠ none → b = a) → (T a ≠ none → (K w.params).lookup a = none) →
      codeAny (model l.prog w) callerA (.call (.ref fa) ⟨[.ref a], []⟩)
        (fun r t => r = .ok (.ret (.bool true)) ∧ OldK s1.heap t.heap ∧ t.os = s1.os ∧ AllBare t.gens) s1 := by
    intro T only hS hok only_a notK
    have keepD : ∀ {b : Addr} {ob : Obj}, s1.heap.get? b = some ob → (∃ es ep, ob.data = .dict es ep) → (hidT s1.heap T).get? b = some ob := by
      intro b ob e ⟨es, ep, ed⟩
      refine hidT_get e ?_
      match q : T b with
      | none => rfl
      | some u =>
        have hb : b = a := only_a b (by rw [q]; exact Option.some_ne_none _)
        subst hb
        rw [ha] at e
        cases e
        cases (show Data.seq vs.toArray _ = Data.dict es ep from ed)
    have nsT : ∀ {b : Addr} {m : Str → Option Value}, s1.heap.Ns b m → (hidT s1.heap T).Ns b m := by
      rintro b m ⟨ob, es, ep, e, ed, r⟩
      exact ⟨ob, es, ep, keepD e ⟨es, ep, ed⟩, ed, r⟩
    have inT : (K w.params).In (hidT s1.heap T) := by
      intro b ob e
      refine hidT_get (KX b ob e) ?_
      match q : T b with
      | none => rfl
      | some u =>
        have hb : b = a := only_a b (by rw [q]; exact Option.some_ne_none _)
        subst hb
        rw [notK (by rw [q]; exact Option.some_ne_none _)] at e
        cases e
    have nolim : (hidT s1.heap T).NoLimit := by
      obtain ⟨mc, h1, h2⟩ := gr.T.nolimit
      exact ⟨mc, nsT h1, h2⟩
    have md : Mod (K w.params) mg (hidT s1.heap T) := ⟨inT, nsT gr.T.g, ⟨mb, nsT gr.T.b, gr.T.builtins⟩, nolim⟩
    have e0 : Env0 l.prog w (K w.params) mg (hidT s1.heap T) callerA [] s1 T := by
      refine ⟨rfl, md, fun b ob e => of_hidT e, Nat.le_of_eq (hidT_size _ _), trivial, fun b hb => ?_, hok, .of_eq hgn⟩
      cases (show b ∈ ([] : List Addr) from hb)
    have run := (F _ inT (nsT gr.T.g)).go callerA [] s1 T ⟨[.ref a], []⟩ [.ref a] [.ref a] _ _ rfl hr e0 (hbind s1 (.ref a)) (.cons rfl .nil) (hsp (K w.params) T a ns hl hS)
    refine codeAny_mono run fun res t hq => ?_
    match res, hq with
    | .error e, hq => exact hq.elim
    | .ok .next, hq => exact hq.elim
    | .ok .brk, hq => exact hq.elim
    | .ok .cont, hq => exact hq.elim
    | .ok (.ret u), ⟨v, T', os, bare, un, hok', rr, qq⟩ =>
      obtain rfl : v = .bl true := qq
      obtain rfl : u = Value.bool true := rr
      refine ⟨rfl, OldK.of_keep fun b ob e => ?_, os, bare⟩
      match q : T b with
      | none => exact un.keep b ob e q (fun z => nomatch (show b ∈ ([] : List Addr) from z)) (fun z => nomatch z)
      | some u =>
        rcases only b with z | ⟨fo, xs, z⟩
        · rw [q] at z
          cases z
        · obtain ⟨e1, _⟩ := hok b _ z
          obtain ⟨e2, _⟩ := hok' b _ (un.frzs b fo _ z)
          rw [e] at e1
          cases e1
          exact e2
  match hk : (K w.params).lookup a with
  | some ob =>
    have e := KX a ob hk
    rw [ha] at e
    cases e
    refine main (fun _ => none) (fun _ => .inl rfl) (.inr ⟨_, vs.toArray, _, hk, rfl, rfl, rfl, ?_, ?_⟩) (fun b u z => nomatch (show (none : Option HO) = some u from z)) (fun b z => absurd rfl z) (fun z => absurd rfl z)
    · rw [List.size_toArray, lenV]
      exact nsz
    · simpa using rv
  | none =>
    have atA : ∀ b, b = a → (if b = a then some (HO.frz { cls := .type "list", data := .seq vs.toArray } (.lst (ns.map V.int))) else none) = some (HO.frz { cls := .type "list", data := .seq vs.toArray } (.lst (ns.map V.int))) := fun b hb => if_pos hb
    have offA : ∀ b, b ≠ a → (if b = a then some (HO.frz { cls := .type "list", data := .seq vs.toArray } (.lst (ns.map V.int))) else none) = none := fun b hb => if_neg hb
    refine main (fun b => if b = a then some (.frz { cls := .type "list", data := .seq vs.toArray } (.lst (ns.map V.int))) else none) (fun b => ?_) (.inl (.inr ⟨{ cls := .type "list", data := .seq vs.toArray }, atA a rfl⟩)) (fun b u z => ?_) (fun b z => ?_) fun _ => hk
    · by_cases hb : b = a
      · exact .inr ⟨_, _, atA b hb⟩
      · exact .inl (offA b hb)
    · by_cases hb : b = a
      · have z2 := (atA b hb).symm.trans z
        cases z2
        subst hb
        exact ⟨ha, by rw [List.length_map]; exact nsz, vs, _, rv, ha⟩
      · have z2 := (offA b hb).symm.trans z
        cases z2
    · by_cases hb : b = a
      · exact hb
      · exact absurd (offA b hb) z

/-! ## repr of data -/
mutual
/-- data whose text is written: no dict, numbers and texts of bounded size -/
def nice : PyData → Bool
  | .none | .bool _ => true
  | .int i => decide (i.natAbs.log2 < 1200)
  | .str x => x.cps.toList.all fun c => decide (c < 16 ^ 8)
  | .list xs | .tuple xs => niceAll xs
  | .dict _ => false
def niceAll : List PyData → Bool
  | [] => true
  | x :: xs => nice x && niceAll xs
end
structure Shw (d : PyData) : Prop where
  noDict : d.hasDict = false
  able : d.showable = true
  deep : d.depth ≤ 60
  fits : d.shown.length ≤ sizeLine
mutual
theorem nice_facts : ∀ d : PyData, nice d = true → d.hasDict = false ∧ d.showable = true ∧ d.leavesShort 1201 = true
  | .none, _ => by simp [PyData.hasDict, PyData.showable, PyData.leavesShort]
  | .bool _, _ => by simp [PyData.hasDict, PyData.showable, PyData.leavesShort]
  | .int i, h => by
    have h2 : i.natAbs.log2 < 1200 := by simpa [nice] using h
    have h3 := int_text_length_le (a := i) (by decide) h2
    have h4 : (PyData.shown (.int i)).length ≤ 1201 := by
      rw [PyData.shown_int]
      rw [PySem.ofString_length]
      exact h3
    refine ⟨by simp [PyData.hasDict], ?_, ?_⟩
    · simp only [PyData.showable]
      exact decide_eq_true (by omega)
    · simp only [PyData.leavesShort]
      exact decide_eq_true h4
  | .str x, h => by
    refine ⟨by simp [PyData.hasDict], by simp [PyData.showable], ?_⟩
    simpa only [PyData.leavesShort, nice] using h
  | .list xs, h => by
    have q := nice_factsAll xs (by simpa only [nice] using h)
    exact ⟨by simpa only [PyData.hasDict] using q.1, by simpa only [PyData.showable] using q.2.1, by simpa only [PyData.leavesShort] using q.2.2⟩
  | .tuple xs, h => by
    have q := nice_factsAll xs (by simpa only [nice] using h)
    exact ⟨by simpa only [PyData.hasDict] using q.1, by simpa only [PyData.showable] using q.2.1, by simpa only [PyData.leavesShort] using q.2.2⟩
  | .dict _, h => by simp [nice] at h
theorem nice_factsAll : ∀ ds : List PyData, niceAll ds = true → PyData.hasDictAll ds = false ∧ PyData.showableAll ds = true ∧ PyData.leavesShortAll 1201 ds = true
  | [], _ => by simp [PyData.hasDictAll, PyData.showableAll, PyData.leavesShortAll]
  | x :: xs, h => by
    have h' : nice x = true ∧ niceAll xs = true := by simpa [niceAll] using h
    obtain ⟨a1, a2, a3⟩ := nice_facts x h'.1
    obtain ⟨b1, b2, b3⟩ := nice_factsAll xs h'.2
    simp only [PyData.hasDictAll, PyData.showableAll, PyData.leavesShortAll, a1, a2, a3, b1, b2, b3, Bool.or_self, Bool.and_self, and_self]
end
theorem shw {d : PyData} (h : nice d = true) (hd : d.depth ≤ 60) (hb : d.bulk ≤ 10000) : Shw d := by
  obtain ⟨a1, a2, a3⟩ := nice_facts d h
  refine ⟨a1, a2, hd, ?_⟩
  have q := PyData.shown_le_bulk 1201 (by decide) d a3
  have e2 : 16777216 ≤ sizeLine := by decide
  omega
section
variable {X : Cx}
def rRepr (K : PySem.W.Frag) : List V → Hp → VK → Prop := fun xs H Q => ∃ (x : V) (d : PyData), xs = [x] ∧ Dp K H x d ∧ Shw d ∧ Q (.str d.shown) H
theorem call_repr (hgd : X.A.guards = some []) (hu : X.A.units + 64 < cLine) : CallR X (.builtin "repr") (rRepr X.K) := by
  intro pins s σ H xs us Q I r h
  obtain ⟨x, d, rfl, hd, ⟨hn, hs, hp, hz⟩, q⟩ := h
  obtain ⟨u, rfl, ru⟩ := vals1 r
  obtain ⟨as, rd⟩ := Dp.reads I d x u hd ru
  have fin : ∀ h' t tk, (∀ b o, s.heap.get? b = some o → h'.get? b = some o) → EP X pins σ Q (.str d.shown t) { s with heap := h', toks := tk } :=
    fun h' t tk kp => ⟨.str d.shown, H, I.kept kp, ⟨t, rfl⟩, q⟩
  cases hd with
  | lst hl ha =>
    cases (show u = Value.ref _ from ru)
    exact repr_of_reads' rd hs (PyData.noDict_hsm hn) hgd (by omega) (fun _ _ e => e) fin hz
  | tup hl ha =>
    cases (show u = Value.ref _ from ru)
    exact repr_of_reads' rd hs (PyData.noDict_hsm hn) hgd (by omega) (fun _ _ e => e) fin hz
  | int i =>
    obtain ⟨t, rfl⟩ := (show ∃ t, u = Value.int i t from ru)
    have e : (PyData.int i).shown = ((toString i : String) : Str) := PyData.shown_int i
    rw [e] at q
    exact PySem.P.repr_of_int (by simpa [PyData.showable] using hs) ⟨.str _, H, I.tok _, ⟨_, rfl⟩, q⟩
  | non =>
    cases (show u = Value.none from ru)
    rw [PyData.shown_none] at q
    exact PySem.P.repr_of_none ⟨.str _, H, I.tok _, ⟨_, rfl⟩, q⟩
  | bl b =>
    cases (show u = Value.bool b from ru)
    rw [PyData.shown_bool] at q
    refine PySem.P.repr_of_bool ⟨.str _, H, I.tok _, ⟨_, rfl⟩, ?_⟩
    cases b <;> exact q
  | str x =>
    obtain ⟨t, rfl⟩ := (show ∃ t, u = Value.str x t from ru)
    rw [PyData.shown_str] at q hz
    exact PySem.P.repr_of_str ⟨.str _, H, I.tok _, ⟨_, rfl⟩, q⟩ hz
end
/-! ## Defs of the text as constants -/
structure DefAt (K : PySem.W.Frag) (mg : Str → Option Value) (x : Str) (st : Stmt) (ps : List Str) : Prop where
  ex : ∃ f fd, Fun K x x st f fd ∧ mg x = some (.ref f) ∧ ∀ us : List Value, us.length = ps.length → bindArgs fd ⟨us, []⟩ = pure (ps.zip us)
theorem defAt {K : PySem.W.Frag} {h : Heap} {mg : Str → Option Value} {x : Str} {st : Stmt} {ps : List Str} {f : Addr} {oc : Value} {od an : Option Addr} {osl : Array (Option Value)}
    {kV doc pm cdv ct : Value} (KX : K.In h) (gl : h.Ns mainGlobals mg)
    (hb : ∀ us : List Value, us.length = ps.length → bindArgs (PySem.W.fnOf x x (defArgs st) (defBody st) (defScope st) .none kV doc pm an cdv ct) ⟨us, []⟩ = pure (ps.zip us))
    (a : PySem.W.nsIn K mainGlobals x = some (some (.ref f)))
    (l : K.lookup f = some ⟨oc, od, .func (PySem.W.fnOf x x (defArgs st) (defBody st) (defScope st) .none kV doc pm an cdv ct), osl⟩)
    (c : PySem.W.codeIn K cdv x = true) (k : PySem.W.keepIn K (.ref f) = true) : DefAt K mg x st ps :=
  ⟨f, _, fun_mk l c k, PySem.W.mg_of KX gl a, hb⟩
structure CalG (P : Program) (w : World) (K : PySem.W.Frag) (mg : Str → Option Value) (base : Heap) (k : Nat) (x : Str) (ps : List Str) (sp : Sp) : Prop where
  ex : ∃ f fd, FnG P w K mg base CX0 k f fd ps sp ∧ mg x = some (.ref f) ∧ PySem.W.keepIn K (.ref f) = true ∧ Binds K fd ps []
theorem calOk {P : Program} {w : World} {K : PySem.W.Frag} {mg : Str → Option Value} {base : Heap} {x : Str} {st : Stmt} {N ps : List Str} {k : Nat} {sp : Sp}
    (D : DefAt K mg x st ps) (S : FnScope N ps (defScope st)) (len : ∀ xs H Q E, sp xs H Q E → xs.length = ps.length)
    (hbody : ∀ (f : Addr) (cdv : Value) (A : Around) (out : List Env) (s : Shared) (H : Hp) (xs : List V) (Q : VK) (E : XK), A.guards = some [] →
      Room k (A.deeper (envOfC x (defScope st) s.heap.objs.size f cdv)) → sp xs H Q E →
      ∃ t, PSs (cxOf CX0 P w K mg base N x (defScope st) f cdv A out s H E).nox (defBody st) t ∧
        t { nx := fun _ H' => Q .non H', rt := Q } (start N xs) H) : CalG P w K mg base (k + 1) x ps sp := by
  obtain ⟨f, fd, F, m, b⟩ := D.ex
  exact ⟨f, fd, okG F S len (hbody f), m, F.kp, Binds.all b⟩
section
variable {X : Cx} {k j : Nat} {ps : List Str} {sp : Sp} {x : Str} {p pos : Pos} {e : Expr} {es : List Expr} {t : TA}
theorem pe_k (c : CalG X.prog X.w X.K X.mg X.base k x ps sp) (hgd : X.A.guards = some []) (hr : Room j X.A) (hk : k ≤ j) (hg : Gl X x) (ha : PA X (e :: es) t)
    (hdb : (x == ("__debug__" : Str)) = false := by decide)
    (he : starEach (e :: es) X.env = (false, eval e X.env) :: starEach es X.env := by rfl)
    (hpl : (backTo pos (starEach es X.env)).any (·.1) = false := by rfl) :
    PE X (.Call (.Name x p) (e :: es) [] pos) (tCall sp [] E0 t) := by
  obtain ⟨f, fd, F, m, kp, b⟩ := c.ex
  exact pe_g F hgd (hr.mono hk) hg m kp b .nil pass0 ha hdb he hpl
theorem pe_k0 (c : CalG X.prog X.w X.K X.mg X.base k x ps sp) (hgd : X.A.guards = some []) (hr : Room j X.A) (hk : k ≤ j) (hg : Gl X x)
    (hdb : (x == ("__debug__" : Str)) = false := by decide) : PE X (.Call (.Name x p) [] [] pos) (tCall sp [] E0 tNil) := by
  obtain ⟨f, fd, F, m, kp, b⟩ := c.ex
  exact pe_g0 F hgd (hr.mono hk) hg m kp b .nil pass0 hdb
end
/-- the law's own def, at the address that the row names -/
theorem lawOk {P : Program} {w : World} {K : PySem.W.Frag} {mg : Str → Option Value} {x y : Str} {st : Stmt} {N : List Str} {k : Nat} {sp : Sp} {fa : Addr}
    (hf : mg x = some (.ref fa)) (D : DefAt K mg x st [y]) (S : FnScope N [y] (defScope st)) (len : ∀ xs H Q E, sp xs H Q E → xs.length = [y].length)
    (hbody : ∀ base : Heap, K.In base → base.Ns mainGlobals mg → ∀ (f : Addr) (cdv : Value) (A : Around) (out : List Env) (s : Shared) (H : Hp) (xs : List V) (Q : VK) (E : XK), A.guards = some [] →
      Room k (A.deeper (envOfC x (defScope st) s.heap.objs.size f cdv)) → sp xs H Q E →
      ∃ t, PSs (cxOf CX0 P w K mg base N x (defScope st) f cdv A out s H E).nox (defBody st) t ∧
        t { nx := fun _ H' => Q .non H', rt := Q } (start N xs) H) :
    ∃ fd : FuncData, (∀ (s : Shared) (u : Value), BindsTo s fd ⟨[u], []⟩ [(y, u)]) ∧
      ∀ base : Heap, K.In base → base.Ns mainGlobals mg → FnG P w K mg base CX0 (k + 1) fa fd [y] sp := by
  obtain ⟨f, fd, F, m, b⟩ := D.ex
  obtain rfl : f = fa := by
    rw [m] at hf
    cases hf
    rfl
  exact ⟨fd, fun s u => .of_eq (b [u] rfl), fun base h1 h2 => okG F S len (hbody base h1 h2 f)⟩

section
variable {X : Cx} {x : Str} {pos : Pos}
theorem pe_gv {v : V} (hg : Gl X x) (h : ∃ u, X.mg x = some u ∧ RelV v u) (hd : (x == ("__debug__" : Str)) = false := by decide) : PE X (.Name x pos) (tC v) :=
  let ⟨_, hm, r⟩ := h
  pe_glob hg hm r hd
theorem pe_ty (n : String) (hg : Gl X x) (hm : X.mg x = none) (hv : bootBuiltins x = some (.type n)) (hn : x ≠ "__name__" := by decide) (hd : (x == ("__debug__" : Str)) = false := by decide) : PE X (.Name x pos) (tC (.ty n)) :=
  pe_bltn hg hm hv rfl hn hd
end
/-! ## Heaps: what is new, what is rolled -/
theorem same_new {H : Hp} {p : Addr} {o : HO} (h : H p = none) : Same H (upd H p o) := fun b u e => by
  rw [upd_ne (ne_of_none e h)]
  exact e
mutual
theorem Dp.grow {K : PySem.W.Frag} {H H' : Hp} (s : Same H H') : ∀ {x : V} {d : PyData}, Dp K H x d → Dp K H' x d
  | _, _, .non => .non
  | _, _, .bl b => .bl b
  | _, _, .int i => .int i
  | _, _, .str x => .str x
  | _, _, .lst h a => .lst (s.seq h) (DpAll.grow s a)
  | _, _, .tup h a => .tup (by
      rcases h with (h | ⟨o, h⟩) | h
      · exact .inl (.inl (s _ _ h))
      · exact .inl (.inr ⟨o, s _ _ h⟩)
      · exact .inr h) (DpAll.grow s a)
theorem DpAll.grow {K : PySem.W.Frag} {H H' : Hp} (s : Same H H') : ∀ {xs : List V} {ds : List PyData}, DpAll K H xs ds → DpAll K H' xs ds
  | _, _, .nil => .nil
  | _, _, .cons a b => .cons (Dp.grow s a) (DpAll.grow s b)
end
/-- the heap without what stands at d -/
def hide (d : Addr) (H : Hp) : Hp := fun b => if b = d then none else H b
theorem hide_ne {d b : Addr} {H : Hp} (h : b ≠ d) : hide d H b = H b := if_neg h
theorem hide_at {d : Addr} {H : Hp} : hide d H d = none := if_pos rfl
theorem hide_le {d : Addr} {H : Hp} : Same (hide d H) H := fun b o e => by
  by_cases h : b = d
  · subst h
    rw [hide_at] at e
    cases e
  · rw [hide_ne h] at e
    exact e
/-- the dice at d: three numbers -/
def DiceAt (H : Hp) (d : Addr) : Prop := ∃ l s c : Int, H d = some (.lst [.int l, .int s, .int c])
/-- from H to H': the dice at d may have been rolled, what else stood stands -/
structure Mv (d : Addr) (H H' : Hp) : Prop where
  same : Same (hide d H) (hide d H')
  dice : DiceAt H' d
theorem Mv.refl {d : Addr} {H : Hp} (h : DiceAt H d) : Mv d H H := ⟨Same.refl _, h⟩
theorem Mv.trans {d : Addr} {H H1 H2 : Hp} (a : Mv d H H1) (b : Mv d H1 H2) : Mv d H H2 := ⟨a.same.trans b.same, b.dice⟩
theorem Mv.get {d : Addr} {H H' : Hp} (a : Mv d H H') {b : Addr} {o : HO} (n : b ≠ d) (h : H b = some o) : H' b = some o := by
  have := a.same b o (by rw [hide_ne n]; exact h)
  rw [hide_ne n] at this
  exact this
theorem Mv.free {d : Addr} {H H' : Hp} (a : Mv d H H') {p : Addr} (h : H' p = none) : H p = none := by
  by_cases e : p = d
  · subst e
    obtain ⟨l, s, c, q⟩ := a.dice
    rw [q] at h
    cases h
  · match q : H p with
    | none => rfl
    | some o =>
      rw [a.get e q] at h
      cases h
theorem DiceAt.ne {d p : Addr} {H : Hp} (h : DiceAt H d) (n : H p = none) : p ≠ d := fun e => by
  obtain ⟨l, s, c, q⟩ := h
  rw [e, q] at n
  cases n
theorem hide_new {d p : Addr} {H : Hp} {o : HO} (n : p ≠ d) : hide d (upd H p o) = upd (hide d H) p o := by
  funext b
  by_cases h1 : b = d
  · subst h1
    rw [hide_at, upd_ne n.symm, hide_at]
  · rw [hide_ne h1]
    by_cases h2 : b = p
    · subst h2
      rw [upd_same, upd_same]
    · rw [upd_ne h2, upd_ne h2, hide_ne h1]
theorem Mv.new {d p : Addr} {H H' : Hp} {o : HO} (a : Mv d H H') (n : H' p = none) : Mv d H (upd H' p o) := by
  have ne := a.dice.ne n
  refine ⟨fun b u e => ?_, ?_⟩
  · rw [hide_new ne]
    refine same_new ?_ b u (a.same b u e)
    rw [hide_ne ne]
    exact n
  · obtain ⟨l, s, c, q⟩ := a.dice
    exact ⟨l, s, c, by rw [upd_ne ne.symm]; exact q⟩
/-- an own list (new since H) changed -/
theorem Mv.set {d p : Addr} {H H' : Hp} {o : HO} (a : Mv d H H') (n : H p = none) (ne : p ≠ d) : Mv d H (upd H' p o) := by
  refine ⟨fun b u e => ?_, ?_⟩
  · rw [hide_new ne]
    have nb : b ≠ p := fun q => by
      rw [q, hide_ne ne, n] at e
      cases e
    rw [upd_ne nb]
    exact a.same b u e
  · obtain ⟨l, s, c, q⟩ := a.dice
    exact ⟨l, s, c, by rw [upd_ne ne.symm]; exact q⟩
theorem same_new2 {H : Hp} {p : Addr} {o u : HO} (h : H p = none) : Same H (upd (upd H p o) p u) := by
  rw [upd_upd]
  exact same_new h
theorem Mv.new2 {d p : Addr} {H H' : Hp} {o u : HO} (a : Mv d H H') (n : H' p = none) : Mv d H (upd (upd H' p o) p u) := by
  rw [upd_upd]
  exact a.new n
theorem Mv.rolled {d : Addr} {H H' : Hp} {l s c : Int} (a : Mv d H H') : Mv d H (upd H' d (.lst [.int l, .int s, .int c])) := by
  refine ⟨fun b u e => ?_, l, s, c, upd_same⟩
  have q := a.same b u e
  by_cases h : b = d
  · subst h
    rw [hide_at] at q
    cases q
  · rw [hide_ne h] at q ⊢
    rw [upd_ne h]
    exact q
theorem Mv.sql {K : PySem.W.Frag} {d a : Addr} {H H' : Hp} {xs : List V} (m : Mv d H H') (n : a ≠ d) (h : SqL K H a xs) : SqL K H' a xs := by
  rcases h with (h | ⟨o, h⟩) | h
  · exact .inl (.inl (m.get n h))
  · exact .inl (.inr ⟨o, m.get n h⟩)
  · exact .inr h
theorem Mv.dp {K : PySem.W.Frag} {d : Addr} {H H' : Hp} {x : V} {dat : PyData} (m : Mv d H H') (h : Dp K (hide d H) x dat) : Dp K (hide d H') x dat := Dp.grow m.same h
theorem Dp.seen {K : PySem.W.Frag} {d : Addr} {H : Hp} {x : V} {dat : PyData} (h : Dp K (hide d H) x dat) : Dp K H x dat := Dp.grow hide_le h

theorem mul60 : CMulW (10 ^ Int.toNat 60) (10 ^ Int.toNat 60) := by
  unfold CMulW
  decide +kernel
theorem pos60 : (0 : Int) < 10 ^ Int.toNat 60 * 10 ^ Int.toNat 60 := by decide +kernel
theorem mul45 : CMulW (10 ^ Int.toNat 45) (10 ^ Int.toNat 45) := by
  unfold CMulW
  decide +kernel
/-! ## the promises of the dice -/
def spDice (K : PySem.W.Frag) : Sp := fun vs H Q _ => ∃ (a : Addr) (ns : List Int) (i : Nat), vs = [.ref a, .int (i : Int)] ∧ SqL K H a (ns.map V.int) ∧ ns.length ≤ 1000 ∧
  ∀ (p : Addr) (l s c : Int), H p = none → Q (.ref p) (upd H p (.lst [.int l, .int s, .int c]))
def spRoll : Sp := fun vs H Q _ => ∃ (d : Addr) (t : Int), vs = [.ref d, .int t] ∧ DiceAt H d ∧ 0 < t ∧ t.natAbs.log2 < 9000 ∧
  ∀ (r : Int) (H' : Hp), 0 ≤ r → r < t → Mv d H H' → (∀ b, H b = none → H' b = none) → Q (.int r) H'
def spPick (K : PySem.W.Frag) : Sp := fun vs H Q _ => ∃ (d a : Addr) (xs : List V), vs = [.ref d, .ref a] ∧ DiceAt H d ∧ SqL K H a xs ∧ a ≠ d ∧ 0 < xs.length ∧ xs.length ≤ 1000 ∧
  ∀ (i : Nat) (x : V) (H' : Hp), xs[i]? = some x → Mv d H H' → (∀ b, H b = none → H' b = none) → Q x H'
theorem DpAll.map {K : PySem.W.Frag} {H : Hp} {α : Type} (f : α → V) (g : α → PyData) : ∀ (xs : List α), (∀ x ∈ xs, Dp K H (f x) (g x)) → DpAll K H (xs.map f) (xs.map g)
  | [], _ => .nil
  | x :: r, h => .cons (h x List.mem_cons_self) (DpAll.map f g r fun y hy => h y (List.mem_cons_of_mem _ hy))
theorem canAll {α : Type} (g : α → PyData) : ∀ (xs : List α), (∀ x ∈ xs, (g x).canLay0 = true) → PyData.canLayAll0 (xs.map g) = true
  | [], _ => by simp [PyData.canLayAll0]
  | x :: r, h => by
    simp only [List.map_cons, PyData.canLayAll0, h x List.mem_cons_self, canAll g r fun y hy => h y (List.mem_cons_of_mem _ hy), Bool.and_self]
theorem depthAll0 {α : Type} (n : Nat) (g : α → PyData) : ∀ (xs : List α), (∀ x ∈ xs, (g x).depth ≤ n) → PyData.depthAll (xs.map g) ≤ n
  | [], _ => by simp [PyData.depthAll]
  | x :: r, h => by
    have h1 := h x List.mem_cons_self
    have h2 := depthAll0 n g r fun y hy => h y (List.mem_cons_of_mem _ hy)
    simp only [List.map_cons, PyData.depthAll]
    omega

/-! ## readings by statements: what an expression's reading hands on is said in one place -/
section
variable {te : TE} {tt : TT} {i : Nat} {t1 t2 rest : TS} {D : Ends} {σ : L2.St} {H : Hp}
theorem go_nx {t : TS} {r : VK} {b c : L2.St → Hp → Prop} (h : t D σ H) : Ends.nx ⟨t D, r, b, c⟩ σ H := h
theorem a_set (R : V → Hp → Prop) (h : ∀ Q' : VK, (∀ v H', R v H' → Q' v H') → te σ H Q') (k : ∀ v H', R v H' → rest D (σ.set i (some v)) H') :
    tSeq (tAsg te (gName i)) rest D σ H := h _ k
theorem a_set1 (R : V → Hp → Prop) (h : ∀ Q' : VK, (∀ v H', R v H' → Q' v H') → te σ H Q') (k : ∀ v H', R v H' → D.nx (σ.set i (some v)) H') :
    tAsg te (gName i) D σ H := h _ k
theorem a_ret (R : V → Hp → Prop) (h : ∀ Q' : VK, (∀ v H', R v H' → Q' v H') → te σ H Q') (k : ∀ v H', R v H' → D.rt v H') : tRet te D σ H := h _ k
theorem a_if (R : Bool → Hp → Prop) (h : ∀ Q' : Bool → Hp → Prop, (∀ b H', R b H' → Q' b H') → tt σ H Q') (k1 : ∀ H', R true H' → t1 { D with nx := rest D } σ H') (k2 : ∀ H', R false H' → t2 { D with nx := rest D } σ H') :
    tSeq (tIfS tt t1 t2) rest D σ H := h _ fun b H' r => by
  cases b with
  | true => exact iteT (k1 H' r)
  | false => exact iteF (k2 H' r)
theorem a_if1 (R : Bool → Hp → Prop) (h : ∀ Q' : Bool → Hp → Prop, (∀ b H', R b H' → Q' b H') → tt σ H Q') (k1 : ∀ H', R true H' → t1 D σ H') (k2 : ∀ H', R false H' → t2 D σ H') :
    tIfS tt t1 t2 D σ H := h _ fun b H' r => by
  cases b with
  | true => exact iteT (k1 H' r)
  | false => exact iteF (k2 H' r)
end
end G

set_option Elab.async false
set_option linter.all false
set_option maxRecDepth 100000
set_option maxHeartbeats 2000000
namespace G
open PySem PySem.Spec PyProof.Rows L2
/-! ## values as data, dicts among them -/
def keyD : Key → PyData
  | .inl i => .int i
  | .inr z => .str z
mutual
inductive Dx (H : Hp) : V → PyData → Prop
  | non : Dx H .non .none
  | bl (b : Bool) : Dx H (.bl b) (.bool b)
  | int (i : Int) : Dx H (.int i) (.int i)
  | str (x : Str) : Dx H (.str x) (.str x)
  | lst {a : Addr} {xs : List V} {ds : List PyData} : H a = some (.lst xs) → DxAll H xs ds → Dx H (.ref a) (.list ds)
  | tup {a : Addr} {xs : List V} {ds : List PyData} : H a = some (.tup xs) → DxAll H xs ds → Dx H (.ref a) (.tuple ds)
  | dct {a : Addr} {kvs : List (Key × V)} {ps : List (PyData × PyData)} : H a = some (.dK kvs) → DxKv H kvs ps → Dx H (.ref a) (.dict ps)
inductive DxAll (H : Hp) : List V → List PyData → Prop
  | nil : DxAll H [] []
  | cons {v : V} {vs : List V} {d : PyData} {ds : List PyData} : Dx H v d → DxAll H vs ds → DxAll H (v :: vs) (d :: ds)
inductive DxKv (H : Hp) : List (Key × V) → List (PyData × PyData) → Prop
  | nil : DxKv H [] []
  | cons {k : Key} {v : V} {r : List (Key × V)} {d : PyData} {ps : List (PyData × PyData)} : Dx H v d → DxKv H r ps → DxKv H ((k, v) :: r) ((keyD k, d) :: ps)
end
mutual
theorem Dx.grow {H H' : Hp} (s : Same H H') : ∀ {x : V} {d : PyData}, Dx H x d → Dx H' x d
  | _, _, .non => .non
  | _, _, .bl b => .bl b
  | _, _, .int i => .int i
  | _, _, .str x => .str x
  | _, _, .lst h a => .lst (s _ _ h) (DxAll.grow s a)
  | _, _, .tup h a => .tup (s _ _ h) (DxAll.grow s a)
  | _, _, .dct h a => .dct (s _ _ h) (DxKv.grow s a)
theorem DxAll.grow {H H' : Hp} (s : Same H H') : ∀ {xs : List V} {ds : List PyData}, DxAll H xs ds → DxAll H' xs ds
  | _, _, .nil => .nil
  | _, _, .cons a b => .cons (Dx.grow s a) (DxAll.grow s b)
theorem DxKv.grow {H H' : Hp} (s : Same H H') : ∀ {xs : List (Key × V)} {ds : List (PyData × PyData)}, DxKv H xs ds → DxKv H' xs ds
  | _, _, .nil => .nil
  | _, _, .cons a b => .cons (Dx.grow s a) (DxKv.grow s b)
end
mutual
theorem Dx.dp {K : PySem.W.Frag} {H : Hp} : ∀ {x : V} {d : PyData}, Dx H x d → d.hasDict = false → Dp K H x d
  | _, _, .non, _ => .non
  | _, _, .bl b, _ => .bl b
  | _, _, .int i, _ => .int i
  | _, _, .str x, _ => .str x
  | _, _, .lst h a, n => .lst (SqL.of h) (DxAll.dp a (by simpa [PyData.hasDict] using n))
  | _, _, .tup h a, n => .tup (SqT.of h) (DxAll.dp a (by simpa [PyData.hasDict] using n))
  | _, _, .dct h a, n => by simp [PyData.hasDict] at n
theorem DxAll.dp {K : PySem.W.Frag} {H : Hp} : ∀ {xs : List V} {ds : List PyData}, DxAll H xs ds → PyData.hasDictAll ds = false → DpAll K H xs ds
  | _, _, .nil, _ => .nil
  | _, _, .cons a b, n => by
    rw [PyData.hasDictAll, Bool.or_eq_false_iff] at n
    exact .cons (Dx.dp a n.1) (DxAll.dp b n.2)
end
theorem DxAll.len {H : Hp} : ∀ {xs : List V} {ds : List PyData}, DxAll H xs ds → xs.length = ds.length
  | _, _, .nil => rfl
  | _, _, .cons _ b => by rw [List.length_cons, List.length_cons, DxAll.len b]
theorem DxAll.at {H : Hp} : ∀ {xs : List V} {ds : List PyData}, DxAll H xs ds → ∀ (i : Nat) (d : PyData), ds[i]? = some d → ∃ x, xs[i]? = some x ∧ Dx H x d
  | _, _, .nil, _, _, e => by cases e
  | _, _, .cons a b, 0, d, e => by
    cases e
    exact ⟨_, rfl, a⟩
  | _, _, .cons a b, i + 1, d, e => DxAll.at b i d e
theorem DxAll.get {H : Hp} : ∀ {xs : List V} {ds : List PyData}, DxAll H xs ds → ∀ (i : Nat) (x : V), xs[i]? = some x → ∃ d, ds[i]? = some d ∧ Dx H x d
  | _, _, .nil, _, _, e => by cases e
  | _, _, .cons a b, 0, d, e => by
    cases e
    exact ⟨_, rfl, a⟩
  | _, _, .cons a b, i + 1, d, e => DxAll.get b i d e
theorem DxAll.append {H : Hp} : ∀ {xs ys : List V} {ds es : List PyData}, DxAll H xs ds → DxAll H ys es → DxAll H (xs ++ ys) (ds ++ es)
  | _, _, _, _, .nil, h => h
  | _, _, _, _, .cons a b, h => .cons a (DxAll.append b h)
theorem DxAll.take {H : Hp} : ∀ {xs : List V} {ds : List PyData} (n : Nat), DxAll H xs ds → DxAll H (xs.take n) (ds.take n)
  | _, _, 0, _ => .nil
  | _, _, _ + 1, .nil => .nil
  | _, _, n + 1, .cons a b => .cons a (DxAll.take n b)
theorem DxAll.drop {H : Hp} : ∀ {xs : List V} {ds : List PyData} (n : Nat), DxAll H xs ds → DxAll H (xs.drop n) (ds.drop n)
  | _, _, 0, h => h
  | _, _, _ + 1, .nil => .nil
  | _, _, n + 1, .cons a b => DxAll.drop n b
theorem DxAll.rep {H : Hp} {x : V} {d : PyData} (h : Dx H x d) : ∀ n, DxAll H (List.replicate n x) (List.replicate n d)
  | 0 => .nil
  | n + 1 => .cons h (DxAll.rep h n)
def tyName : PyData → String
  | .none => "NoneType" | .bool _ => "bool" | .int _ => "int" | .str _ => "str" | .list _ => "list" | .tuple _ => "tuple" | .dict _ => "dict"
theorem Dx.ty {K : PySem.W.Frag} {H : Hp} {x : V} {d : PyData} (h : Dx H x d) : TyX K H x (.type (tyName d)) := by
  cases h with
  | non => exact .base .non
  | bl b => exact .base (.bl b)
  | int i => exact .base (.int i)
  | str x => exact .base (.str x)
  | lst h _ => exact .base (.lst h)
  | tup h _ => exact .base (.tup h)
  | dct h _ => exact .base (.dK h)
theorem Same.put {H H' : Hp} {p : Addr} {o : HO} (s : Same H H') (n : H p = none) : Same H (upd H' p o) := fun b u e => by
  rw [upd_ne (ne_of_none e n)]
  exact s b u e
/-- a judge: what it says hangs on the value's data alone -/
def spJ (f : PyData → Bool) : Sp := fun vs H Q _ => ∃ (x : V) (d : PyData), vs = [x] ∧ Dx H x d ∧ ∀ H', Same H H' → Q (.bl (f d)) H'
theorem Mv.ofSame {d : Addr} {H H1 H2 : Hp} (a : Mv d H H1) (s : Same H1 H2) : Mv d H H2 := by
  refine ⟨fun b u e => ?_, ?_⟩
  · have q := a.same b u e
    by_cases h : b = d
    · subst h
      rw [hide_at] at q
      cases q
    · rw [hide_ne h] at q ⊢
      exact s _ _ q
  · obtain ⟨l, t, c, q⟩ := a.dice
    exact ⟨l, t, c, s _ _ q⟩
theorem Mv.dx {d : Addr} {H H' : Hp} {x : V} {dat : PyData} (m : Mv d H H') (h : Dx (hide d H) x dat) : Dx (hide d H') x dat := Dx.grow m.same h
theorem Dx.seen {d : Addr} {H : Hp} {x : V} {dat : PyData} (h : Dx (hide d H) x dat) : Dx H x dat := Dx.grow hide_le h

/-! ## the program's judges of forms and rows, as functions of data -/
abbrev BIG : Int := 1000000000000000000000000000000000000000000000000000000000000
def smallB (i : Int) : Bool := decide (-BIG < i) && decide (i < BIG)
def intB : PyData → Bool
  | .int i => smallB i
  | _ => false
def pairB : PyData → Bool
  | .tuple [a, b] => intB a && intB b
  | _ => false
def sideB : PyData → Bool
  | .int i => decide (0 ≤ i) && decide (i ≤ 7)
  | _ => false
def formB : PyData → Bool
  | .tuple [a, b] => sideB a && sideB b
  | _ => false
def formsB : PyData → Bool
  | .tuple ds => decide (ds.length ≤ 200) && ds.all formB
  | _ => false
def zeroD : PyData := .tuple [.int 0, .int 0]
def rowB : PyData → Bool
  | .tuple ds => formsB (.tuple ds) && (ds.isEmpty || !PyData.eqv (ds.getLastD .none) zeroD)
  | _ => false

section
variable {X : Cx}
/-- min and max of a tuple of two numbers -/
def rBest (f : Int → Int → Int) : List V → Hp → VK → Prop := fun vs H Q => ∃ (a : Addr) (i j : Int), vs = [.ref a] ∧ H a = some (.tup [.int i, .int j]) ∧ Q (.int (f i j)) H
open PySem.W in
theorem cr_max2T (hc : X.calm = true) (hu : X.A.units + 64 < cLine) : CallR X (.builtin "max") (rBest max) := by
  intro pins s σ H vs us Q I r h
  obtain ⟨a, i, j, rfl, ha, q⟩ := h
  rw [Vals.ref1 r]
  obtain ⟨its, rv, hl, _⟩ := I.tuple (SqT.of (K := X.K) ha)
  obtain ⟨u1, u2, rfl, r1, r2⟩ := vals2 rv
  obtain ⟨t1, rfl⟩ := (show ∃ t, u1 = Value.int i t from r1)
  obtain ⟨t2, rfl⟩ := (show ∃ t, u2 = Value.int j t from r2)
  refine max_tuple_data (x := .int i) (xs := [.int j]) (I.ok.hd hc) hl (.cons (.int i t1) (.cons (.int j t2) .nil)) ?_ ?_ fun k v h' tk bs hv rd kp => ?_
  · exact ⟨fun x hx y hy => by
      rcases List.mem_cons.mp hx with rfl | hx <;> rcases List.mem_cons.mp hy with rfl | hy
      · rfl
      · rw [List.mem_singleton.mp hy]; rfl
      · rw [List.mem_singleton.mp hx]; rfl
      · rw [List.mem_singleton.mp hy, List.mem_singleton.mp hx]; rfl, fun x hx z => by
      rcases List.mem_cons.mp hx with rfl | hx
      · cases z
      · rw [List.mem_singleton.mp hx] at z
        cases z⟩
  · have e : PyData.depthAll [.int i, .int j] = 0 := by simp [PyData.depthAll, PyData.depth]
    rw [e]
    omega
  · have e : maxD (.int i) [.int j] = .int (max i j) := maxD_ints i [j]
    rw [e] at rd
    cases rd with
    | int _ t => exact ⟨.int _, H, I.kept kp, ⟨t, rfl⟩, q⟩
open PySem.W in
theorem cr_min2T (hc : X.calm = true) (hu : X.A.units + 64 < cLine) : CallR X (.builtin "min") (rBest min) := by
  intro pins s σ H vs us Q I r h
  obtain ⟨a, i, j, rfl, ha, q⟩ := h
  rw [Vals.ref1 r]
  obtain ⟨its, rv, hl, _⟩ := I.tuple (SqT.of (K := X.K) ha)
  obtain ⟨u1, u2, rfl, r1, r2⟩ := vals2 rv
  obtain ⟨t1, rfl⟩ := (show ∃ t, u1 = Value.int i t from r1)
  obtain ⟨t2, rfl⟩ := (show ∃ t, u2 = Value.int j t from r2)
  refine min_tuple_data (x := .int i) (xs := [.int j]) (I.ok.hd hc) hl (.cons (.int i t1) (.cons (.int j t2) .nil)) ?_ ?_ fun k v h' tk bs hv rd kp => ?_
  · exact ⟨fun x hx y hy => by
      rcases List.mem_cons.mp hx with rfl | hx <;> rcases List.mem_cons.mp hy with rfl | hy
      · rfl
      · rw [List.mem_singleton.mp hy]; rfl
      · rw [List.mem_singleton.mp hx]; rfl
      · rw [List.mem_singleton.mp hy, List.mem_singleton.mp hx]; rfl, fun x hx z => by
      rcases List.mem_cons.mp hx with rfl | hx
      · cases z
      · rw [List.mem_singleton.mp hx] at z
        cases z⟩
  · have e : PyData.depthAll [.int i, .int j] = 0 := by simp [PyData.depthAll, PyData.depth]
    rw [e]
    omega
  · have e : minD (.int i) [.int j] = .int (min i j) := minD_ints i [j]
    rw [e] at rd
    cases rd with
    | int _ t => exact ⟨.int _, H, I.kept kp, ⟨t, rfl⟩, q⟩
end
/-! ## tuples put together, cut and repeated, over data -/
theorem fresh_same {d p : Addr} {H : Hp} {o : HO} (hd : DiceAt H d) (n : H p = none) : Same (hide d H) (hide d (upd H p o)) := ((Mv.refl hd).new n).same
theorem OpR.to {X : Cx} {f : Value → Value → Sem Value} {r r' : R2} (h : OpR X f r) (i : ∀ x y H Q, r' x y H Q → r x y H Q) : OpR X f r' :=
  fun pins s σ H x y v u Q I rx ry q => h pins s σ H x y v u Q I rx ry (i _ _ _ _ q)
theorem Dx.tupOf {H : Hp} {x : V} {ds : List PyData} (h : Dx H x (.tuple ds)) : ∃ a xs, x = .ref a ∧ H a = some (.tup xs) ∧ DxAll H xs ds := by
  cases h with
  | tup h1 h2 => exact ⟨_, _, rfl, h1, h2⟩
def rCatD : R2 := fun x y H Q => ∃ (d : Addr) (ds es : List PyData), DiceAt H d ∧ Dx (hide d H) x (.tuple ds) ∧ Dx (hide d H) y (.tuple es) ∧ ds.length + es.length ≤ 100000 ∧
  ∀ v H', Mv d H H' → Dx (hide d H') v (.tuple (ds ++ es)) → Q v H'
theorem op_catD {X : Cx} : OpR X (binaryOp .Add) rCatD := by
  refine OpR.to op_catA fun x y H Q h => ?_
  obtain ⟨d, ds, es, hd, hx, hy, hl, k⟩ := h
  obtain ⟨a, xs, rfl, ha, hxs⟩ := hx.tupOf
  obtain ⟨b, ys, rfl, hb, hys⟩ := hy.tupOf
  have l1 := hxs.len
  have l2 := hys.len
  refine ⟨a, b, xs, ys, rfl, rfl, SqT.of (hide_le _ _ ha), SqT.of (hide_le _ _ hb), Nat.le_trans (show xs.length + ys.length ≤ 100000 by omega) (by decide), fun e => ?_, fun _ e => ?_, fun _ _ p np => ?_⟩
  · subst e
    cases hxs
    exact k _ _ (Mv.refl hd) hy
  · subst e
    cases hys
    refine k _ _ (Mv.refl hd) ?_
    rw [List.append_nil]
    exact hx
  · refine k _ _ ((Mv.refl hd).new np) (.tup (by rw [hide_ne (hd.ne np)]; exact upd_same) (DxAll.grow (fresh_same hd np) (hxs.append hys)))
/-- the part of a tuple that a slice takes -/
def cutD (ds : List PyData) (lo hi : Option Int) : List PyData := (ds.drop (HT.sIx ds.length 0 lo)).take (HT.sIx ds.length ds.length hi - HT.sIx ds.length 0 lo)
def rSlD : V → Option Int → Option Int → Hp → VK → Prop := fun x lo hi H Q => ∃ (d : Addr) (ds : List PyData), DiceAt H d ∧ Dx (hide d H) x (.tuple ds) ∧
  ∀ v H', Mv d H H' → Dx (hide d H') v (.tuple (cutD ds lo hi)) → Q v H'
theorem sl_tupD {X : Cx} : SlR X rSlD := by
  intro pins s σ H x v vl vu lo hi sl Q I rx hs pl pu h
  obtain ⟨d, ds, hd, hx, k⟩ := h
  obtain ⟨a, xs, rfl, ha, hxs⟩ := hx.tupOf
  have l1 := hxs.len
  refine sl_tupA pins s σ H (.ref a) v vl vu lo hi sl Q I rx hs pl pu ⟨a, xs, rfl, SqT.of (hide_le _ _ ha), fun e => ?_, fun _ p np => ?_⟩
  · refine k _ _ (Mv.refl hd) ?_
    have e2 : cutD ds lo hi = ds := by
      unfold cutD
      rw [← l1, e.1, e.2]
      simp [l1]
    rw [e2]
    exact hx
  · refine k _ _ ((Mv.refl hd).new np) (.tup (by rw [hide_ne (hd.ne np)]; exact upd_same) (DxAll.grow (fresh_same hd np) ?_))
    have e2 : cutV xs lo hi = (xs.drop (HT.sIx ds.length 0 lo)).take (HT.sIx ds.length ds.length hi - HT.sIx ds.length 0 lo) := by
      unfold cutV
      rw [l1]
    rw [e2]
    exact (hxs.drop _).take _
def rRepD : R2 := fun x y H Q => ∃ (d : Addr) (k : Int) (ds : List PyData), y = .int k ∧ DiceAt H d ∧ Dx (hide d H) x (.tuple ds) ∧ ds ≠ [] ∧ 2 ≤ k ∧ k ≤ 1000 ∧ ds.length ≤ 1000 ∧
  ∀ v H', Mv d H H' → Dx (hide d H') v (.tuple (List.replicate k.toNat ds).flatten) → Q v H'
theorem DxAll.flat {H : Hp} {xs : List V} {ds : List PyData} (h : DxAll H xs ds) : ∀ n, DxAll H (List.replicate n xs).flatten (List.replicate n ds).flatten
  | 0 => .nil
  | n + 1 => by
    rw [List.replicate_succ, List.replicate_succ, List.flatten_cons, List.flatten_cons]
    exact h.append (DxAll.flat h n)
theorem op_repD {X : Cx} : OpR X (binaryOp .Mult) rRepD := by
  refine OpR.to op_repT fun x y H Q h => ?_
  obtain ⟨d, n, ds, rfl, hd, hx, h0, h2, h3, h4, k⟩ := h
  obtain ⟨a, xs, rfl, ha, hxs⟩ := hx.tupOf
  have l1 := hxs.len
  refine ⟨a, n, xs, rfl, rfl, SqT.of (hide_le _ _ ha), fun e => ?_, h2, h3, by omega, fun p np => ?_⟩
  · subst e
    cases hxs
    exact h0 rfl
  · exact k _ _ ((Mv.refl hd).new np) (.tup (by rw [hide_ne (hd.ne np)]; exact upd_same) (DxAll.grow (fresh_same hd np) (hxs.flat n.toNat)))
/-- a value picked out of a list of known data -/
theorem picked {d : Addr} {H H' : Hp} {xs : List V} {ds : List PyData} {i : Nat} {x : V} (h : DxAll (hide d H) xs ds) (m : Mv d H H') (e : xs[i]? = some x) : ∃ dat, dat ∈ ds ∧ Dx (hide d H') x dat := by
  obtain ⟨dat, h1, h2⟩ := h.get i x e
  exact ⟨dat, List.mem_of_getElem? h1, h2.grow m.same⟩
end G

set_option Elab.async false
set_option linter.all false
set_option maxRecDepth 100000
set_option maxHeartbeats 4000000
namespace G
open PySem PySem.Spec PyProof.Rows L2 HT
/-! ## a tuple read backwards: t[::-1] -/
theorem all_places {α : Type} : ∀ l : List α, (List.range l.length).filterMap (fun k => l[k]?) = l
  | [] => rfl
  | x :: r => by
    have ih := all_places r
    rw [List.length_cons, List.range_succ_eq_map, List.filterMap_cons]
    show x :: List.filterMap (fun k => (x :: r)[k]?) (List.map Nat.succ (List.range r.length)) = x :: r
    rw [List.filterMap_map]
    exact congrArg (x :: ·) ih
theorem fm_congr {α β : Type} {f g : α → Option β} : ∀ l : List α, (∀ x ∈ l, f x = g x) → l.filterMap f = l.filterMap g
  | [], _ => rfl
  | x :: r, h => by
    rw [List.filterMap_cons, List.filterMap_cons, h x List.mem_cons_self, fm_congr r fun y hy => h y (List.mem_cons_of_mem _ hy)]
theorem back_items (xs : Array Value) : ((List.range xs.size).filterMap fun (k : Nat) => xs[(((xs.size : Int) - 1) + (k : Int) * (-1)).toNat]?).toArray = xs.toList.reverse.toArray := by
  congr 1
  have e := all_places xs.toList.reverse
  rw [List.length_reverse, Array.length_toList] at e
  rw [← e]
  refine fm_congr _ fun k hk => ?_
  have hk' : k < xs.size := List.mem_range.mp hk
  rw [show (((xs.size : Int) - 1) + (k : Int) * (-1)).toNat = xs.size - 1 - k by omega]
  rw [← Array.getElem?_toList, List.getElem?_reverse (by rw [Array.length_toList]; exact hk'), Array.length_toList]
section
variable {prog : Program} {w : World} {A : Around} {E : Value → Shared → Prop} {s : Shared}
theorem applied_back {sl : Addr} {vl vu vs : Value} {n : Nat} {Q : Int × Int × Nat → Shared → Prop} (hs : s.heap.IsSliceOf sl vl vu vs) (pl : IsPart vl none) (pu : IsPart vu none) (ps : IsPart vs (some (-1)))
    (h : Q ((n : Int) - 1, -1, n) s) : wpAny (model prog w) A (Builtin.Slice.sliceApplied (.ref sl) (pure (n : Int))) Q E s := by
  obtain ⟨so, so1, so2, so3⟩ := id hs
  unfold Builtin.Slice.sliceApplied Builtin.Slice.sliceFields
  refine wpAny_bind (wpAny_bind (wpAny_field so1 so3 (x := vl) rfl (wpAny_bind (wpAny_field so1 so3 (x := vu) rfl (wpAny_bind (wpAny_field so1 so3 (x := vs) rfl (wpAny_pure ?_)))))))
  refine wpAny_bind (slicePart_ ps ?_)
  show wpAny _ _ (if ((-1 : Int) == 0) = true then _ else _) _ _ s
  rw [if_neg (by decide)]
  refine wpAny_bind (slicePart_ pl (wpAny_bind (slicePart_ pu (wpAny_bind (wpAny_pure ?_)))))
  have e1 : Builtin.Slice.sliceAdjust none none (-1) (n : Int) = ((n : Int) - 1, -1) := rfl
  have e2 : Builtin.Slice.slicePlaces ((n : Int) - 1) (-1) (-1) = n := by
    unfold Builtin.Slice.slicePlaces
    rw [if_neg (by decide)]
    by_cases q : (n : Int) - 1 > -1
    · rw [if_pos q]
      have : ((n : Int) - 1 - -1 - 1) / - -1 = (n : Int) - 1 - -1 - 1 := by
        rw [Int.neg_neg, Int.ediv_one]
      rw [this]
      omega
    · rw [if_neg q]
      omega
  show wpAny _ _ (match Builtin.Slice.sliceAdjust none none (-1) (n : Int) with | (lo, hi) => pure (lo, (-1 : Int), Builtin.Slice.slicePlaces lo hi (-1))) _ _ s
  rw [e1]
  show wpAny _ _ (pure ((n : Int) - 1, (-1 : Int), Builtin.Slice.slicePlaces ((n : Int) - 1) (-1) (-1))) _ _ s
  rw [e2]
  exact wpAny_pure h
theorem item_back {t sl : Addr} {items : Array Value} {vl vu vs : Value} {Q : Value → Shared → Prop} (ht : IsTup s.heap t items) (hs : s.heap.IsSliceOf sl vl vu vs) (pl : IsPart vl none) (pu : IsPart vu none) (ps : IsPart vs (some (-1)))
    (h : Q (.ref s.heap.objs.size) { s with heap := s.heap.push { cls := .type "tuple", data := .seq items.toList.reverse.toArray } }) (hsz : items.size ≤ sizeLine) : wpAny (model prog w) A (getItem (.ref t) (.ref sl)) Q E s := by
  have fits : sizeOk (.seq items.toList.reverse.toArray) := by
    show items.toList.reverse.toArray.size ≤ sizeLine
    rw [List.size_toArray, List.length_reverse, Array.length_toList]
    exact hsz
  obtain ⟨so, so1, so2, so3⟩ := id hs
  have kind : s.TypeIs (.ref sl) "slice" := ⟨so, so1, so2⟩
  unfold getItem
  try with_reducible refine wpAny_holding ?_
  first | refine wpAny_bind (wpAny_pure ?_) | skip
  refine wpAny_bind (wpAny_sequenceKey ht.typeIs (by decide) ?_)
  refine wpAny_bind (wpAny_callSpecial?_slot (name := Str.ofString "__getitem__") ht.typeIs PyProof.Rows.slot_tuple_getitem (wpAny_call_entry PyProof.Rows.slot_tuple_getitem ht.typeIs entry_tuple_getitem ?_ (args_tuple_getitem _ _)))
  show wpAny _ _ (Builtin.Tuple.tupleItemsOf (.ref t) >>= _) _ _ s
  refine wpAny_bind (tupleItemsOf_ ht (wpAny_bind (wpAny_typeOf kind ?_)))
  rw [if_pos (by decide)]
  refine wpAny_bind (applied_back hs pl pu ps ?_)
  have part : ¬ ((((items.size : Int) - 1) == 0 && (-1 : Int) == 1 && items.size == items.size) = true) := by
    intro q
    rw [Bool.and_eq_true, Bool.and_eq_true] at q
    exact absurd q.1.2 (by decide)
  show wpAny _ _ (if (((items.size : Int) - 1) == 0 && (-1 : Int) == 1 && items.size == items.size) = true then _ else _) _ _ s
  rw [if_neg part, back_items]
  first
    | exact wpAny_bind (m := Builtin.Tuple.tupleExact _) (wpAny_newObj_type (wpAny_pure ⟨_, rfl, wpAny_pure h⟩) fits)
    | exact wpAny_bind (m := Builtin.Tuple.tupleExact _) (wpAny_newObj_type (wpAny_bind (wpAny_pure (wpAny_pure ⟨_, rfl, wpAny_pure h⟩))) fits)
    | exact wpAny_bind (wpAny_bind (m := Builtin.Tuple.tupleExact _) (wpAny_newObj_type (wpAny_pure (wpAny_pure ⟨_, rfl, wpAny_pure h⟩)) fits))
    | exact wpAny_bind (wpAny_bind (m := Builtin.Tuple.tupleExact _) (wpAny_newObj_type (wpAny_pure ⟨_, rfl, wpAny_pure h⟩) fits))
end
def tRevT (K : PySem.W.Frag) (te : TE) : TE := fun σ H Q => te σ H fun x H1 => ∃ a xs, x = .ref a ∧ SqT K H1 a xs ∧ ∀ p, H1 p = none → Q (.ref p) (upd H1 p (.tup xs.reverse))
theorem pe_revT {X : Cx} {e : Expr} {te : TE} {k : Nat} {p1 p2 p3 pos : Pos} (he : PE X e te) : PE X (.Subscript e (.Slice none none (some (.UnaryOp .USub (.Constant (.int 1) k p1) p2)) p3) pos) (tRevT X.K te) := by
  constructor
  intro pins s σ H Q I h
  refine Subscript_ (thn (he.run pins s σ H _ I h) fun v s1 hv => ?_)
  obtain ⟨x, H1, I1, r1, a, xs, rfl, hx, q⟩ := hv
  cases r1
  have stp : PO X (some (.UnaryOp .USub (.Constant (.int 1) k p1) p2)) (tPart (tUn (rU fun i => .int (-i)) (tC (.int 1)))) := po_some (pe_un un_neg pe_int)
  refine wpAny_Slice (thn (po_none.run pins s1 σ H1 (fun o G => o = none ∧ G = H1) I1 ⟨rfl, rfl⟩) fun vl s2 hl => ?_)
  obtain ⟨l, H2, I2, pl, rfl, rfl⟩ := hl
  refine thn (po_none.run pins s2 σ H2 (fun o G => o = none ∧ G = H2) I2 ⟨rfl, rfl⟩) fun vu s3 hu => ?_
  obtain ⟨u, H3, I3, pu, rfl, rfl⟩ := hu
  refine thn (stp.run pins s3 σ H3 (fun o G => o = some (-1) ∧ G = H3) I3 ⟨1, rfl, -1, rfl, rfl, rfl⟩) fun vs s4 ho => ?_
  obtain ⟨o, H4, I4, ps, rfl, rfl⟩ := ho
  have I5 : Inv X pins σ H4 { s4 with heap := s4.heap.push { cls := .type "slice", data := .fields #[vl, vu, vs] } } := I4.kept (t' := s4.toks) fun b ob z => Heap.get?_push_of_some _ z
  obtain ⟨its, r, ht, hz⟩ := I5.tuple hx
  have hlen := r.length
  show wpAny (model X.prog X.w) X.A (subscriptTail e (.Slice none none (some (.UnaryOp .USub (.Constant (.int 1) k p1) p2)) p3) (.ref a) (.ref s4.heap.objs.size)) (EP X pins σ Q) X.xe { s4 with heap := s4.heap.push { cls := .type "slice", data := .fields #[vl, vu, vs] } }
  refine tail_any (ops := [.ref a, .ref s4.heap.objs.size]) ht.typeIs (PyProof.Rows.slot_tuple_getitem.lookup) ?_ (by with_unfolding_all rfl)
  refine item_back ht (Heap.IsSliceOf.new _ vl vu vs) pl pu ps ?_ (by rw [List.size_toArray]; omega)
  refine ⟨.ref _, _, I5.laid (t' := s4.toks) (o := .tup xs.reverse) (fun b ob z => Heap.get?_push_of_some _ z) (Nat.le_refl _) ?_, rfl, q _ (I5.hok.fresh (Nat.le_refl _))⟩
  refine ⟨by rw [List.length_reverse]; exact hz, its.reverse, r.reverse, _, Heap.get?_push_size _ rfl, rfl, 0, ?_⟩
  simp
end G

set_option Elab.async false
set_option linter.all false
set_option maxRecDepth 100000
set_option maxHeartbeats 4000000
namespace G
open PySem PySem.Spec PyProof.Rows L2
/-! ## Promises of defs that may raise (guards empty) -/
theorem okGX {P : Program} {w : World} {K : PySem.W.Frag} {mg : Str → Option Value} {base : Heap} {x qual : Str} {st : Stmt} {f : Addr} {fd : FuncData}
    {N ps : List Str} {k : Nat} {sp : Sp} (F : Fun K x qual st f fd) (S : FnScope N ps (defScope st)) (len : ∀ xs H Q E, sp xs H Q E → xs.length = ps.length)
    (hbody : ∀ (cdv : Value) (A : Around) (out : List Env) (s : Shared) (H : Hp) (xs : List V) (Q : VK) (E : XK), A.guards = some [] →
      Room k (A.deeper (envOfC qual (defScope st) s.heap.objs.size f cdv)) → sp xs H Q E →
      ∃ t, PSs (cxOf (L2.CX P w) P w K mg base N qual (defScope st) f cdv A out s H E) (defBody st) t ∧
        t { nx := fun _ H' => Q .non H', rt := Q } (start N xs) H) :
    FnG P w K mg base (L2.CX P w) (k + 1) f fd ps sp := by
  obtain ⟨oc, od, kV, doc, pm, an, cdv, ct, osl, rfl, lk, hcd⟩ := F.ex
  constructor
  · exact len
  intro A out s H args us xs Q E gA hr e0 hb r hsp
  have old : ∀ b o, base.get? b = some o → s.heap.get? b = some o := fun b o q => (e0.bs b o q).1
  have KX : K.In s.heap := e0.mod.kin.keeps old
  have lim : s.heap.NoLimit := e0.mod.nolimit.keeps old
  refine codeAny_call_function hr.depth (KX _ _ lk) rfl S.co S.gen rfl (PySem.W.codeRec_of KX hcd) (hb _ _ _ _ ?_)
  refine wpAny_newFunctionEnv_cells S.kind (fun y hy => ?_) fun env he s1 x1 => ?_
  · have q := S.par y.1 (List.of_mem_zip (a := y.1) (b := y.2) hy).1
    exact q.elim .inl fun q => .inr ⟨q, PySem.W.cellsFrom_some _ _ _ (.inl q)⟩
  · subst he
    refine ⟨lim.keeps x1.toInCall.keep, codeAny_func ?_⟩
    obtain ⟨t, ht, hq⟩ := hbody cdv A out s H xs Q E gA (hr.deeper _) hsp
    have I := inv_start (CX := L2.CX P w) (P := P) (w := w) (K := K) (mg := mg) (base := base) (N := N) (ps := ps) (E := E) S hr.hd e0 (len _ _ _ _ hsp) r x1
    refine wpAny_mono (ht.run [] s1 (start N xs) H _ I hq) (fun fl s2 hs => ?_) fun _ _ z => z
    match fl, hs with
    | .ret u, ⟨v, σ', H', J, rv, q⟩ => exact ⟨v, H', J.os, J.bare, J.base, J.hok, rv, q⟩
    | .next, ⟨σ', H', J, q⟩ => exact ⟨V.non, H', J.os, J.bare, J.base, J.hok, rfl, q⟩
    | .brk, ⟨_, _, _, q⟩ => exact q.elim
    | .cont, ⟨_, _, _, q⟩ => exact q.elim
structure CalX (P : Program) (w : World) (K : PySem.W.Frag) (mg : Str → Option Value) (base : Heap) (k : Nat) (x : Str) (ps : List Str) (sp : Sp) : Prop where
  ex : ∃ f fd, FnG P w K mg base (L2.CX P w) k f fd ps sp ∧ mg x = some (.ref f) ∧ PySem.W.keepIn K (.ref f) = true ∧ Binds K fd ps []
theorem calOkX {P : Program} {w : World} {K : PySem.W.Frag} {mg : Str → Option Value} {base : Heap} {x : Str} {st : Stmt} {N ps : List Str} {k : Nat} {sp : Sp}
    (D : DefAt K mg x st ps) (S : FnScope N ps (defScope st)) (len : ∀ xs H Q E, sp xs H Q E → xs.length = ps.length)
    (hbody : ∀ (f : Addr) (cdv : Value) (A : Around) (out : List Env) (s : Shared) (H : Hp) (xs : List V) (Q : VK) (E : XK), A.guards = some [] →
      Room k (A.deeper (envOfC x (defScope st) s.heap.objs.size f cdv)) → sp xs H Q E →
      ∃ t, PSs (cxOf (L2.CX P w) P w K mg base N x (defScope st) f cdv A out s H E) (defBody st) t ∧
        t { nx := fun _ H' => Q .non H', rt := Q } (start N xs) H) : CalX P w K mg base (k + 1) x ps sp := by
  obtain ⟨f, fd, F, m, b⟩ := D.ex
  exact ⟨f, fd, okGX F S len (hbody f), m, F.kp, Binds.all b⟩
section
variable {X : Cx} {CX : CXT} {k j : Nat} {f : Addr} {fd : FuncData} {ps : List Str} {sp : Sp} {E : L2.St → XK} {x : Str} {p pos : Pos} {e : Expr} {es : List Expr} {t : TA}
theorem runGS {pins : List (Addr × Obj)} {σ : L2.St} {H : Hp} {s : Shared} {Q : VK} {us : List Value} {xs : List V}
    (F : FnG X.prog X.w X.K X.mg X.base CX k f fd ps sp) (hgd : X.A.guards = some []) (hr : Room k X.A) (hb : Binds X.K fd ps []) (hx : PassesAt CX X σ (E σ))
    (I : Inv X pins σ H s) (r : Vals xs us) (h : sp xs H Q (E σ)) : wpAny (model X.prog X.w) X.A (call (.ref f) us) (EP X pins σ Q) X.xe s := by
  have sz : us.length = ps.length := r.length.symm.trans (F.len _ _ _ _ h)
  have body := F.go X.A X.stack s H ⟨us, []⟩ us xs Q (E σ) hgd hr I.env0 (by have := hb s us I.kIn (by rw [List.append_nil]; exact sz); rwa [List.append_nil] at this) r h
  refine wpAny_call (codeAny_mono body fun res t hq => ?_)
  match res, hq with
  | .error e, hq => exact hx pins H s e t I hq
  | .ok (.ret u), hq => exact I.after hq
  | .ok .next, hq => exact hq.elim
  | .ok .brk, hq => exact hq.elim
  | .ok .cont, hq => exact hq.elim
theorem pe_gS (F : FnG X.prog X.w X.K X.mg X.base CX k f fd ps sp)
    (hgd : X.A.guards = some []) (hr : Room k X.A) (hg : Gl X x) (hm : X.mg x = some (.ref f)) (hk : PySem.W.keepIn X.K (.ref f) = true)
    (hb : Binds X.K fd ps []) (hx : ∀ σ, PassesAt CX X σ (E σ)) (ha : PA X (e :: es) t)
    (hdb : (x == ("__debug__" : Str)) = false := by decide)
    (he : starEach (e :: es) X.env = (false, eval e X.env) :: starEach es X.env := by rfl)
    (hpl : (backTo pos (starEach es X.env)).any (·.1) = false := by rfl) :
    PE X (.Call (.Name x p) (e :: es) [] pos) (tCallS sp E t) :=
  ⟨fun pins s σ H Q I h => wpAny_Call_Name_kw (ld_glob I hg hm
    (PySem.W.callWith_K (h₀ := X.base) I.ok.mod.kin hk
      (thn (ha.run pos pins s σ H _ I h) fun us s1 ⟨xs, H1, I1, r, q⟩ => ⟨I1.kIn, runGS F hgd hr hb (hx σ) I1 r q⟩) he hpl) hdb)⟩
/-- a call of a def that may raise; what it lets out goes on to W -/
theorem pe_kx {W : WX} (c : CalX X.prog X.w X.K X.mg X.base k x ps sp) (tk : Takes X W) (hgd : X.A.guards = some []) (hr : Room j X.A) (hk : k ≤ j) (hg : Gl X x) (ha : PA X (e :: es) t)
    (hdb : (x == ("__debug__" : Str)) = false := by decide)
    (he : starEach (e :: es) X.env = (false, eval e X.env) :: starEach es X.env := by rfl)
    (hpl : (backTo pos (starEach es X.env)).any (·.1) = false := by rfl) :
    PE X (.Call (.Name x p) (e :: es) [] pos) (tCallS sp (WE W) t) := by
  obtain ⟨f, fd, F, m, kp, b⟩ := c.ex
  exact pe_gS F hgd (hr.mono hk) hg m kp b (fun σ => passAt tk σ) ha hdb he hpl
end
/-- a class of the text that is an exception over a built-in one, without an own __init__ -/
structure ErrAt (K : PySem.W.Frag) (mg : Str → Option Value) (x : Str) (C : Addr) (bm : List Value) (nid : String) : Prop where
  at_ : mg x = some (.ref C)
  exc : PySem.W.excIn K C bm nid = true
  keep : PySem.W.keepIn K (.ref C) = true
  base : PySem.W.subIn K (.ref C) (.type "BaseException") = some true
  ty : PySem.W.typeIn K (.ref C) = some (.type "type")
abbrev veL : List Value := [.type "ValueError", .type "Exception", .type "BaseException", .type "object"]
end G

set_option Elab.async false
set_option linter.all false
set_option maxRecDepth 100000
set_option maxHeartbeats 4000000
namespace G
open PySem PySem.W PySem.Calls PyProof.Rows
section
variable {prog : Program} {w : World} {A : Around} {E : Value → Shared → Prop} {R : Result → Shared → Prop} {s : Shared} {K : Frag} {B : String} {bmB : List Value}
/-- a local name of a def without cells -/
theorem ld_own {M : Model} {s : Shared} {name : Str} {scope : Scope} {L a : Addr} {cd : Value} {m : Str → Option Value} {x : Str} {pos : Pos} {v : Value} {Q : Value → Shared → Prop} {A : Around} {E : Value → Shared → Prop} (hn : s.heap.Ns L m) (hv : m x = some v) (h : Q v s)
    (hk : scope.kind = .function := by rfl) (hl : (envOfC name scope L a cd).kindOf x = some .local := by rfl) (hd : (x == ("__debug__" : Str)) = false := by decide) :
    wpAny M A (eval (.Name x pos) (envOfC name scope L a cd)) Q E s := wpAny_Name (wpAny_loadName_local hk hl hn hv h) hd
/-- the first field that is stored in a fresh exception of any base -/
theorem first_store {name : Str} {tk : Tok} {v : Value} {x C t : Addr} (SF : StoreFacts B bmB "object.__setattr__" "object") (X : K.In s.heap) (hx : s.heap.get? x = some (excObj C t none .none)) (ov : excOver K C bmB = true) (tn : takerIn K C name = some none) (hd : hasDictIn K C = true)
    (hq : ∀ h' tk' dx, (∀ b o, b ≠ x → s.heap.get? b = some o → h'.get? b = some o) → s.heap.objs.size ≤ dx → dx ≠ x → h'.get? x = some (excObj C t (some dx) .none) →
      h'.Ns1 dx (fun y => if y = name then some v else none) → R (.ok (.ret .none)) { s with heap := h', toks := tk' }) :
    codeAny (model prog w) A (.call (.builtin "object.__setattr__") ⟨[.ref x, .str name tk, v], []⟩) R s := by
  have low : x < s.heap.objs.size := Heap.lt_size hx
  refine osa_openX (od := none) SF X ⟨hx, rfl, rfl, trivial⟩ ov tn fun b => ?_
  obtain ⟨cd, hc, hd'⟩ := any_some hd
  refine wpAny_bind (wpAny_pure (wpAny_bind (instanceDict_exc hx (looks_clsIn X hc) hd' ?_)))
  have ne : x ≠ s.heap.objs.size := Nat.ne_of_lt low
  have hp : (s.heap.push (dictOf [] 0)).get? x = some (excObj C t none .none) := Heap.get?_push_of_some _ hx
  refine PySem.HandSPX.store_in_new (hp := (s.heap.push (dictOf [] 0)).update x fun o => { o with dict := some s.heap.objs.size }) ⟨_, #[], _, (Heap.get?_update_ne _ _ _ _ ne.symm).trans (Heap.get?_push_size _ rfl), rfl, fun e he => absurd he (by simp), fun _ => rfl⟩ fun h' tk' n sb => ?_
  refine hq h' tk' s.heap.objs.size (fun y o hy e => ?_) (Nat.le_refl _) ne.symm ?_ n
  · exact (sb.2 y (Nat.ne_of_lt (Heap.lt_size e))).trans ((Heap.get?_update_ne _ _ _ _ hy).trans (Heap.get?_push_of_some _ e))
  · exact (sb.2 x ne).trans (Heap.get?_update_self _ hp rfl)
end
end G

set_option Elab.async false
set_option linter.all false
set_option maxRecDepth 100000
set_option maxHeartbeats 4000000
namespace G
open PySem PySem.Spec PyProof.Rows L2
/-! ## Promises with a switch: gq = true asks for empty guards (texts of containers), gq = false asks nothing (so a lambda may call) -/
structure FnQ (gq : Bool) (P : Program) (w : World) (K : PySem.W.Frag) (mg : Str → Option Value) (base : Heap)
    (CX : CXT) (k : Nat) (f : Addr) (fd : FuncData) (ps : List Str) (sp : Sp) : Prop where
  len : ∀ xs H Q E, sp xs H Q E → xs.length = ps.length
  go : ∀ (A : Around) (out : List Env) (s : Shared) (H : Hp) (args : Args) (us : List Value) (xs : List V) (Q : VK) (E : XK),
    (gq = true → A.guards = some []) → Room k A → Env0 P w K mg base A out s H → BindsTo s fd args (ps.zip us) → Vals xs us → sp xs H Q E →
    codeAny (model P w) A (.call (.ref f) args) (CR CX out P w H s Q E) s
theorem FnQ.g {gq P w K mg base CX k f fd ps sp} (F : FnQ gq P w K mg base CX k f fd ps sp) : FnG P w K mg base CX k f fd ps sp :=
  ⟨F.len, fun A out s H args us xs Q E hg => F.go A out s H args us xs Q E fun _ => hg⟩
theorem FnQ.ok {P w K mg base CX k f fd ps sp} (F : FnQ false P w K mg base CX k f fd ps sp) : FnOk P w K mg base CX k f fd ps sp :=
  ⟨F.len, fun A out s H args us xs Q E => F.go A out s H args us xs Q E fun z => Bool.noConfusion z⟩
theorem FnQ.mono {gq P w K mg base CX j k f fd ps sp} (F : FnQ gq P w K mg base CX j f fd ps sp) (h : j ≤ k) : FnQ gq P w K mg base CX k f fd ps sp :=
  ⟨F.len, fun A out s H args us xs Q E hg hr => F.go A out s H args us xs Q E hg (hr.mono h)⟩
section
variable {gq : Bool} {X : Cx} {CX : CXT} {k j : Nat} {f : Addr} {fd : FuncData} {ps : List Str} {sp : Sp} {E : L2.St → XK} {x : Str} {p pos : Pos} {e : Expr} {es : List Expr} {t : TA}
theorem runQ {pins : List (Addr × Obj)} {σ : L2.St} {H : Hp} {s : Shared} {Q : VK} {us : List Value} {xs : List V}
    (F : FnQ gq X.prog X.w X.K X.mg X.base CX k f fd ps sp) (hgd : gq = true → X.A.guards = some []) (hr : Room k X.A) (hb : Binds X.K fd ps []) (hx : PassesAt CX X σ (E σ))
    (I : Inv X pins σ H s) (r : Vals xs us) (h : sp xs H Q (E σ)) : wpAny (model X.prog X.w) X.A (call (.ref f) us) (EP X pins σ Q) X.xe s := by
  have sz : us.length = ps.length := r.length.symm.trans (F.len _ _ _ _ h)
  have body := F.go X.A X.stack s H ⟨us, []⟩ us xs Q (E σ) hgd hr I.env0 (by have := hb s us I.kIn (by rw [List.append_nil]; exact sz); rwa [List.append_nil] at this) r h
  refine wpAny_call (codeAny_mono body fun res t hq => ?_)
  match res, hq with
  | .error e, hq => exact hx pins H s e t I hq
  | .ok (.ret u), hq => exact I.after hq
  | .ok .next, hq => exact hq.elim
  | .ok .brk, hq => exact hq.elim
  | .ok .cont, hq => exact hq.elim
theorem pe_q (F : FnQ gq X.prog X.w X.K X.mg X.base CX k f fd ps sp)
    (hgd : gq = true → X.A.guards = some []) (hr : Room k X.A) (hg : Gl X x) (hm : X.mg x = some (.ref f)) (hk : PySem.W.keepIn X.K (.ref f) = true)
    (hb : Binds X.K fd ps []) (hx : ∀ σ, PassesAt CX X σ (E σ)) (ha : PA X (e :: es) t)
    (hdb : (x == ("__debug__" : Str)) = false := by decide)
    (he : starEach (e :: es) X.env = (false, eval e X.env) :: starEach es X.env := by rfl)
    (hpl : (backTo pos (starEach es X.env)).any (·.1) = false := by rfl) :
    PE X (.Call (.Name x p) (e :: es) [] pos) (tCallS sp E t) :=
  ⟨fun pins s σ H Q I h => wpAny_Call_Name_kw (ld_glob I hg hm
    (PySem.W.callWith_K (h₀ := X.base) I.ok.mod.kin hk
      (thn (ha.run pos pins s σ H _ I h) fun us s1 ⟨xs, H1, I1, r, q⟩ => ⟨I1.kIn, runQ F hgd hr hb (hx σ) I1 r q⟩) he hpl) hdb)⟩
end
/-- a def that raises nothing -/
structure CalQ (gq : Bool) (P : Program) (w : World) (K : PySem.W.Frag) (mg : Str → Option Value) (base : Heap) (k : Nat) (x : Str) (ps : List Str) (sp : Sp) : Prop where
  ex : ∃ f fd, FnQ gq P w K mg base CX0 k f fd ps sp ∧ mg x = some (.ref f) ∧ PySem.W.keepIn K (.ref f) = true ∧ Binds K fd ps []
/-- a def that may raise -/
structure CalXQ (gq : Bool) (P : Program) (w : World) (K : PySem.W.Frag) (mg : Str → Option Value) (base : Heap) (k : Nat) (x : Str) (ps : List Str) (sp : Sp) : Prop where
  ex : ∃ f fd, FnQ gq P w K mg base (L2.CX P w) k f fd ps sp ∧ mg x = some (.ref f) ∧ PySem.W.keepIn K (.ref f) = true ∧ Binds K fd ps []
theorem CalQ.g {gq P w K mg base k x ps sp} (c : CalQ gq P w K mg base k x ps sp) : CalG P w K mg base k x ps sp :=
  let ⟨f, fd, F, r⟩ := c.ex
  ⟨f, fd, F.g, r⟩
theorem CalXQ.x {gq P w K mg base k x ps sp} (c : CalXQ gq P w K mg base k x ps sp) : CalX P w K mg base k x ps sp :=
  let ⟨f, fd, F, r⟩ := c.ex
  ⟨f, fd, F.g, r⟩
theorem okQ {gq : Bool} {CX : CXT} {P : Program} {w : World} {K : PySem.W.Frag} {mg : Str → Option Value} {base : Heap} {x qual : Str} {st : Stmt} {f : Addr} {fd : FuncData}
    {N ps : List Str} {k : Nat} {sp : Sp} (F : Fun K x qual st f fd) (S : FnScope N ps (defScope st)) (len : ∀ xs H Q E, sp xs H Q E → xs.length = ps.length)
    (hbody : ∀ (cdv : Value) (A : Around) (out : List Env) (s : Shared) (H : Hp) (xs : List V) (Q : VK) (E : XK), (gq = true → A.guards = some []) →
      Room k (A.deeper (envOfC qual (defScope st) s.heap.objs.size f cdv)) → sp xs H Q E →
      ∃ t, PSs (cxOf CX P w K mg base N qual (defScope st) f cdv A out s H E) (defBody st) t ∧
        t { nx := fun _ H' => Q .non H', rt := Q } (start N xs) H) :
    FnQ gq P w K mg base CX (k + 1) f fd ps sp := by
  obtain ⟨oc, od, kV, doc, pm, an, cdv, ct, osl, rfl, lk, hcd⟩ := F.ex
  constructor
  · exact len
  intro A out s H args us xs Q E gA hr e0 hb r hsp
  have old : ∀ b o, base.get? b = some o → s.heap.get? b = some o := fun b o q => (e0.bs b o q).1
  have KX : K.In s.heap := e0.mod.kin.keeps old
  have lim : s.heap.NoLimit := e0.mod.nolimit.keeps old
  refine codeAny_call_function hr.depth (KX _ _ lk) rfl S.co S.gen rfl (PySem.W.codeRec_of KX hcd) (hb _ _ _ _ ?_)
  refine wpAny_newFunctionEnv_cells S.kind (fun y hy => ?_) fun env he s1 x1 => ?_
  · have q := S.par y.1 (List.of_mem_zip (a := y.1) (b := y.2) hy).1
    exact q.elim .inl fun q => .inr ⟨q, PySem.W.cellsFrom_some _ _ _ (.inl q)⟩
  · subst he
    refine ⟨lim.keeps x1.toInCall.keep, codeAny_func ?_⟩
    obtain ⟨t, ht, hq⟩ := hbody cdv A out s H xs Q E gA (hr.deeper _) hsp
    have I := inv_start (CX := CX) (P := P) (w := w) (K := K) (mg := mg) (base := base) (N := N) (ps := ps) (E := E) S hr.hd e0 (len _ _ _ _ hsp) r x1
    refine wpAny_mono (ht.run [] s1 (start N xs) H _ I hq) (fun fl s2 hs => ?_) fun _ _ z => z
    match fl, hs with
    | .ret u, ⟨v, σ', H', J, rv, q⟩ => exact ⟨v, H', J.os, J.bare, J.base, J.hok, rv, q⟩
    | .next, ⟨σ', H', J, q⟩ => exact ⟨V.non, H', J.os, J.bare, J.base, J.hok, rfl, q⟩
    | .brk, ⟨_, _, _, q⟩ => exact q.elim
    | .cont, ⟨_, _, _, q⟩ => exact q.elim
theorem calOkQ {gq : Bool} {P : Program} {w : World} {K : PySem.W.Frag} {mg : Str → Option Value} {base : Heap} {x : Str} {st : Stmt} {N ps : List Str} {k : Nat} {sp : Sp}
    (D : DefAt K mg x st ps) (S : FnScope N ps (defScope st)) (len : ∀ xs H Q E, sp xs H Q E → xs.length = ps.length)
    (hbody : ∀ (f : Addr) (cdv : Value) (A : Around) (out : List Env) (s : Shared) (H : Hp) (xs : List V) (Q : VK) (E : XK), (gq = true → A.guards = some []) →
      Room k (A.deeper (envOfC x (defScope st) s.heap.objs.size f cdv)) → sp xs H Q E →
      ∃ t, PSs (cxOf CX0 P w K mg base N x (defScope st) f cdv A out s H E).nox (defBody st) t ∧
        t { nx := fun _ H' => Q .non H', rt := Q } (start N xs) H) : CalQ gq P w K mg base (k + 1) x ps sp := by
  obtain ⟨f, fd, F, m, b⟩ := D.ex
  refine ⟨f, fd, okQ F S len (fun cdv A out s H xs Q E g r h => ?_), m, F.kp, Binds.all b⟩
  obtain ⟨t, ht, q⟩ := hbody f cdv A out s H xs Q E g r h
  exact ⟨t, ht.nox, q⟩
theorem calOkXQ {gq : Bool} {P : Program} {w : World} {K : PySem.W.Frag} {mg : Str → Option Value} {base : Heap} {x : Str} {st : Stmt} {N ps : List Str} {k : Nat} {sp : Sp}
    (D : DefAt K mg x st ps) (S : FnScope N ps (defScope st)) (len : ∀ xs H Q E, sp xs H Q E → xs.length = ps.length)
    (hbody : ∀ (f : Addr) (cdv : Value) (A : Around) (out : List Env) (s : Shared) (H : Hp) (xs : List V) (Q : VK) (E : XK), (gq = true → A.guards = some []) →
      Room k (A.deeper (envOfC x (defScope st) s.heap.objs.size f cdv)) → sp xs H Q E →
      ∃ t, PSs (cxOf (L2.CX P w) P w K mg base N x (defScope st) f cdv A out s H E) (defBody st) t ∧
        t { nx := fun _ H' => Q .non H', rt := Q } (start N xs) H) : CalXQ gq P w K mg base (k + 1) x ps sp := by
  obtain ⟨f, fd, F, m, b⟩ := D.ex
  exact ⟨f, fd, okQ F S len (hbody f), m, F.kp, Binds.all b⟩
section
variable {gq : Bool} {X : Cx} {k j : Nat} {ps : List Str} {sp : Sp} {x : Str} {p pos : Pos} {e : Expr} {es : List Expr} {t : TA}
theorem pe_kq (c : CalQ gq X.prog X.w X.K X.mg X.base k x ps sp) (hgd : gq = true → X.A.guards = some []) (hr : Room j X.A) (hk : k ≤ j) (hg : Gl X x) (ha : PA X (e :: es) t)
    (hdb : (x == ("__debug__" : Str)) = false := by decide)
    (he : starEach (e :: es) X.env = (false, eval e X.env) :: starEach es X.env := by rfl)
    (hpl : (backTo pos (starEach es X.env)).any (·.1) = false := by rfl) :
    PE X (.Call (.Name x p) (e :: es) [] pos) (tCallS sp (fun _ => E0) t) := by
  obtain ⟨f, fd, F, m, kp, b⟩ := c.ex
  exact pe_q F hgd (hr.mono hk) hg m kp b (fun σ pins H s e s' I c => c.elim) ha hdb he hpl
theorem pe_kxq {W : WX} (c : CalXQ gq X.prog X.w X.K X.mg X.base k x ps sp) (tk : Takes X W) (hgd : gq = true → X.A.guards = some []) (hr : Room j X.A) (hk : k ≤ j) (hg : Gl X x) (ha : PA X (e :: es) t)
    (hdb : (x == ("__debug__" : Str)) = false := by decide)
    (he : starEach (e :: es) X.env = (false, eval e X.env) :: starEach es X.env := by rfl)
    (hpl : (backTo pos (starEach es X.env)).any (·.1) = false := by rfl) :
    PE X (.Call (.Name x p) (e :: es) [] pos) (tCallS sp (WE W) t) := by
  obtain ⟨f, fd, F, m, kp, b⟩ := c.ex
  exact pe_q F hgd (hr.mono hk) hg m kp b (fun σ => passAt tk σ) ha hdb he hpl
end
end G

set_option Elab.async false
set_option linter.all false
set_option maxRecDepth 100000
set_option maxHeartbeats 2000000
/-! the texts of whole numbers, there and back -/
namespace G
open PySem PySem.Spec PyProof.Rows L2 TL
def digB (c : Nat) : Bool := decide (48 ≤ c) && decide (c ≤ 57)
def figOk (f : List Nat) : Bool := !f.isEmpty && (f.all digB && decide (f.length ≤ 60))
def negB (l : List Nat) : Bool := decide (l.head? = some 45)
def figs (l : List Nat) : List Nat := if negB l = true then l.tail else l
/-- the signs are the text of a whole number of at most sixty figures -/
def numOkL (l : List Nat) : Bool := figOk (figs l) && (decide ((figs l).head? ≠ some 48) || (decide ((figs l).length = 1) && !negB l))
def wholeZ (z : Str) : Option Int := if numOkL (tl z) = true then intText? z else none
abbrev textZ (n : Int) : Str := Str.ofString (toString n)
theorem digs_of {l : List Nat} (h : l.all digB = true) : NumText.AllDigits l := fun c hc => by
  have q : digB c = true := List.all_eq_true.mp h c hc
  unfold digB at q
  rw [Bool.and_eq_true, decide_eq_true_eq, decide_eq_true_eq] at q
  exact q
theorem all_of {l : List Nat} (h : NumText.AllDigits l) : l.all digB = true := List.all_eq_true.mpr fun c hc => by
  have q := h c hc
  unfold digB
  rw [decide_eq_true q.1, decide_eq_true q.2] <;> rfl
theorem numL_head {n : Nat} (h : 0 < n) : (numL n).head? ≠ some 48 := by
  induction n using Nat.strongRecOn with
  | _ n ih =>
    by_cases q : n < 10
    · rw [numL_lt q]
      intro e
      have : 48 + n = 48 := by simpa using e
      omega
    · rw [numL_step (by omega)]
      have i := ih (n / 10) (by omega) (by omega)
      have ne := numL_ne (n / 10)
      cases e : numL (n / 10) with
      | nil => exact absurd e ne
      | cons c r =>
        rw [e] at i
        simpa using i
theorem val_snoc (m : List Nat) (c : Nat) : NumText.digitsVal (m ++ [c]) = NumText.digitsVal m * 10 + (c - 48) := by
  unfold NumText.digitsVal
  rw [List.foldl_append] <;> rfl
/-- figures without a leading zero are those of their worth -/
theorem numL_back : ∀ (k : Nat) (l : List Nat), l.length = k → NumText.AllDigits l → l ≠ [] → (l.head? ≠ some 48 ∨ l.length = 1) → numL (NumText.digitsVal l) = l := by
  intro k
  induction k with
  | zero => intro l e _ n _; exact absurd (List.length_eq_zero_iff.mp e) n
  | succ k ih =>
    intro l e h n q
    obtain ⟨m, c, rfl⟩ : ∃ m c, l = m ++ [c] := ⟨l.dropLast, l.getLast n, (List.dropLast_concat_getLast n).symm⟩
    have hc := h c (List.mem_append_right _ List.mem_cons_self)
    rw [val_snoc]
    cases m with
    | nil =>
      show numL (0 * 10 + (c - 48)) = [c]
      rw [numL_lt (by omega)]
      congr 1
      omega
    | cons a m =>
      have lm : (a :: m).length = k := by
        rw [List.length_append] at e
        simpa using e
      have ha : a ≠ 48 := by
        rcases q with q | q
        · simpa using q
        · rw [List.length_append] at q
          simp at q
      have hm : NumText.AllDigits (a :: m) := fun x hx => h x (List.mem_append_left _ hx)
      have i := ih (a :: m) lm hm (by simp) (.inl (by simpa using ha))
      have pos : 0 < NumText.digitsVal (a :: m) := by
        rcases Nat.eq_zero_or_pos (NumText.digitsVal (a :: m)) with z | z
        · rw [z, numL_lt (by decide)] at i
          injection i with i1 i2
          exact absurd i1.symm ha
        · exact z
      rw [numL_step (by omega)]
      have e1 : (NumText.digitsVal (a :: m) * 10 + (c - 48)) / 10 = NumText.digitsVal (a :: m) := by omega
      have e2 : (NumText.digitsVal (a :: m) * 10 + (c - 48)) % 10 = c - 48 := by omega
      rw [e1, e2, i]
      congr 2
      omega
theorem val_lt {l : List Nat} (h : NumText.AllDigits l) (n : l ≠ []) (q : l.head? ≠ some 48 ∨ l.length = 1) (hl : l.length ≤ 60) : NumText.digitsVal l < 10 ^ 60 := by
  rcases Nat.lt_or_ge (NumText.digitsVal l) (10 ^ 60) with z | z
  · exact z
  · have g := digits10_ge (k := 60) (n := NumText.digitsVal l) z
    have e := congrArg List.length (numL_back _ l rfl h n q)
    unfold numL at e
    rw [List.length_map] at e
    omega
theorem tl_text (n : Int) : tl (textZ n) = (if n < 0 then [45] else []) ++ numL n.natAbs := by
  by_cases h : n < 0
  · rw [if_pos h]
    have e : (0 : Int) - n = ((n.natAbs : Nat) : Int) := by omega
    show tl (Str.ofString (toString n)) = _
    rw [toString_neg h, e]
    have e2 : Str.ofString ("-" ++ toString ((n.natAbs : Nat) : Int)) = Str.ofString "-" ++ Str.ofString (toString ((n.natAbs : Nat) : Int)) := by
      first
        | exact Str.ofString_append _ _
        | (refine ext_tl ?_; rw [tl_append]; simp [tl, Str.ofString_eq_toList])
    rw [e2, tl_append, tl_num]
    rfl
  · rw [if_neg h]
    have e : n = ((n.natAbs : Nat) : Int) := by omega
    show tl (Str.ofString (toString n)) = _
    rw [e, tl_num]
    rfl
/-- what such a text reads as, and that it is the text of this -/
theorem num_in {z : Str} (h : numOkL (tl z) = true) : ∃ n : Int, intText? z = some n ∧ textZ n = z ∧ -BIG < n ∧ n < BIG := by
  have e60 : (10 : Nat) ^ 60 = 1000000000000000000000000000000000000000000000000000000000000 := by decide
  unfold numOkL figOk at h
  rw [Bool.and_eq_true, Bool.and_eq_true, Bool.and_eq_true] at h
  obtain ⟨⟨h1, h2, h3⟩, h4⟩ := h
  have hl := of_decide_eq_true h3
  have ne : figs (tl z) ≠ [] := by
    intro e
    rw [e] at h1
    exact absurd h1 (by decide)
  have ad := digs_of h2
  have q : (figs (tl z)).head? ≠ some 48 ∨ (figs (tl z)).length = 1 := by
    rcases Bool.or_eq_true_iff.mp h4 with a | a
    · exact .inl (of_decide_eq_true a)
    · exact .inr (of_decide_eq_true (Bool.and_eq_true_iff.mp a).1)
  have back := numL_back _ _ rfl ad ne q
  have lt := val_lt ad ne q hl
  by_cases hn : negB (tl z) = true
  · have ez : figs (tl z) = (tl z).tail := if_pos hn
    obtain ⟨r, hr⟩ : ∃ r, tl z = 45 :: r := by
      unfold negB at hn
      have := of_decide_eq_true hn
      cases e : tl z with
      | nil => rw [e] at this; cases this
      | cons c r =>
        rw [e] at this
        injection this with t
        exact ⟨r, by rw [t]⟩
    rw [ez, hr] at ad ne q back lt hl h4
    have n48 : (r : List Nat).head? ≠ some 48 := by
      rcases Bool.or_eq_true_iff.mp h4 with a | a
      · exact of_decide_eq_true a
      · rw [← hr, hn] at a
        simp at a
    have hz : z.length ≤ 4300 := by
      rw [len_tl, hr, List.length_cons]
      have : (List.tail (45 :: r)).length ≤ 60 := hl
      simp at this
      omega
    refine ⟨-((NumText.digitsVal r : Nat) : Int), intText_neg hr ad ne hz, ?_, ?_, ?_⟩
    · refine ext_tl ?_
      have pos : 0 < NumText.digitsVal r := by
        rcases Nat.eq_zero_or_pos (NumText.digitsVal r) with y | y
        · have b : numL (NumText.digitsVal r) = r := back
          rw [y, numL_lt (by decide)] at b
          rw [← b] at n48
          exact absurd rfl n48
        · exact y
      rw [tl_text, if_pos (by omega), hr]
      have e : (-((NumText.digitsVal r : Nat) : Int)).natAbs = NumText.digitsVal r := by omega
      have b : numL (NumText.digitsVal r) = r := back
      rw [e, b]
      rfl
    · have : NumText.digitsVal r < 10 ^ 60 := lt
      unfold BIG
      omega
    · have : NumText.digitsVal r < 10 ^ 60 := lt
      unfold BIG
      omega
  · have ez : figs (tl z) = tl z := if_neg hn
    rw [ez] at ad ne q back lt hl
    refine ⟨((NumText.digitsVal (tl z) : Nat) : Int), intText_digits ad ne (by rw [len_tl]; omega), ?_, ?_, ?_⟩
    · refine ext_tl ?_
      rw [tl_text, if_neg (by omega)]
      exact back
    · unfold BIG
      omega
    · unfold BIG
      omega
theorem num_out {n : Int} (h1 : -BIG < n) (h2 : n < BIG) : numOkL (tl (textZ n)) = true ∧ intText? (textZ n) = some n := by
  have lt : n.natAbs < 10 ^ 60 := by
    have e60 : (10 : Nat) ^ 60 = 1000000000000000000000000000000000000000000000000000000000000 := by decide
    unfold BIG at h1 h2
    omega
  have hl : (numL n.natAbs).length ≤ 60 := numL_len (by decide) lt
  have ne := numL_ne n.natAbs
  have ad := numL_digits n.natAbs
  have hf : figOk (numL n.natAbs) = true := by
    unfold figOk
    rw [all_of ad, decide_eq_true hl]
    cases e : numL n.natAbs with
    | nil => exact absurd e ne
    | cons c r => rfl
  have et := tl_text n
  by_cases hn : n < 0
  · rw [if_pos hn] at et
    have et' : tl (textZ n) = 45 :: numL n.natAbs := et
    constructor
    · rw [et']
      have ef : figs (45 :: numL n.natAbs) = numL n.natAbs := if_pos (decide_eq_true rfl)
      unfold numOkL
      rw [ef, hf, decide_eq_true (numL_head (by omega))] <;> rfl
    · have := intText_neg et' ad ne (by rw [len_tl, et', List.length_cons]; omega)
      rw [numL_val] at this
      rw [this]
      congr 1
      omega
  · rw [if_neg hn] at et
    have et' : tl (textZ n) = numL n.natAbs := et
    have hd : negB (numL n.natAbs) = false := by
      unfold negB
      refine decide_eq_false fun e => ?_
      have : 45 ∈ numL n.natAbs := List.mem_of_mem_head? e
      exact numL_free (.inl (by decide)) this
    constructor
    · rw [et']
      have ef : figs (numL n.natAbs) = numL n.natAbs := if_neg (by rw [hd]; exact Bool.false_ne_true)
      unfold numOkL
      rw [ef, hf, hd]
      by_cases p : 0 < n.natAbs
      · rw [decide_eq_true (numL_head p)] <;> rfl
      · have : n.natAbs = 0 := by omega
        rw [this, numL_lt (by decide)] <;> rfl
    · have := intText_digits (x := textZ n) (by rw [show (textZ n).cps.toList = numL n.natAbs from et']; exact ad) (by rw [show (textZ n).cps.toList = numL n.natAbs from et']; exact ne) (by rw [len_tl, et']; omega)
      rw [show (textZ n).cps.toList = numL n.natAbs from et', numL_val] at this
      rw [this]
      congr 1
      omega
theorem whole_text {n : Int} (h1 : -BIG < n) (h2 : n < BIG) : wholeZ (textZ n) = some n := by
  obtain ⟨a, b⟩ := num_out h1 h2
  unfold wholeZ
  rw [if_pos a, b]
theorem whole_in {z : Str} {n : Int} (h : wholeZ z = some n) : textZ n = z ∧ -BIG < n ∧ n < BIG := by
  unfold wholeZ at h
  by_cases q : numOkL (tl z) = true
  · rw [if_pos q] at h
    obtain ⟨m, e, t, a, b⟩ := num_in q
    rw [e] at h
    injection h with h
    subst h
    exact ⟨t, a, b⟩
  · rw [if_neg q] at h
    cases h
end G

set_option Elab.async false
set_option linter.all false
set_option maxRecDepth 100000
set_option maxHeartbeats 4000000
namespace G
open PySem PySem.Spec PyProof.Rows L2
/-! # Texts of numbers and pairs, there and back (for the defs that write and read pairs) -/
def formD (f : Int × Int) : PyData := .tuple [.int f.1, .int f.2]
theorem Dx.form {H : Hp} {p : Addr} {f : Int × Int} (h : Dx H (.ref p) (formD f)) : H p = some (.tup [.int f.1, .int f.2]) := by
  cases h with
  | tup h1 h2 =>
    cases h2 with
    | cons y1 r =>
      cases r with
      | cons y2 r =>
        cases r
        cases y1
        cases y2
        exact h1
open TL in
theorem pre_figs (z : Str) : tl (Txt.removeprefix z "-") = figs (tl z) := by
  have h1 : Str.length ("-" : Str) = 1 := by decide +kernel
  have hz := len_tl z
  rw [PySem.StrLaws.removeprefix_eq, h1]
  unfold figs negB
  have hs : PySem.Builtin.Str.subAt z "-" 0 = decide ((tl z).head? = some 45) := by
    have ez : z = ⟨(tl z).toArray⟩ := (mk_tl z).symm
    generalize tl z = l at ez
    subst ez
    show (Array.extract l.toArray 0 (0 + Str.length ("-" : Str)) == ("-" : Str).cps) = _
    rw [h1, show ("-" : Str).cps = #[45] by decide +kernel]
    cases l with
    | nil => rfl
    | cons c r =>
      rw [show Array.extract (c :: r).toArray 0 (0 + 1) = #[c] by simp]
      by_cases q : c = 45
      · subst q
        rfl
      · rw [decide_eq_false (by simpa using q)]
        simpa using q
  rw [hs]
  by_cases q : (tl z).head? = some 45
  · obtain ⟨r, hr⟩ : ∃ r, tl z = 45 :: r := by
      cases e : tl z with
      | nil => rw [e] at q; cases q
      | cons c r =>
        rw [e] at q
        injection q with q
        exact ⟨r, by rw [q]⟩
    rw [decide_eq_true q, if_pos rfl, decide_eq_true (by rw [hz, hr, List.length_cons]; omega), Bool.and_self, if_pos rfl]
    show ((tl z).drop 1).take (z.length - 1) = (tl z).tail
    rw [hr, List.drop_one, List.tail_cons, List.take_of_length_le (by rw [hz, hr, List.length_cons]; omega)]
  · rw [decide_eq_false q, Bool.and_false, if_neg Bool.false_ne_true, if_neg Bool.false_ne_true]
open TL in
theorem fig_prog (f : Str) : (Txt.isascii f && (Txt.isdigit f && decide (f.length ≤ 60))) = figOk (tl f) := by
  have facts : ∀ c < 128, Unicode.isDigit c = digB c := by decide +kernel
  have a1 : Txt.isascii f = (tl f).all fun c => decide (c < 128) := by
    unfold Txt.isascii tl
    rw [Array.all_toList]
  have a2 : Txt.isdigit f = (decide (f.length > 0) && (tl f).all Unicode.isDigit) := by
    unfold Txt.isdigit tl
    rw [Array.all_toList]
  have key : ∀ l : List Nat, ((l.all fun c => decide (c < 128)) && l.all Unicode.isDigit) = l.all digB := by
    intro l
    induction l with
    | nil => rfl
    | cons c r ih =>
      rw [List.all_cons, List.all_cons, List.all_cons, ← ih]
      by_cases h : c < 128
      · rw [decide_eq_true h, facts c h]
        cases digB c <;> cases (r.all fun c => decide (c < 128)) <;> cases r.all Unicode.isDigit <;> rfl
      · have : digB c = false := by
          unfold digB
          rw [decide_eq_false (show ¬ c ≤ 57 by omega), Bool.and_false]
        rw [decide_eq_false h, this]
        cases (r.all fun c => decide (c < 128)) <;> cases r.all Unicode.isDigit <;> cases Unicode.isDigit c <;> rfl
  rw [a1, a2, len_tl]
  unfold figOk
  rw [← key]
  have e : decide ((tl f).length > 0) = !(tl f).isEmpty := by
    cases tl f <;> rfl
  rw [e]
  cases (tl f).isEmpty <;> cases ((tl f).all fun c => decide (c < 128)) <;> cases (tl f).all Unicode.isDigit <;> rfl
open TL in
theorem one_sign {c d : Nat} : ((⟨#[c]⟩ : Str) = ⟨#[d]⟩) ↔ c = d := by
  constructor
  · intro e
    have := congrArg tl e
    simpa [tl] using this
  · rintro rfl
    rfl
theorem zero_S : ("0" : Str) = ⟨#[48]⟩ := by decide +kernel
open TL in
/-- figures that begin with 0: only "0" is one -/
theorem lead_one {z : Str} {c : Nat} {r : List Nat} (h1 : figOk (figs (tl z)) = true) (hc : figs (tl z) = c :: r) (h2 : (⟨#[c]⟩ : Str) = "0") : (!decide (V.str z = V.str "0")) = !numOkL (tl z) := by
  rw [zero_S, one_sign] at h2
  subst h2
  have e : (figs (tl z)).head? = some 48 := by rw [hc] <;> rfl
  unfold numOkL
  rw [h1, Bool.true_and, decide_eq_false (p := (figs (tl z)).head? ≠ some 48) (by simpa using e), Bool.false_or]
  congr 1
  by_cases q : z = "0"
  · subst q
    decide +kernel
  · rw [decide_eq_false (fun t => q (by injection t))]
    by_cases n : negB (tl z) = true
    · rw [n, Bool.not_true, Bool.and_false]
    · have ez : figs (tl z) = tl z := if_neg n
      rw [decide_eq_false, Bool.false_and]
      intro l1
      rw [hc] at l1
      have : r = [] := List.length_eq_zero_iff.mp (by simpa using l1)
      subst this
      refine q (ext_tl ?_)
      rw [← ez, hc]
      decide +kernel
open TL in
theorem lead_ok {z : Str} {c : Nat} {r : List Nat} (h1 : figOk (figs (tl z)) = true) (hc : figs (tl z) = c :: r) (h2 : ¬ (⟨#[c]⟩ : Str) = "0") : false = !numOkL (tl z) := by
  rw [zero_S, one_sign] at h2
  have e : (figs (tl z)).head? ≠ some 48 := by
    rw [hc]
    simpa using h2
  unfold numOkL
  rw [h1, Bool.true_and, decide_eq_true e] <;> rfl
def ovI : Option Int → V
  | none => .non
  | some n => .int n
def spWhole : Sp := fun vs H Q _ => ∃ z : Str, vs = [.str z] ∧ z.length ≤ 16000000 ∧ Q (ovI (wholeZ z)) H
def BigF (f : Int × Int) : Prop := -BIG < f.1 ∧ f.1 < BIG ∧ -BIG < f.2 ∧ f.2 < BIG
theorem log_big {i : Int} (h1 : -BIG < i) (h2 : i < BIG) : i.natAbs.log2 < 1920 := by
  by_cases q : i.natAbs = 0
  · rw [q]
    decide +kernel
  · refine (Nat.log2_lt q).mpr (Nat.lt_of_lt_of_le (m := 2 ^ 200) ?_ (Nat.pow_le_pow_right (by decide) (by decide)))
    have e : (2 : Nat) ^ 200 = 1606938044258990275541962092341162602522202993782792835301376 := by decide +kernel
    unfold BIG at h1 h2
    omega
open TL in
theorem text_len {i : Int} (h1 : -BIG < i) (h2 : i < BIG) : (textZ i).length ≤ 61 := by
  have lt : i.natAbs < 10 ^ 60 := by
    have e60 : (10 : Nat) ^ 60 = 1000000000000000000000000000000000000000000000000000000000000 := by decide
    unfold BIG at h1 h2
    omega
  have hl : (numL i.natAbs).length ≤ 60 := numL_len (by decide) lt
  rw [len_tl, tl_text, List.length_append]
  split
  · show 1 + _ ≤ _
    omega
  · show 0 + _ ≤ _
    omega
def pairT (f : Int × Int) : Str := (textZ f.1 ++ ("." : Str)) ++ textZ f.2
theorem pairT_len {f : Int × Int} (h : BigF f) : (pairT f).length ≤ 123 := by
  obtain ⟨a, b, c, d⟩ := h
  have l1 := text_len a b
  have l2 := text_len c d
  have l3 : Str.length ("." : Str) = 1 := by decide +kernel
  unfold pairT
  rw [Str.length_append, Str.length_append, l3]
  omega
open TL in
theorem empty_app (x : Str) : Str.empty ++ x = x := ext_tl (by rw [tl_append] <;> rfl)
def ovD : Option Int → PyData
  | none => .none
  | some n => .int n
def pairZ (z : Str) : Option (Int × Int) := match (Txt.split z ".").map wholeZ with
  | [some a, some b] => some (a, b)
  | _ => none
open TL in
theorem spl_sub (S : List Nat) : ∀ (l : List Nat) (k : Nat) (acc p : List Nat), p ∈ spl S k acc l → p.length ≤ acc.length + l.length ∧ ∀ c ∈ p, c ∈ acc ∨ c ∈ l := by
  intro l
  induction l with
  | nil =>
    intro k acc p h
    rw [spl_nil] at h
    rw [List.mem_singleton.mp h]
    exact ⟨by simp, fun c hc => .inl hc⟩
  | cons c r ih =>
    intro k acc p h
    cases k with
    | zero =>
      by_cases q : pre S (c :: r) = true
      · rw [spl_hit q] at h
        rcases List.mem_cons.mp h with rfl | h
        · exact ⟨by simp, fun c hc => .inl hc⟩
        · obtain ⟨a, b⟩ := ih _ _ _ h
          refine ⟨?_, fun x hx => ?_⟩
          · rw [List.length_nil] at a
            rw [List.length_cons]
            omega
          · rcases b x hx with e | e
            · cases e
            · exact .inr (List.mem_cons_of_mem _ e)
      · have e : spl S 0 acc (c :: r) = spl S 0 (acc ++ [c]) r := if_neg q
        rw [e] at h
        obtain ⟨a, b⟩ := ih _ _ _ h
        refine ⟨?_, fun x hx => ?_⟩
        · rw [List.length_append] at a
          rw [List.length_cons]
          simp at a
          omega
        · rcases b x hx with e | e
          · rcases List.mem_append.mp e with e | e
            · exact .inl e
            · exact .inr (by rw [List.mem_singleton.mp e]; exact List.mem_cons_self)
          · exact .inr (List.mem_cons_of_mem _ e)
    | succ k =>
      have e : spl S (k + 1) acc (c :: r) = spl S k acc r := rfl
      rw [e] at h
      obtain ⟨a, b⟩ := ih _ _ _ h
      refine ⟨by rw [List.length_cons]; omega, fun x hx => ?_⟩
      rcases b x hx with e | e
      · exact .inl e
      · exact .inr (List.mem_cons_of_mem _ e)
open TL in
theorem part_sub {z y : Str} (hy : tl y ≠ []) (hk : y.cps.all (· < 256) = true) {p : Str} (h : p ∈ Txt.split z y) : p.length ≤ z.length ∧ ∀ c ∈ tl p, c ∈ tl z := by
  have e := split_spl z y hy (kind_ok hk)
  have hm : tl p ∈ spl (tl y) 0 [] (tl z) := by
    rw [← e]
    exact List.mem_map_of_mem h
  obtain ⟨a, b⟩ := spl_sub _ _ _ _ _ hm
  refine ⟨?_, fun c hc => ?_⟩
  · rw [len_tl, len_tl z]
    simpa using a
  · rcases b c hc with x | x
    · cases x
    · exact x
theorem ov_dx (H : Hp) : ∀ ps : List Str, DxAll H (ps.map fun p => ovI (wholeZ p)) (ps.map fun p => ovD (wholeZ p))
  | [] => .nil
  | p :: r => by
    refine .cons ?_ (ov_dx H r)
    show Dx H (ovI (wholeZ p)) (ovD (wholeZ p))
    cases wholeZ p with
    | none => exact .non
    | some n => exact .int n
theorem whole_int {z : Str} {n : Int} (h : wholeZ z = some n) : smallB n = true := by
  obtain ⟨_, a, b⟩ := whole_in h
  unfold smallB
  rw [decide_eq_true a, decide_eq_true b] <;> rfl
theorem pair_z (z : Str) : pairB (.tuple ((Txt.split z ".").map fun p => ovD (wholeZ p))) = (pairZ z).isSome := by
  unfold pairZ
  cases Txt.split z "." with
  | nil => rfl
  | cons a r =>
    cases r with
    | nil => cases ha : wholeZ a <;> simp [ha, pairB]
    | cons b r =>
      cases r with
      | nil =>
        cases ha : wholeZ a with
        | none => simp [ha, pairB, ovD, intB]
        | some n =>
          cases hb : wholeZ b with
          | none => simp [ha, hb, pairB, ovD, intB]
          | some m => simp [ha, hb, pairB, ovD, intB, whole_int ha, whole_int hb]
      | cons c r => cases ha : wholeZ a <;> cases hb : wholeZ b <;> simp [ha, hb, pairB]
theorem pair_some {z : Str} {f : Int × Int} (h : pairZ z = some f) : ((Txt.split z ".").map fun p => ovI (wholeZ p)) = [.int f.1, .int f.2] ∧ BigF f ∧ Txt.split z "." = [textZ f.1, textZ f.2] := by
  unfold pairZ at h
  split at h
  · rename_i a b e
    injection h with h
    subst h
    cases hs : Txt.split z "." with
    | nil => rw [hs] at e; simp at e
    | cons p r =>
      rw [hs] at e
      cases r with
      | nil => simp at e
      | cons q r =>
        cases r with
        | cons _ _ => simp at e
        | nil =>
          simp only [List.map_cons, List.map_nil, List.cons.injEq, and_true] at e
          obtain ⟨e1, e2⟩ := e
          obtain ⟨t1, b1, b2⟩ := whole_in e1
          obtain ⟨t2, b3, b4⟩ := whole_in e2
          refine ⟨by simp [e1, e2, ovI], ⟨b1, b2, b3, b4⟩, by rw [t1, t2]⟩
  · cases h
theorem dot_one : TL.tl ("." : Str) ≠ [] ∧ ("." : Str).cps.all (· < 256) = true ∧ (("." : Str).length == 0) = false := by decide +kernel
theorem blank_one : TL.tl (" " : Str) ≠ [] ∧ (" " : Str).cps.all (· < 256) = true ∧ ((" " : Str).length == 0) = false := by decide +kernel
theorem pairZ_two {z p q : Str} (h : Txt.split z "." = [p, q]) : pairZ z = match wholeZ p, wholeZ q with | some a, some b => some (a, b) | _, _ => none := by
  unfold pairZ
  rw [h]
  cases hp : wholeZ p <;> cases hq : wholeZ q <;> simp [hp, hq]
open TL in
theorem text_signs {n : Int} {c : Nat} (h : c ∈ tl (textZ n)) : c = 45 ∨ (48 ≤ c ∧ c ≤ 57) := by
  rw [tl_text] at h
  rcases List.mem_append.mp h with h | h
  · split at h
    · exact .inl (List.mem_singleton.mp h)
    · cases h
  · exact .inr (numL_digits _ _ h)
theorem join_two (a b : Str) : Txt.join "." [a, b] = (a ++ ("." : Str)) ++ b := by
  rw [TL.join_eq]
  rfl
open TL in
theorem split_pair (f : Int × Int) : Txt.split (pairT f) "." = [textZ f.1, textZ f.2] := by
  have e : pairT f = Txt.join "." [textZ f.1, textZ f.2] := (join_two _ _).symm
  rw [e]
  refine split_join (s := 46) (S := []) (by decide +kernel) dot_one.2.1 (by simp) fun p hp hm => ?_
  have : ∀ n : Int, 46 ∉ tl (textZ n) := fun n h => by
    have := text_signs h
    omega
  simp only [List.mem_cons, List.not_mem_nil, or_false] at hp
  rcases hp with rfl | rfl
  · exact this _ hm
  · exact this _ hm
theorem pairZ_text {f : Int × Int} (h : BigF f) : pairZ (pairT f) = some f := by
  rw [pairZ_two (split_pair f), whole_text h.1 h.2.1, whole_text h.2.2.1 h.2.2.2]
theorem join_back (z y : Str) : Txt.join y (Txt.split z y) = z := by
  rw [TL.join_eq]
  exact PySem.StrLaws.join_split z y
theorem text_pairZ {z : Str} {f : Int × Int} (h : pairZ z = some f) : pairT f = z := by
  have e := (pair_some h).2.2
  have j := join_back z "."
  rw [e, join_two] at j
  exact j
open TL in
theorem pair_signs {f : Int × Int} {c : Nat} (h : c ∈ tl (pairT f)) : c = 45 ∨ c = 46 ∨ (48 ≤ c ∧ c ≤ 57) := by
  unfold pairT at h
  rw [tl_append, tl_append] at h
  rcases List.mem_append.mp h with h | h
  · rcases List.mem_append.mp h with h | h
    · rcases text_signs h with q | q
      · exact .inl q
      · exact .inr (.inr q)
    · rw [show tl ("." : Str) = [46] by decide +kernel] at h
      exact .inr (.inl (List.mem_singleton.mp h))
  · rcases text_signs h with q | q
    · exact .inl q
    · exact .inr (.inr q)
open TL in
theorem pair_dot (f : Int × Int) : 46 ∈ tl (pairT f) := by
  unfold pairT
  rw [tl_append, tl_append, show tl ("." : Str) = [46] by decide +kernel]
  simp
open TL in
theorem split_row {fs : List (Int × Int)} (h : fs ≠ []) : Txt.split (Txt.join " " (fs.map pairT)) " " = fs.map pairT := by
  refine split_join (s := 32) (S := []) (by decide +kernel) blank_one.2.1 (by simpa using h) fun p hp hm => ?_
  obtain ⟨f, _, rfl⟩ := List.mem_map.mp hp
  have := pair_signs hm
  omega
theorem take_one {α : Type} {fs : List α} {i : Nat} {f : α} (h : fs[i]? = some f) : fs.take (i + 1) = fs.take i ++ [f] := by rw [List.take_add_one, h]; rfl
theorem same_put {H H' : Hp} {D : Addr} {o : HO} (m : Same H H') (n : H D = none) : Same H (upd H' D o) := fun b u q => by
  have : b ≠ D := fun e => by
    rw [e, n] at q
    cases q
  rw [upd_ne this]
  exact m b u q
end G

set_option Elab.async false
set_option linter.all false
set_option maxRecDepth 100000
set_option maxHeartbeats 4000000
/-! # Own classes: made where the making may raise, their properties, their methods, their own == and !=, their text -/
namespace G
open PySem PySem.Spec PyProof.Rows L2
/-! ## == and != by an own __eq__ -/
section
variable {prog : Program} {w : World} {A : Around} {E : Value → Shared → Prop} {s : Shared} {K : PySem.W.Frag} {x C f L : Addr} {ox : Obj} {od : Option Obj} {b tb : Value} {h₀ : Heap} {m : Str → Option Value}
theorem subStr (C : Addr) : PySem.W.subIn K (.type "str") (.ref C) = some false := by
  have e : fastBuiltinMro "str" = some [.type "str", .type "object"] := by decide +kernel
  show (fastBuiltinMro "str").map (·.contains (.ref C)) = some false
  rw [e]
  first
    | rfl
    | simp
open Builtin in
theorem neBody {Q : Fin → Shared → Prop} (hu : A.units < cLine) (X : K.In s.heap) (I : PySem.W.InstAt s.heap x ox C od)
    (hs : PySem.W.findIn K (.ref C) "__eq__" = some (some (.ref f))) (hf : PySem.W.isFn K (.ref f) = true)
    (h : wpAny (model prog w) A (call (.ref f) [.ref x, b]) (fun v s' => ∃ r, v = .bool r ∧ Q (.done (.ret (.bool (!r)))) s') E s) :
    wpAny (model prog w) A (Builtin.«object.__ne__» ⟨[.ref x, b], []⟩) Q E s := by
  unfold Builtin.«object.__ne__»
  refine wpAny_bind (m := slotArgs "__ne__" 1 _) (wpAny_pure ?_)
  refine wpAny_bind (m := cRoomFor _ _) (wpAny_cRoomFor hu ?_)
  refine wpAny_bind (m := callSpecialIfBound? (.ref x) (Str.ofString "__eq__") [b]) (PySem.W.ifBound_K X I hs hf (wpAny_mono h (fun v s' z => ?_) fun _ _ e => e))
  obtain ⟨r, rfl, q⟩ := z
  exact wpAny_bind (m := truthy (.bool r)) (wpAny_truthy_bool (wpAny_pure q))
theorem neCall {Q : Value → Shared → Prop} (hu : A.in1.units < cLine) (X : K.In s.heap) (I : PySem.W.InstAt s.heap x ox C od) (hm : PySem.W.mroIn K C (.type "object") = some true)
    (hs : PySem.W.findIn K (.ref C) "__eq__" = some (some (.ref f))) (hf : PySem.W.isFn K (.ref f) = true)
    (h : wpAny (model prog w) A.in1 (call (.ref f) [.ref x, b]) (fun v s' => ∃ r, v = .bool r ∧ Q (.bool (!r)) s') E s) :
    wpAny (model prog w) A (call (.builtin "object.__ne__") [.ref x, b]) Q E s :=
  wpAny_call (codeAny_call_builtin F.cmp_object.ne.plain F.cmpEntry_ne (PySem.W.check_slot F.cmpKind_ne F.cmpSplit_ne (I.type.andThen (PySem.W.looks_mroIn X hm)) (F.cmpArgs_ne _ _) (neBody hu X I hs hf h)))
theorem neBound {args : List Value} {Q : Option Value → Shared → Prop} {M : Model} (X : K.In s.heap) (I : PySem.W.InstAt s.heap x ox C od) (hs : PySem.W.findIn K (.ref C) "__ne__" = some (some (.builtin "object.__ne__")))
    (h : wpAny M A (call (.builtin "object.__ne__") (.ref x :: args)) (fun v => Q (some v)) E s) : wpAny M A (callSpecialIfBound? (.ref x) "__ne__" args) Q E s := by
  simp only [callSpecialIfBound?, bindSpecialIfBound?]
  refine wpAny_holding (wpAny_bind (wpAny_bind (wpAny_bind (I.type.here ((PySem.W.looks_findIn X hs).here ?_)))))
  refine wpAny_bind (wpAny_askSetting (wpAny_ite ?_))
  have fin : wpAny M A (call (.builtin "object.__ne__") ([.ref x] ++ args) >>= fun v => pure (some v)) Q E s := wpAny_bind (wpAny_mono h (fun v s' h' => wpAny_pure h') fun _ _ h' => h')
  split
  · exact wpAny_bind (wpAny_of_eq (F.cmp_object.ne.bind _) (wpAny_pure (by exact fin)))
  · exact wpAny_tryCatch (wpAny_bind (wpAny_of_eq (F.cmp_object.ne.bind _) (wpAny_pure (by exact fin))))
/-- x != b, x an instance of the class at C with its own ==, no != of its own -/
theorem ne_own {Q : Value → Shared → Prop} (hu : A.in1.units < cLine) (X : K.In s.heap) (I : PySem.W.InstAt s.heap x ox C od) (hb : PySem.W.Looks (model prog w) s.heap (typeOf b) tb) (hn : PySem.W.notFirst K C tb = true)
    (hn0 : PySem.W.findIn K (.ref C) "__ne__" = some (some (.builtin "object.__ne__"))) (hm : PySem.W.mroIn K C (.type "object") = some true)
    (hs : PySem.W.findIn K (.ref C) "__eq__" = some (some (.ref f))) (hf : PySem.W.isFn K (.ref f) = true)
    (h : wpAny (model prog w) A.in1 (call (.ref f) [.ref x, b]) (fun v s' => ∃ r, v = .bool r ∧ Q (.bool (!r)) s') E s) : wpAny (model prog w) A (richCompare .NotEq (.ref x) b) Q E s := by
  have hu0 : A.units < cLine := by
    have : A.in1.units = A.units + 1 := rfl
    omega
  have one : wpAny (model prog w) A (tryCompare (.ref x) "__ne__" b) (fun r s' => ∃ v, r = some v ∧ Q v s') E s := by
    unfold tryCompare
    refine wpAny_bind (neBound X I hn0 (wpAny_mono (neCall (Q := fun v s' => ∃ r : Bool, v = .bool r ∧ Q v s') hu X I hm hs hf (wpAny_mono h (fun v s' z => ?_) fun _ _ e => e)) (fun v s' hv => ?_) fun _ _ e => e))
    · obtain ⟨r, e, q⟩ := z
      exact ⟨r, e, _, rfl, q⟩
    · obtain ⟨r, rfl, q⟩ := hv
      exact wpAny_pure ⟨_, rfl, q⟩
  unfold richCompare
  simp only [oneThing_ref]
  refine wpAny_holding (wpAny_bind (wpAny_cRoomFor hu0 ?_))
  refine wpAny_bind (I.type.here (wpAny_bind (hb.here ?_)))
  rw [cmpInfo_NotEq]
  dsimp only
  split
  · rename_i q
    have e : PySem.W.subIn K tb (.ref C) = some false := by
      rcases Bool.or_eq_true_iff.mp hn with e | e
      · rw [beq_iff_eq.mp e] at q; simp at q
      · exact beq_iff_eq.mp e
    refine wpAny_bind ((PySem.W.looks_subIn X e).here ?_)
    simp only [Bool.false_eq_true, if_false]
    refine wpAny_bind (wpAny_mono one (fun r s' z => ?_) fun _ _ e => e)
    obtain ⟨v, rfl, hq⟩ := z
    exact wpAny_pure hq
  · refine wpAny_bind (wpAny_pure ?_)
    simp only [Bool.false_eq_true, if_false]
    refine wpAny_bind (wpAny_mono one (fun r s' z => ?_) fun _ _ e => e)
    obtain ⟨v, rfl, hq⟩ := z
    exact wpAny_pure hq
end
/-! ### over values -/
/-- what may stand on the right of == -/
inductive OnR (C : Addr) (H : Hp) : V → Prop where
  | ins {b dx : Addr} {fs : List (Str × V)} (h : H b = some (.ins C dx fs)) : OnR C H (.ref b)
  | str (z : Str) : OnR C H (.str z)
  | non : OnR C H .non
section
variable {X : Cx} {CX : CXT} {C g : Addr} {n : Nat} {sp : Sp} {E : XK}
theorem onR_looks {pins : List (Addr × Obj)} {σ : L2.St} {H : Hp} {s : Shared} {y : V} {u : Value} (I : Inv X pins σ H s) (o : OnR C H y) (r : RelV y u) :
    ∃ tb, PySem.W.Looks (model X.prog X.w) s.heap (typeOf u) tb ∧ PySem.W.notFirst X.K C tb = true := by
  cases o with
  | ins h =>
    cases r
    obtain ⟨mB, J, _⟩ := ins_get I.hok h
    obtain ⟨od, J, _⟩ := J.look
    exact ⟨.ref C, J.type, by simp [PySem.W.notFirst]⟩
  | str z =>
    obtain ⟨t, rfl⟩ := r
    refine ⟨.type "str", PySem.W.Looks.of_pure rfl, ?_⟩
    unfold PySem.W.notFirst
    rw [subStr]
    exact Bool.or_true _
  | non =>
    cases r
    refine ⟨.type "NoneType", PySem.W.Looks.of_pure rfl, ?_⟩
    unfold PySem.W.notFirst
    rw [HN.sub_none]
    exact Bool.or_true _
/-- x == y by the class's own def -/
def rEqOwn (C : Addr) (sp : Sp) (E : XK) : R2 := fun x y H Q => ∃ a dx fs, x = .ref a ∧ H a = some (.ins C dx fs) ∧ OnR C H y ∧ sp [x, y] H Q E
theorem op_eqOwn (hs : PySem.W.findIn X.K (.ref C) "__eq__" = some (some (.ref g))) (hf : PySem.W.isFn X.K (.ref g) = true) (F : FnR X.prog X.w X.K X.mg X.base CX n g sp) (hr : Room n X.A) (hx : Passes CX X E) :
    OpR X (compareOp .Eq) (rEqOwn C sp E) := by
  intro pins s σ H x y v u Q I rx ry h
  obtain ⟨a, dx, fs, rfl, ha, hy, q⟩ := h
  cases rx
  obtain ⟨tb, hb, hn⟩ := onR_looks I hy ry
  obtain ⟨mA, J, _⟩ := ins_get I.hok ha
  obtain ⟨od, J, _⟩ := J.look
  obtain ⟨m, hF⟩ := I.fr
  show wpAny (model X.prog X.w) X.A (richCompare .Eq (.ref a) u) _ _ _
  refine PySem.W.cmp_K (op := .Eq) (tb := tb) hr.units0 hF I.ok.mod.kin J hb hn hs hf ?_
  refine wpAny_mono (wpAny_call (run_fnR (us := [.ref a, u]) (vs := [.ref a, y]) F hr hx I (.cons rfl (.cons ry .nil)) q)) (fun w s' z => ?_) fun _ _ x => x
  obtain ⟨z', H', I', rz, qz⟩ := z
  exact SlX.cmpback rz ⟨z', H', I', rz, qz⟩
/-- x != y by the class's own def of == -/
def rNeOwn (C : Addr) (sp : Sp) (E : XK) : R2 := fun x y H Q => ∃ a dx fs, x = .ref a ∧ H a = some (.ins C dx fs) ∧ OnR C H y ∧ sp [x, y] H (fun v H' => ∃ b, v = .bl b ∧ Q (.bl (!b)) H') E
theorem op_neOwn (hs : PySem.W.findIn X.K (.ref C) "__eq__" = some (some (.ref g))) (hf : PySem.W.isFn X.K (.ref g) = true) (hn0 : PySem.W.findIn X.K (.ref C) "__ne__" = some (some (.builtin "object.__ne__")))
    (hm : PySem.W.mroIn X.K C (.type "object") = some true) (F : FnR X.prog X.w X.K X.mg X.base CX n g sp) (hr : Room (n + 1) X.A) (hx : Passes CX X E) : OpR X (compareOp .NotEq) (rNeOwn C sp E) := by
  intro pins s σ H x y v u Q I rx ry h
  obtain ⟨a, dx, fs, rfl, ha, hy, q⟩ := h
  cases rx
  obtain ⟨tb, hb, hn⟩ := onR_looks I hy ry
  obtain ⟨mA, J, _⟩ := ins_get I.hok ha
  obtain ⟨od, J, _⟩ := J.look
  show wpAny (model X.prog X.w) X.A (richCompare .NotEq (.ref a) u) _ _ _
  refine ne_own (tb := tb) (by have := hr.un; show X.A.units + 1 < _; omega) I.kIn J hb hn hn0 hm hs hf ?_
  refine wpAny_mono (wpAny_call (SlX.run_at (us := [.ref a, u]) (ws := [.ref a, y]) F hr.in1 I.env0.in1 hx I (.cons rfl (.cons ry .nil)) q)) (fun w s' z => ?_) fun _ _ x => x
  obtain ⟨z', H', I', rz, b, rfl, qz⟩ := z
  cases rz
  exact ⟨b, rfl, .bl (!b), H', I', rfl, qz⟩
/-- str(x) by the class's own def -/
def rStrOwn (C : Addr) (sp : Sp) (E : XK) : List V → Hp → VK → Prop := fun xs H Q => ∃ a dx fs, xs = [V.ref a] ∧ H a = some (.ins C dx fs) ∧ sp [.ref a] H (fun z H' => ∃ i, z = .str i ∧ Q z H') E
theorem call_strOwn (hs : PySem.W.findIn X.K (.ref C) "__str__" = some (some (.ref g))) (hf : PySem.W.isFn X.K (.ref g) = true) (F : FnR X.prog X.w X.K X.mg X.base CX n g sp) (hr : Room (n + 2) X.A) (hx : Passes CX X E) : CallR X (.type "str") (rStrOwn C sp E) := by
  intro pins s σ H xs us Q I r h
  obtain ⟨a, dx, fs, rfl, ha, q⟩ := h
  obtain ⟨u, rfl, ru⟩ := r.one
  cases (show u = Value.ref a from ru)
  obtain ⟨mA, J, _⟩ := ins_get I.hok ha
  obtain ⟨od, J, _⟩ := J.look
  have hr2 : Room n X.A.in1.in1 := (show Room (n + 1) X.A.in1 from Room.in1 hr).in1
  refine PySem.W.kso_call (by have := hr.un; show X.A.units + 1 + 1 < _; omega) I.kIn J hs hf (wpAny_mono (wpAny_call (SlX.run_at (us := [.ref a]) (ws := [.ref a]) F hr2 I.env0.in1.in1 hx I (.cons rfl .nil) q)) (fun w s' z => ?_) fun _ _ x => x)
  obtain ⟨z', H', I', rz, i, ei, qz⟩ := z
  subst ei
  obtain ⟨t, e⟩ := (show ∃ t, w = Value.str i t from rz)
  cases e
  exact ⟨.str i, H', I', ⟨t, rfl⟩, qz⟩
end
/-! ## promises of methods -/
/-- the method m of the class at C -/
structure MthQ (P : Program) (w : World) (K : PySem.W.Frag) (mg : Str → Option Value) (base : Heap) (k : Nat) (C : Addr) (m : Str) (ps : List Str) (sp : Sp) : Prop where
  ex : ∃ f fd, FnOk P w K mg base CX0 k f fd ps sp ∧ Meth K C m f ∧ Binds K fd ps []
  cl : Cls K C
/-- the property m -/
structure PrpQ (P : Program) (w : World) (K : PySem.W.Frag) (mg : Str → Option Value) (base : Heap) (k : Nat) (C : Addr) (m : Str) (sp : Sp) : Prop where
  ex : ∃ p f fd, FnOk P w K mg base CX0 k f fd ["self"] sp ∧ PropOf K C m p f ∧ Binds K fd ["self"] []
  cl : Cls K C
/-- the making, which may raise -/
structure MakQ (P : Program) (w : World) (K : PySem.W.Frag) (mg : Str → Option Value) (base : Heap) (k : Nat) (x : Str) (C : Addr) (ps : List Str) (sp : Sp) : Prop where
  ex : ∃ f fd, FnOk P w K mg base (L2.CX P w) k f fd ps sp ∧ Mk K C f ∧ Binds K fd ps []
  at_ : mg x = some (.ref C)
/-- the classmethod m, which may raise -/
structure CmQ (P : Program) (w : World) (K : PySem.W.Frag) (mg : Str → Option Value) (base : Heap) (k : Nat) (C : Addr) (m : Str) (ps : List Str) (sp : Sp) : Prop where
  ex : ∃ mc p f fd, FnOk P w K mg base (L2.CX P w) k f fd ps sp ∧ ClX.CRead K C mc ∧ ClX.CMet K C mc m p f ∧ Binds K fd ps []
/-- a def inside a class -/
structure MetAt (K : PySem.W.Frag) (C : Addr) (m qual : Str) (st : Stmt) (ps : List Str) : Prop where
  ex : ∃ f fd, Fun K m qual st f fd ∧ Meth K C m f ∧ Binds K fd ps []
structure IniAt (K : PySem.W.Frag) (C : Addr) (qual : Str) (st : Stmt) (ps : List Str) : Prop where
  ex : ∃ f fd, Fun K "__init__" qual st f fd ∧ Mk K C f ∧ Binds K fd ps []
structure PrpAt (K : PySem.W.Frag) (C : Addr) (m qual : Str) (st : Stmt) : Prop where
  ex : ∃ p f fd, Fun K m qual st f fd ∧ PropOf K C m p f ∧ Binds K fd ["self"] []
structure CmAt (K : PySem.W.Frag) (C : Addr) (m qual : Str) (st : Stmt) (ps : List Str) : Prop where
  ex : ∃ mc p f fd, Fun K m qual st f fd ∧ ClX.CRead K C mc ∧ ClX.CMet K C mc m p f ∧ Binds K fd ps []
section
variable {P : Program} {w : World} {K : PySem.W.Frag} {mg : Str → Option Value} {base : Heap} {C : Addr} {m qual x : Str} {st : Stmt} {N ps : List Str} {k : Nat} {sp : Sp}
theorem mthOk (D : MetAt K C m qual st ps) (c : Cls K C) (S : FnScope N ps (defScope st)) (len : ∀ xs H Q E, sp xs H Q E → xs.length = ps.length)
    (hbody : ∀ (f : Addr) (cdv : Value) (A : Around) (out : List Env) (s : Shared) (H : Hp) (xs : List V) (Q : VK) (E : XK),
      Room k (A.deeper (envOfC qual (defScope st) s.heap.objs.size f cdv)) → sp xs H Q E →
      ∃ t, PSs (cxOf CX0 P w K mg base N qual (defScope st) f cdv A out s H E).nox (defBody st) t ∧
        t { nx := fun _ H' => Q .non H', rt := Q } (start N xs) H) : MthQ P w K mg base (k + 1) C m ps sp := by
  obtain ⟨f, fd, F, mm, b⟩ := D.ex
  refine ⟨⟨f, fd, (okQ (gq := false) F S len fun cdv A out s H xs Q E g r h => ?_).ok, mm, b⟩, c⟩
  obtain ⟨t, ht, q⟩ := hbody f cdv A out s H xs Q E r h
  exact ⟨t, ht.nox, q⟩
theorem prpOk (D : PrpAt K C m qual st) (c : Cls K C) (S : FnScope N ["self"] (defScope st)) (len : ∀ xs H Q E, sp xs H Q E → xs.length = 1)
    (hbody : ∀ (f : Addr) (cdv : Value) (A : Around) (out : List Env) (s : Shared) (H : Hp) (xs : List V) (Q : VK) (E : XK),
      Room k (A.deeper (envOfC qual (defScope st) s.heap.objs.size f cdv)) → sp xs H Q E →
      ∃ t, PSs (cxOf CX0 P w K mg base N qual (defScope st) f cdv A out s H E).nox (defBody st) t ∧
        t { nx := fun _ H' => Q .non H', rt := Q } (start N xs) H) : PrpQ P w K mg base (k + 1) C m sp := by
  obtain ⟨p, f, fd, F, mm, b⟩ := D.ex
  refine ⟨⟨p, f, fd, (okQ (gq := false) F S len fun cdv A out s H xs Q E g r h => ?_).ok, mm, b⟩, c⟩
  obtain ⟨t, ht, q⟩ := hbody f cdv A out s H xs Q E r h
  exact ⟨t, ht.nox, q⟩
theorem makOk (D : IniAt K C qual st ps) (g : mg x = some (.ref C)) (S : FnScope N ps (defScope st)) (len : ∀ xs H Q E, sp xs H Q E → xs.length = ps.length)
    (hbody : ∀ (f : Addr) (cdv : Value) (A : Around) (out : List Env) (s : Shared) (H : Hp) (xs : List V) (Q : VK) (E : XK),
      Room k (A.deeper (envOfC qual (defScope st) s.heap.objs.size f cdv)) → sp xs H Q E →
      ∃ t, PSs (cxOf (L2.CX P w) P w K mg base N qual (defScope st) f cdv A out s H E) (defBody st) t ∧
        t { nx := fun _ H' => Q .non H', rt := Q } (start N xs) H) : MakQ P w K mg base (k + 1) x C ps sp := by
  obtain ⟨f, fd, F, mk, b⟩ := D.ex
  exact ⟨⟨f, fd, (okQ (gq := false) F S len fun cdv A out s H xs Q E _ r h => hbody f cdv A out s H xs Q E r h).ok, mk, b⟩, g⟩
theorem cmOk (D : CmAt K C m qual st ps) (S : FnScope N ps (defScope st)) (len : ∀ xs H Q E, sp xs H Q E → xs.length = ps.length)
    (hbody : ∀ (f : Addr) (cdv : Value) (A : Around) (out : List Env) (s : Shared) (H : Hp) (xs : List V) (Q : VK) (E : XK),
      Room k (A.deeper (envOfC qual (defScope st) s.heap.objs.size f cdv)) → sp xs H Q E →
      ∃ t, PSs (cxOf (L2.CX P w) P w K mg base N qual (defScope st) f cdv A out s H E) (defBody st) t ∧
        t { nx := fun _ H' => Q .non H', rt := Q } (start N xs) H) : CmQ P w K mg base (k + 1) C m ps sp := by
  obtain ⟨mc, p, f, fd, F, rd, cm, b⟩ := D.ex
  exact ⟨mc, p, f, fd, (okQ (gq := false) F S len fun cdv A out s H xs Q E _ r h => hbody f cdv A out s H xs Q E r h).ok, rd, cm, b⟩
end
def tMakeS (C : Addr) (sp : Sp) (E : L2.St → XK) (t : TA) : TE := fun σ H Q => t σ H fun vs H1 => ∀ x dx, H1 x = none → H1 dx = none → dx ≠ x →
  sp (.ref x :: vs) (upd (upd H1 dx (.own x)) x (.ins C dx [])) (fun v H2 => v = .non ∧ Q (.ref x) H2) (E σ)
/-- i: the slot that holds the class -/
def tMakeLS (i : Nat) (C : Addr) (sp : Sp) (E : L2.St → XK) (t : TA) : TE := fun σ H Q => σ[i]? = some (some (.ref C)) ∧ tMakeS C sp E t σ H Q
def tCMethS (C : Addr) (sp : Sp) (E : L2.St → XK) (ta : TE) (t : TA) : TE := fun σ H Q => ta σ H fun x H1 => x = .ref C ∧ t σ H1 fun vs H2 => sp (.ref C :: vs) H2 Q (E σ)
section
variable {X : Cx} {CX : CXT} {C f g p : Addr} {n j k i : Nat} {fd : FuncData} {ps : List Str} {sp : Sp} {E : L2.St → XK} {x m : Str} {pos apos np : Pos} {e o : Expr} {es : List Expr} {ta : TE} {t : TA} {pl : Sem Bool}
theorem px0 {X : Cx} : ∀ σ, PassesAt (L2.CX X.prog X.w) X σ ((fun _ => E0 : L2.St → XK) σ) := fun σ pins H s e s' I c => by
  obtain ⟨a, B, H', cls, d, _, _, _, _, _, _, _, z⟩ := c
  exact z.elim
theorem pxT {X : Cx} {W : WX} (tk : Takes X W) : ∀ σ, PassesAt (L2.CX X.prog X.w) X σ (WE W σ) := fun σ => passAt tk σ
/-- a def that may raise, called so that it doesn't -/
theorem pe_kx0 {gq : Bool} (c : CalXQ gq X.prog X.w X.K X.mg X.base k x ps sp) (hgd : gq = true → X.A.guards = some []) (hr : Room j X.A) (hk : k ≤ j) (hg : Gl X x) (ha : PA X (e :: es) t)
    (hdb : (x == ("__debug__" : Str)) = false := by decide)
    (he : starEach (e :: es) X.env = (false, eval e X.env) :: starEach es X.env := by rfl)
    (hpl : (backTo pos (starEach es X.env)).any (·.1) = false := by rfl) :
    PE X (.Call (.Name x np) (e :: es) [] pos) (tCallS sp (fun _ => E0) t) := by
  obtain ⟨f, fd, F, m, kp, b⟩ := c.ex
  exact pe_q F hgd (hr.mono hk) hg m kp b px0 ha hdb he hpl
theorem makeS {pins : List (Addr × Obj)} {σ : L2.St} {H : Hp} {s : Shared} {Q : VK} {us : List Value} {vs : List V} (M : Mk X.K C f) (F : FnOk X.prog X.w X.K X.mg X.base CX k f fd ps sp) (hr : Room (k + 1) X.A) (hb : Binds X.K fd ps [])
    (hx : PassesAt CX X σ (E σ)) (I : Inv X pins σ H s) (r : Vals vs us)
    (h : ∀ x dx, H x = none → H dx = none → dx ≠ x → sp (.ref x :: vs) (upd (upd H dx (.own x)) x (.ins C dx [])) (fun v H2 => v = .non ∧ Q (.ref x) H2) (E σ)) :
    wpAny (model X.prog X.w) X.A (call (.ref C) us) (EP X pins σ Q) X.xe s := by
  have hq := h (s.heap.objs.size + 1) s.heap.objs.size (I.hok.fresh (Nat.le_succ _)) (I.hok.fresh (Nat.le_refl _)) (Nat.ne_of_lt (Nat.lt_succ_self _))
  have I2 := Inv.made (C := C) I
  have r2 : Vals (V.ref (s.heap.objs.size + 1) :: vs) (Value.ref (s.heap.objs.size + 1) :: us) := .cons rfl r
  have hl : (Value.ref (s.heap.objs.size + 1) :: us).length = ps.length := r2.length.symm.trans (F.len _ _ _ _ hq)
  have hbb := hb _ (Value.ref (s.heap.objs.size + 1) :: us) I2.kIn (by rw [List.append_nil]; exact hl)
  rw [List.append_nil] at hbb
  refine wpAny_call (make_map (f := f) I.kIn M.makes M.init (beq_iff_eq.mp M.fn) (codeAny_mono (F.run _ X.stack _ _ ⟨Value.ref (s.heap.objs.size + 1) :: us, []⟩ (Value.ref (s.heap.objs.size + 1) :: us) _ _ (E σ) (hr.make C us [])
    (I2.env0.make C us []) hbb r2 hq) fun r s' hq' => ?_))
  cases r with
  | error e => exact hx pins _ _ e s' I2 hq'
  | ok fl =>
    cases fl with
    | ret u =>
      obtain ⟨v, H', I3, rv, ev, q3⟩ := I2.after hq'
      subst ev
      exact ⟨rv, ⟨V.ref (s.heap.objs.size + 1), H', I3, rfl, q3⟩⟩
    | next => exact False.elim hq'
    | brk => exact False.elim hq'
    | cont => exact False.elim hq'
theorem pe_mkS (M : MakQ X.prog X.w X.K X.mg X.base k x C ps sp) (hx : ∀ σ, PassesAt (L2.CX X.prog X.w) X σ (E σ)) (hr : Room j X.A) (hk : k + 1 ≤ j) (hg : Gl X x) (ha : PA X (e :: es) t)
    (hdb : (x == ("__debug__" : Str)) = false := by decide) (he : starEach (e :: es) X.env = (false, eval e X.env) :: starEach es X.env := by rfl) (hpl : (backTo pos (starEach es X.env)).any (·.1) = false := by rfl) :
    PE X (.Call (.Name x np) (e :: es) [] pos) (tMakeS C sp E t) := by
  obtain ⟨f, fd, F, mk, hb⟩ := M.ex
  refine ⟨fun pins s σ H Q I h => ?_⟩
  refine wpAny_Call_Name_kw (ld_glob I hg M.at_ ?_ hdb)
  refine PySem.W.callWith_K (h₀ := X.base) I.ok.mod.kin mk.kp (thn (ha.run pos pins s σ H _ I h) fun us s1 ⟨vs, H1, I1, r, q⟩ => ⟨I1.kIn, ?_⟩) he hpl
  exact makeS mk F (hr.mono hk) hb (hx σ) I1 r q
theorem pe_mkLS (M : MakQ X.prog X.w X.K X.mg X.base k x C ps sp) {y : Str} (hx : ∀ σ, PassesAt (L2.CX X.prog X.w) X σ (E σ)) (hr : Room j X.A) (hk : k + 1 ≤ j) (hN : X.N[i]? = some y) (hv : Vis X.env.scope y) (ha : PA X (e :: es) t)
    (hdb : (y == ("__debug__" : Str)) = false := by decide) (hcd : (y == ("__classdict__" : Str)) = false := by decide) (he : starEach (e :: es) X.env = (false, eval e X.env) :: starEach es X.env := by rfl) (hpl : (backTo pos (starEach es X.env)).any (·.1) = false := by rfl) :
    PE X (.Call (.Name y np) (e :: es) [] pos) (tMakeLS i C sp E t) := by
  obtain ⟨f, fd, F, mk, hb⟩ := M.ex
  refine ⟨fun pins s σ H Q I h => ?_⟩
  obtain ⟨hs, ht⟩ := h
  refine wpAny_Call_Name_kw (thn ((pe_var (pos := np) hN hv hdb hcd).run pins s σ H (fun v H1 => v = .ref C ∧ H1 = H) I ⟨.ref C, hs, rfl, rfl⟩) fun u s1 ⟨v, H1, I1, r1, q1⟩ => ?_)
  obtain ⟨rfl, rfl⟩ := q1
  cases r1
  refine PySem.W.callWith_K (h₀ := X.base) I.ok.mod.kin mk.kp (thn (ha.run pos pins s1 σ _ _ I1 ht) fun us s2 ⟨vs, H2, I2, r, q⟩ => ⟨I2.kIn, ?_⟩) he hpl
  exact makeS mk F (hr.mono hk) hb (hx σ) I2 r q
theorem pe_cmS (M : CmQ X.prog X.w X.K X.mg X.base k C m ps sp) (hx : ∀ σ, PassesAt (L2.CX X.prog X.w) X σ (E σ)) (hr : Room j X.A) (hk : k ≤ j) (he : PE X o ta) (ha : PA X (e :: es) t)
    (hst : starEach (e :: es) X.env = (false, eval e X.env) :: starEach es X.env := by rfl) (hpl : (backTo pos (starEach es X.env)).any (·.1) = false := by rfl)
    (ht : eval (.Call (.Attribute o m apos) (e :: es) [] pos) X.env = (do
      let ov ← eval o X.env
      standAt apos.atName
      let (f, first) ← holding [ov] (getMethod ov m pl)
      callWith pos f first (backTo pos (starEach (e :: es) X.env)) (backToKw pos (keywordEach [] X.env))) := by rfl) :
    PE X (.Call (.Attribute o m apos) (e :: es) [] pos) (tCMethS C sp E ta t) := by
  obtain ⟨mc, p, f, fd, F, rd, cm, hb⟩ := M.ex
  refine ⟨fun pins s σ H Q I h => ?_⟩
  refine PySem.W.methodCall_KW (pl := pl) (thn (he.run pins s σ H _ I h) fun u s1 ⟨x, H1, I1, rx, ex, q⟩ => ?_) ht
  subst ex
  obtain rfl : u = Value.ref C := rx
  refine ClX.getmethcm_ok I1 rd cm fun s2 I2 => ?_
  refine ClX.callwith_cm I2 (ClX.base_none I1 (Nat.le_refl _)) cm.fi (thn (ha.run pos _ s2 σ H1 _ I2 q) fun us s3 ⟨vs, H2, I3, rv, q2⟩ => ⟨⟨ClX.pin_at I3, I3.kIn⟩, ?_⟩) hst hpl
  have hl : (Value.ref C :: us).length = ps.length := (Vals.length (.cons rfl rv : Vals (V.ref C :: vs) (Value.ref C :: us))).symm.trans (F.len _ _ _ _ q2)
  have hbb := hb s3 (Value.ref C :: us) I3.kIn (by rw [List.append_nil]; exact hl)
  rw [List.append_nil] at hbb
  have z : wpAny (model X.prog X.w) X.A (call (.ref s1.heap.objs.size) us) (EP X ((s1.heap.objs.size, PySem.W.methodObj (.ref f) (.ref C)) :: pins) σ Q) X.xe s3 :=
    wpAny_call (PySem.W.method_call (ClX.pin_at I3) (codeAny_mono (F.run X.A X.stack s3 H2 ⟨Value.ref C :: us, []⟩ (Value.ref C :: us) (V.ref C :: vs) Q (E σ) (hr.mono hk) I3.env0 hbb (.cons rfl rv) q2) fun r s' hq => by
      cases r with
      | error e => exact hx σ _ H2 s3 e s' I3 hq
      | ok fl =>
        cases fl with
        | ret u => exact I3.after hq
        | next => exact False.elim hq
        | brk => exact False.elim hq
        | cont => exact False.elim hq))
  exact thn z fun _ _ y => ClX.unpinE y
theorem pe_pr (M : PrpQ X.prog X.w X.K X.mg X.base k C m sp) (hr : Room j X.A) (hk : k + 1 ≤ j) (he : PE X e ta) (hab : attributeBase e m X.env (eval e X.env) = eval e X.env := by rfl) : PE X (.Attribute e m pos) (tProp C sp [] E0 ta) := by
  obtain ⟨p, f, fd, F, hp, hb⟩ := M.ex
  exact pe_prop he M.cl hp F (hr.mono hk) hb .nil (fun _ _ _ _ _ _ _ z => z.elim) hab
theorem pe_mt0 (M : MthQ X.prog X.w X.K X.mg X.base k C m ps sp) (hr : Room j X.A) (hk : k ≤ j) (he : PE X o ta)
    (ht : eval (.Call (.Attribute o m apos) [] [] pos) X.env = (do
      let ov ← eval o X.env
      standAt apos.atName
      let (f, first) ← holding [ov] (getMethod ov m pl)
      callWith pos f first (backTo pos (starEach [] X.env)) (backToKw pos (keywordEach [] X.env))) := by rfl) :
    PE X (.Call (.Attribute o m apos) [] [] pos) (tMeth C m sp [] E0 ta tNil) := by
  obtain ⟨f, fd, F, hm, hb⟩ := M.ex
  exact pe_meth0 he M.cl hm F (hr.mono hk) hb .nil pass0 ht
end
end G
namespace G
open PySem PySem.Spec PyProof.Rows L2
/-- sum of a tuple of whole numbers -/
def rSumT (K : PySem.W.Frag) : List V → Hp → VK → Prop := fun vs H Q => ∃ (a : Addr) (ns : List Int), vs = [V.ref a] ∧ SqT K H a (ns.map V.int) ∧ Q (.int ns.sum) H
theorem cr_sumT {X : Cx} (hc : X.calm = true) : CallR X (.builtin "sum") (rSumT X.K) := by
  intro pins s σ H vs us Q I r h
  obtain ⟨a, ns, rfl, hs, q⟩ := h
  obtain ⟨its, rv, hl, _⟩ := I.tuple hs
  rw [Vals.ref1 r]
  have hi := rv.ints
  obtain ⟨xs, e⟩ := hi.allInts.items
  have hn : numsOf (intItems xs).toList = ns := by rw [← e]; exact hi.numsOf
  rw [nums_intItems] at hn
  rw [e] at hl
  refine PySem.W.ktm_sumG (I.ok.hd hc) hl fun h' tk t' hk => ?_
  refine ⟨.int ns.sum, H, I.kept hk, ⟨t', ?_⟩, q⟩
  rw [preSum_eq, List.take_of_length_le (by simp), hn]
/-- promises of ==, != and str of a class -/
structure EqQ (P : Program) (w : World) (K : PySem.W.Frag) (mg : Str → Option Value) (base : Heap) (k : Nat) (C : Addr) (sp : Sp) : Prop where
  ex : ∃ f fd, FnOk P w K mg base CX0 k f fd ["self", "other"] sp ∧ Meth K C "__eq__" f ∧ Binds K fd ["self", "other"] []
  ne : PySem.W.findIn K (.ref C) "__ne__" = some (some (.builtin "object.__ne__"))
  ob : PySem.W.mroIn K C (.type "object") = some true
structure StrQ (P : Program) (w : World) (K : PySem.W.Frag) (mg : Str → Option Value) (base : Heap) (k : Nat) (C : Addr) (sp : Sp) : Prop where
  ex : ∃ f fd, FnOk P w K mg base CX0 k f fd ["self"] sp ∧ Meth K C "__str__" f ∧ Binds K fd ["self"] []
section
variable {X : Cx} {C : Addr} {j k : Nat} {sp : Sp}
theorem raw2 {P : Program} {w : World} {K : PySem.W.Frag} {mg : Str → Option Value} {base : Heap} {f : Addr} {fd : FuncData} {ps : List Str} (F : FnOk P w K mg base CX0 k f fd ps sp) (hb : Binds K fd ps []) : FnR P w K mg base CX0 k f sp := by
  have := F.raw hb (dvs := []) .nil
  refine this.imp fun vs H Q E h => ?_
  rw [List.append_nil]
  exact h
theorem op_eqQ (M : EqQ X.prog X.w X.K X.mg X.base k C sp) (hr : Room j X.A) (hk : k ≤ j) : OpR X (compareOp .Eq) (rEqOwn C sp E0) := by
  obtain ⟨f, fd, F, hm, hb⟩ := M.ex
  exact op_eqOwn hm.at_ hm.fn (raw2 F hb) (hr.mono hk) pass0
theorem op_neQ (M : EqQ X.prog X.w X.K X.mg X.base k C sp) (hr : Room j X.A) (hk : k + 1 ≤ j) : OpR X (compareOp .NotEq) (rNeOwn C sp E0) := by
  obtain ⟨f, fd, F, hm, hb⟩ := M.ex
  exact op_neOwn hm.at_ hm.fn M.ne M.ob (raw2 F hb) (hr.mono hk) pass0
theorem call_strQ (M : StrQ X.prog X.w X.K X.mg X.base k C sp) (hr : Room j X.A) (hk : k + 2 ≤ j) : CallR X (.type "str") (rStrOwn C sp E0) := by
  obtain ⟨f, fd, F, hm, hb⟩ := M.ex
  exact call_strOwn hm.at_ hm.fn (raw2 F hb) (hr.mono hk) pass0
end
end G
namespace G
open PySem PySem.Spec PyProof.Rows L2
/-! ## what the top has left of a class -/
section
variable {K : PySem.W.Frag} {C : Addr} {m qual : Str} {st : Stmt} {ps : List Str} {f p : Addr} {oc : Value} {od an : Option Addr} {osl : Array (Option Value)} {kV doc pm cdv ct mc : Value} {rest : List Value}
theorem metAt (a : PySem.W.findIn K (.ref C) m = some (some (.ref f))) (i : PySem.W.isFn K (.ref f) = true)
    (l : K.lookup f = some ⟨oc, od, .func (PySem.W.fnOf m qual (defArgs st) (defBody st) (defScope st) .none kV doc pm an cdv ct), osl⟩) (c : PySem.W.codeIn K cdv qual = true) (k : PySem.W.keepIn K (.ref f) = true)
    (hb : ∀ us : List Value, us.length = ps.length → bindArgs (PySem.W.fnOf m qual (defArgs st) (defBody st) (defScope st) .none kV doc pm an cdv ct) ⟨us, []⟩ = pure (ps.zip us)) : MetAt K C m qual st ps :=
  ⟨f, _, fun_mk l c k, ⟨a, i, k⟩, Binds.all hb⟩
theorem iniAt (mk : PySem.W.makesIn K C = true) (a : PySem.W.findIn K (.ref C) "__init__" = some (some (.ref f))) (i : PySem.W.isFn K (.ref f) = true) (kc : PySem.W.keepIn K (.ref C) = true)
    (l : K.lookup f = some ⟨oc, od, .func (PySem.W.fnOf "__init__" qual (defArgs st) (defBody st) (defScope st) .none kV doc pm an cdv ct), osl⟩) (c : PySem.W.codeIn K cdv qual = true) (k : PySem.W.keepIn K (.ref f) = true)
    (hb : ∀ us : List Value, us.length = ps.length → bindArgs (PySem.W.fnOf "__init__" qual (defArgs st) (defBody st) (defScope st) .none kV doc pm an cdv ct) ⟨us, []⟩ = pure (ps.zip us)) : IniAt K C qual st ps :=
  ⟨f, _, fun_mk l c k, ⟨mk, a, i, kc⟩, Binds.all hb⟩
theorem prpAt (a : PySem.W.findIn K (.ref C) m = some (some (.ref p))) (g : PySem.W.specialIn K (.ref p) "__get__" = some (some (.builtin "property.__get__"))) (t : PySem.W.takesIn K (.ref p) = some true) (r : PySem.W.recIn K p "property" = some (.ref f :: rest))
    (l : K.lookup f = some ⟨oc, od, .func (PySem.W.fnOf m qual (defArgs st) (defBody st) (defScope st) .none kV doc pm an cdv ct), osl⟩) (c : PySem.W.codeIn K cdv qual = true) (k : PySem.W.keepIn K (.ref f) = true)
    (hb : ∀ us : List Value, us.length = (["self"] : List Str).length → bindArgs (PySem.W.fnOf m qual (defArgs st) (defBody st) (defScope st) .none kV doc pm an cdv ct) ⟨us, []⟩ = pure ((["self"] : List Str).zip us)) : PrpAt K C m qual st :=
  ⟨p, f, _, fun_mk l c k, ⟨a, g, t, _, r⟩, Binds.all hb⟩
theorem cmAt (ga : PySem.W.specialIn K (.ref C) "__getattribute__" = some (some (.builtin "type.__getattribute__"))) (rd : PySem.W.readsIn K C mc = true) (a : PySem.W.findCls K (.ref C) mc m = some (.get (.builtin "classmethod.__get__") (.ref p) .none (.ref C))) (r : PySem.W.recIn K p "classmethod" = some (.ref f :: rest)) (fi : PySem.W.fnIn K f = true)
    (l : K.lookup f = some ⟨oc, od, .func (PySem.W.fnOf m qual (defArgs st) (defBody st) (defScope st) .none kV doc pm an cdv ct), osl⟩) (c : PySem.W.codeIn K cdv qual = true) (k : PySem.W.keepIn K (.ref f) = true)
    (hb : ∀ us : List Value, us.length = ps.length → bindArgs (PySem.W.fnOf m qual (defArgs st) (defBody st) (defScope st) .none kV doc pm an cdv ct) ⟨us, []⟩ = pure (ps.zip us)) : CmAt K C m qual st ps :=
  ⟨mc, p, f, _, fun_mk l c k, ⟨rd, ga⟩, ⟨a, ⟨_, r⟩, fi⟩, Binds.all hb⟩
end
end G


set_option Elab.async false
set_option linter.all false
set_option maxRecDepth 100000
set_option maxHeartbeats 4000000
namespace G
open PySem PySem.Spec PyProof.Rows L2
def top (i : Nat) : Stmt := PySem.Challenge.pw_fingerbooks_k14_pages_told.main.body.getD i (.Pass ⟨0, 0, 0, 0⟩)
abbrev s_is_integer : Stmt := top 9
abbrev N_is_integer : List Str := ["value"]
theorem sc_is_integer : FnScope N_is_integer ["value"] (defScope s_is_integer) := ⟨rfl, rfl, rfl, by decide +kernel, rfl, by decide +kernel, by decide +kernel⟩
abbrev s_is_name : Stmt := top 10
abbrev N_is_name : List Str := ["value"]
theorem sc_is_name : FnScope N_is_name ["value"] (defScope s_is_name) := ⟨rfl, rfl, rfl, by decide +kernel, rfl, by decide +kernel, by decide +kernel⟩
abbrev s_integer_of : Stmt := top 11
abbrev N_integer_of : List Str := ["text", "figures"]
theorem sc_integer_of : FnScope N_integer_of ["text"] (defScope s_integer_of) := ⟨rfl, rfl, rfl, by decide +kernel, rfl, by decide +kernel, by decide +kernel⟩
abbrev s_words_of : Stmt := top 12
abbrev N_words_of : List Str := ["line"]
theorem sc_words_of : FnScope N_words_of ["line"] (defScope s_words_of) := ⟨rfl, rfl, rfl, by decide +kernel, rfl, by decide +kernel, by decide +kernel⟩
abbrev s_is_pair : Stmt := top 15
abbrev N_is_pair : List Str := ["value"]
theorem sc_is_pair : FnScope N_is_pair ["value"] (defScope s_is_pair) := ⟨rfl, rfl, rfl, by decide +kernel, rfl, by decide +kernel, by decide +kernel⟩
abbrev s_is_pair_within : Stmt := top 16
abbrev N_is_pair_within : List Str := ["value", "least", "greatest"]
theorem sc_is_pair_within : FnScope N_is_pair_within ["value", "least", "greatest"] (defScope s_is_pair_within) := ⟨rfl, rfl, rfl, by decide +kernel, rfl, by decide +kernel, by decide +kernel⟩
abbrev s_is_form : Stmt := top 17
abbrev N_is_form : List Str := ["value"]
theorem sc_is_form : FnScope N_is_form ["value"] (defScope s_is_form) := ⟨rfl, rfl, rfl, by decide +kernel, rfl, by decide +kernel, by decide +kernel⟩
abbrev s_write_pair : Stmt := top 18
abbrev N_write_pair : List Str := ["pair"]
theorem sc_write_pair : FnScope N_write_pair ["pair"] (defScope s_write_pair) := ⟨rfl, rfl, rfl, by decide +kernel, rfl, by decide +kernel, by decide +kernel⟩
abbrev s_pair_of : Stmt := top 19
abbrev N_pair_of : List Str := ["text", "numbers", "part"]
theorem sc_pair_of : FnScope N_pair_of ["text"] (defScope s_pair_of) := ⟨rfl, rfl, rfl, by decide +kernel, rfl, by decide +kernel, by decide +kernel⟩
abbrev s_mirrored_pair : Stmt := top 20
abbrev N_mirrored_pair : List Str := ["pair"]
theorem sc_mirrored_pair : FnScope N_mirrored_pair ["pair"] (defScope s_mirrored_pair) := ⟨rfl, rfl, rfl, by decide +kernel, rfl, by decide +kernel, by decide +kernel⟩
abbrev s_is_passed : Stmt := top 24
abbrev N_is_passed : List Str := ["value"]
theorem sc_is_passed : FnScope N_is_passed ["value"] (defScope s_is_passed) := ⟨rfl, rfl, rfl, by decide +kernel, rfl, by decide +kernel, by decide +kernel⟩
abbrev s_is_where : Stmt := top 25
abbrev N_is_where : List Str := ["value"]
theorem sc_is_where : FnScope N_is_where ["value"] (defScope s_is_where) := ⟨rfl, rfl, rfl, by decide +kernel, rfl, by decide +kernel, by decide +kernel⟩
abbrev s_is_raw : Stmt := top 26
abbrev N_is_raw : List Str := ["value"]
theorem sc_is_raw : FnScope N_is_raw ["value"] (defScope s_is_raw) := ⟨rfl, rfl, rfl, by decide +kernel, rfl, by decide +kernel, by decide +kernel⟩
abbrev s__arities_for : Stmt := top 28
abbrev N__arities_for : List Str := ["where", "raw", "form", "passed", "arity"]
theorem sc__arities_for : FnScope N__arities_for ["where", "raw", "form", "passed"] (defScope s__arities_for) := ⟨rfl, rfl, rfl, by decide +kernel, rfl, by decide +kernel, by decide +kernel⟩
abbrev s__fits : Stmt := top 29
abbrev N__fits : List Str := ["arity", "where", "raw", "form", "passed"]
theorem sc__fits : FnScope N__fits ["arity", "where", "raw", "form", "passed"] (defScope s__fits) := ⟨rfl, rfl, rfl, by decide +kernel, rfl, by decide +kernel, by decide +kernel⟩
abbrev s__law_dice : Stmt := top 31
abbrev N__law_dice : List Str := ["_law_script", "_law_spot", "_law_cell", "_law_left"]
theorem sc__law_dice : FnScope N__law_dice ["_law_script", "_law_spot"] (defScope s__law_dice) := ⟨rfl, rfl, rfl, by decide +kernel, rfl, by decide +kernel, by decide +kernel⟩
abbrev s__law_roll : Stmt := top 32
abbrev N__law_roll : List Str := ["_law_dice_here", "_law_total", "_law_found", "_law_one", "_law_two"]
theorem sc__law_roll : FnScope N__law_roll ["_law_dice_here", "_law_total"] (defScope s__law_roll) := ⟨rfl, rfl, rfl, by decide +kernel, rfl, by decide +kernel, by decide +kernel⟩
abbrev s__law_pick : Stmt := top 33
abbrev N__law_pick : List Str := ["_law_dice_here", "_law_items"]
theorem sc__law_pick : FnScope N__law_pick ["_law_dice_here", "_law_items"] (defScope s__law_pick) := ⟨rfl, rfl, rfl, by decide +kernel, rfl, by decide +kernel, by decide +kernel⟩
abbrev s__law_pair_text : Stmt := top 34
abbrev N__law_pair_text : List Str := ["_law_pair"]
theorem sc__law_pair_text : FnScope N__law_pair_text ["_law_pair"] (defScope s__law_pair_text) := ⟨rfl, rfl, rfl, by decide +kernel, rfl, by decide +kernel, by decide +kernel⟩
abbrev s__law_page_text : Stmt := top 35
abbrev N__law_page_text : List Str := ["_law_place", "_law_page", "_law_words"]
theorem sc__law_page_text : FnScope N__law_page_text ["_law_place", "_law_page"] (defScope s__law_page_text) := ⟨rfl, rfl, rfl, by decide +kernel, rfl, by decide +kernel, by decide +kernel⟩
abbrev s__law_arities : Stmt := top 36
abbrev N__law_arities : List Str := ["_law_where", "_law_raw", "_law_form", "_law_passed", "_law_found", "_law_arity", "_law_kept", "_law_total", "_law_at"]
theorem sc__law_arities : FnScope N__law_arities ["_law_where", "_law_raw", "_law_form", "_law_passed"] (defScope s__law_arities) := ⟨rfl, rfl, rfl, by decide +kernel, rfl, by decide +kernel, by decide +kernel⟩
abbrev s__law_parts : Stmt := top 37
abbrev N__law_parts : List Str := ["_law_dice_here", "_law_where", "_law_arity", "_law_raw", "_law_passed", "_law_form", "_law_left", "_law_one"]
theorem sc__law_parts : FnScope N__law_parts ["_law_dice_here"] (defScope s__law_parts) := ⟨rfl, rfl, rfl, by decide +kernel, rfl, by decide +kernel, by decide +kernel⟩
abbrev s__law_called : Stmt := top 38
abbrev N__law_called : List Str := ["_law_note", "_law_parts_here", "_law_later"]
theorem sc__law_called : FnScope N__law_called ["_law_note", "_law_parts_here", "_law_later"] (defScope s__law_called) := ⟨rfl, rfl, rfl, by decide +kernel, rfl, by decide +kernel, by decide +kernel⟩
abbrev s__law_right : Stmt := top 39
abbrev N__law_right : List Str := ["_law_dice_here", "_law_note", "_law_parts_here", "_law_later", "_law_where", "_law_raw", "_law_form", "_law_passed", "_law_page", "_law_due", "_law_is_due", "_law_text", "_law_told", "_law_turned", "_law_other"]
theorem sc__law_right : FnScope N__law_right ["_law_dice_here"] (defScope s__law_right) := ⟨rfl, rfl, rfl, by decide +kernel, rfl, by decide +kernel, by decide +kernel⟩
abbrev s_law : Stmt := top 40
abbrev N_law : List Str := ["_law_script", "_law_spot", "_law_dice_here", "_law_turn", "_law_page", "_law_other"]
theorem sc_law : FnScope N_law ["_law_script"] (defScope s_law) := ⟨rfl, rfl, rfl, by decide +kernel, rfl, by decide +kernel, by decide +kernel⟩
abbrev s_Page_init : Stmt := inClass (top 27) 0
abbrev N_Page_init : List Str := ["self", "note", "where", "raw", "form", "passed", "after"]
theorem sc_Page_init : FnScope N_Page_init ["self", "note", "where", "raw", "form", "passed", "after"] (defScope s_Page_init) := ⟨rfl, rfl, rfl, by decide +kernel, rfl, by decide +kernel, by decide +kernel⟩
abbrev s_Page_from_line : Stmt := inClass (top 27) 1
abbrev N_Page_from_line : List Str := ["cls", "line", "words", "raw", "form", "passed"]
theorem sc_Page_from_line : FnScope N_Page_from_line ["cls", "line"] (defScope s_Page_from_line) := ⟨rfl, rfl, rfl, by decide +kernel, rfl, by decide +kernel, by decide +kernel⟩
abbrev s_Page_note : Stmt := inClass (top 27) 2
abbrev N_Page_note : List Str := ["self"]
theorem sc_Page_note : FnScope N_Page_note ["self"] (defScope s_Page_note) := ⟨rfl, rfl, rfl, by decide +kernel, rfl, by decide +kernel, by decide +kernel⟩
abbrev s_Page_where : Stmt := inClass (top 27) 3
abbrev N_Page_where : List Str := ["self"]
theorem sc_Page_where : FnScope N_Page_where ["self"] (defScope s_Page_where) := ⟨rfl, rfl, rfl, by decide +kernel, rfl, by decide +kernel, by decide +kernel⟩
abbrev s_Page_raw : Stmt := inClass (top 27) 4
abbrev N_Page_raw : List Str := ["self"]
theorem sc_Page_raw : FnScope N_Page_raw ["self"] (defScope s_Page_raw) := ⟨rfl, rfl, rfl, by decide +kernel, rfl, by decide +kernel, by decide +kernel⟩
abbrev s_Page_form : Stmt := inClass (top 27) 5
abbrev N_Page_form : List Str := ["self"]
theorem sc_Page_form : FnScope N_Page_form ["self"] (defScope s_Page_form) := ⟨rfl, rfl, rfl, by decide +kernel, rfl, by decide +kernel, by decide +kernel⟩
abbrev s_Page_passed : Stmt := inClass (top 27) 6
abbrev N_Page_passed : List Str := ["self"]
theorem sc_Page_passed : FnScope N_Page_passed ["self"] (defScope s_Page_passed) := ⟨rfl, rfl, rfl, by decide +kernel, rfl, by decide +kernel, by decide +kernel⟩
abbrev s_Page_after : Stmt := inClass (top 27) 7
abbrev N_Page_after : List Str := ["self"]
theorem sc_Page_after : FnScope N_Page_after ["self"] (defScope s_Page_after) := ⟨rfl, rfl, rfl, by decide +kernel, rfl, by decide +kernel, by decide +kernel⟩
abbrev s_Page_line : Stmt := inClass (top 27) 8
abbrev N_Page_line : List Str := ["self"]
theorem sc_Page_line : FnScope N_Page_line ["self"] (defScope s_Page_line) := ⟨rfl, rfl, rfl, by decide +kernel, rfl, by decide +kernel, by decide +kernel⟩
abbrev s_Page_place : Stmt := inClass (top 27) 9
abbrev N_Page_place : List Str := ["self"]
theorem sc_Page_place : FnScope N_Page_place ["self"] (defScope s_Page_place) := ⟨rfl, rfl, rfl, by decide +kernel, rfl, by decide +kernel, by decide +kernel⟩
abbrev s_Page_arities : Stmt := inClass (top 27) 10
abbrev N_Page_arities : List Str := ["self"]
theorem sc_Page_arities : FnScope N_Page_arities ["self"] (defScope s_Page_arities) := ⟨rfl, rfl, rfl, by decide +kernel, rfl, by decide +kernel, by decide +kernel⟩
abbrev s_Page_mirrored : Stmt := inClass (top 27) 11
abbrev N_Page_mirrored : List Str := ["self", "raw", "form", "passed"]
theorem sc_Page_mirrored : FnScope N_Page_mirrored ["self"] (defScope s_Page_mirrored) := ⟨rfl, rfl, rfl, by decide +kernel, rfl, by decide +kernel, by decide +kernel⟩
abbrev s_Page_eq : Stmt := inClass (top 27) 12
abbrev N_Page_eq : List Str := ["self", "other"]
theorem sc_Page_eq : FnScope N_Page_eq ["self", "other"] (defScope s_Page_eq) := ⟨rfl, rfl, rfl, by decide +kernel, rfl, by decide +kernel, by decide +kernel⟩
abbrev s_Page_str : Stmt := inClass (top 27) 13
abbrev N_Page_str : List Str := ["self"]
theorem sc_Page_str : FnScope N_Page_str ["self"] (defScope s_Page_str) := ⟨rfl, rfl, rfl, by decide +kernel, rfl, by decide +kernel, by decide +kernel⟩
structure Txt (K : PySem.W.Frag) (mg : Str → Option Value) : Prop where
  isinstance : mg "isinstance" = none
  int : mg "int" = none
  bool : mg "bool" = none
  str : mg "str" = none
  tuple : mg "tuple" = none
  len : mg "len" = none
  max : mg "max" = none
  min : mg "min" = none
  abs : mg "abs" = none
  sum : mg "sum" = none
  range : mg "range" = none
  repr : mg "repr" = none
  g_TOO_GREAT : ∃ u, mg "_TOO_GREAT" = some u ∧ RelV (.int BIG) u
  gMAX_FIGURES : ∃ u, mg "MAX_FIGURES" = some u ∧ RelV (.int 60) u
  gMAX_LETTERS : ∃ u, mg "MAX_LETTERS" = some u ∧ RelV (.int 8) u
  gMAX_SIDE : ∃ u, mg "MAX_SIDE" = some u ∧ RelV (.int 7) u
  gMAX_PASS : ∃ u, mg "MAX_PASS" = some u ∧ RelV (.int 2) u
/-- the module's tuple WHERE, as the top has made it -/
structure TxtW (K : PySem.W.Frag) (mg : Str → Option Value) (aS : Addr) : Prop where
  g : ∃ u, mg "WHERE" = some u ∧ RelV (.ref aS) u
  at_ : ∃ (o : Obj) (t1 t2 : Tok) (n : Nat), K.lookup aS = some o ∧ o.cls = .type "tuple" ∧ o.dict = none ∧ o.data = .seq #[.str "inner" t1, .str "last" t2] n
/-! ## the dice -/
section
variable {P : Program} {w : World} {K : PySem.W.Frag} {mg : Str → Option Value} {base : Heap}
theorem c_dice (T : Txt K mg) (D : DefAt K mg "_law_dice" s__law_dice ["_law_script", "_law_spot"]) : CalG P w K mg base 1 "_law_dice" ["_law_script", "_law_spot"] (spDice K) := by
  refine calOk D sc__law_dice (fun xs H Q E h => ?_) (fun f cdv A out s H xs Q E hgd hr h => ?_)
  · obtain ⟨a, ns, i, rfl, _⟩ := h
    rfl
  · obtain ⟨a, ns, i, rfl, hS, hz, k⟩ := h
    have nd := sc__law_dice.nd
    refine ⟨_, (pss_cons (ps_set (i := 2) nd rfl (.inl rfl) (pe_ifExp (pt_cmpR op_lt (pv 1) (pe_callB call_len_seq (by rfl) T.len (by decide +kernel) (pa_cons (pv 0) pa_nil)) (nomark _)) (pe_callTy call_int1 (by rfl) T.int (by decide +kernel) (pa_cons (pe_ix ix_list (pv 0) (pv 1) (fun _ _ => rfl)) pa_nil)) (pe_op op_add (pe_op op_mul pe_int (pv 1)) pe_int)))
      (pss_cons (ps_set (i := 3) nd rfl (.inl rfl) (pe_op op_mod (pe_callB (call_max2 rfl) (by rfl) T.max (by decide +kernel) (pa_cons pe_int (pa_cons (pe_op op_sub (pe_callB call_abs (by rfl) T.abs (by decide +kernel) (pa_cons (pv 2) pa_nil)) (pe_op op_pow pe_int pe_int)) pa_nil))) (pe_op op_mulW (pe_op op_pow pe_int pe_int) (pe_op op_pow pe_int pe_int))))
      (pss_one (ps_ret (pe_lst (pa_cons (pv 3) (pa_cons (pe_op op_add (pe_op op_add (pe_op op_add (pe_op op_mul (pe_op op_mod (pe_callB call_abs (by rfl) T.abs (by decide +kernel) (pa_cons (pv 2) pa_nil)) pe_int) pe_int) (pe_op op_mul pe_int (pv 1))) (pe_op op_mul pe_int (pe_callTy call_int1 (by rfl) T.int (by decide +kernel) (pa_cons (pe_cmpR op_lt (pv 2) pe_int (nomark _)) pa_nil)))) pe_int) (pa_cons pe_int pa_nil)))))))), ?_⟩
    refine ⟨_, rfl, _, rfl, _, _, rfl, .inl hS, _, _, rfl, rfl, _, rfl, ite2 (fun hi => ?_) (fun hi => ?_)⟩
    · have hlt : i < ns.length := by
        have := of_decide_eq_true hi
        rw [List.length_map] at this
        omega
      have hat : (ns.map V.int)[i]? = some (.int ns[i]) := by
        rw [List.getElem?_map, List.getElem?_eq_getElem hlt]
        rfl
      refine ⟨_, rfl, _, rfl, _, _, _, _, rfl, rfl, hS, atI_nat hat, .inl ⟨_, rfl, ?_⟩⟩
      refine ⟨_, rfl, _, rfl, _, _, rfl, rfl, ⟨by decide, by decide, by decide⟩, _, _, rfl, rfl, _, _, rfl, _, _, rfl, rfl, ⟨by decide, by decide, by decide⟩, _, _, rfl, rfl, ⟨by decide, by decide, by decide⟩, _, _, rfl, rfl, mul60, _, _, rfl, rfl, pos60, ?_⟩
      refine ⟨_, rfl, _, rfl, _, rfl, _, _, rfl, rfl, (by show (0 : Int) < 1152921504606846961; decide), _, _, rfl, rfl, .inr ⟨by decide, by decide⟩, _, rfl, _, _, rfl, rfl, .inl ⟨by decide, by decide⟩, _, _, rfl, rfl, _, rfl, _, _, rfl, rfl, .inr ⟨_, rfl, _, _, rfl, rfl, .inl ⟨by decide, by decide⟩, _, _, rfl, rfl, _, _, rfl, rfl, (by show 3 ≤ sizeLine; decide), fun p1 n1 => ?_⟩⟩
      exact k _ _ _ _ n1
    · refine ⟨_, rfl, _, _, rfl, rfl, .inl ⟨by decide, by decide⟩, _, _, rfl, rfl, ?_⟩
      refine ⟨_, rfl, _, rfl, _, _, rfl, rfl, ⟨by decide, by decide, by decide⟩, _, _, rfl, rfl, _, _, rfl, _, _, rfl, rfl, ⟨by decide, by decide, by decide⟩, _, _, rfl, rfl, ⟨by decide, by decide, by decide⟩, _, _, rfl, rfl, mul60, _, _, rfl, rfl, pos60, ?_⟩
      refine ⟨_, rfl, _, rfl, _, rfl, _, _, rfl, rfl, (by show (0 : Int) < 1152921504606846961; decide), _, _, rfl, rfl, .inr ⟨by decide, by decide⟩, _, rfl, _, _, rfl, rfl, .inl ⟨by decide, by decide⟩, _, _, rfl, rfl, _, rfl, _, _, rfl, rfl, .inr ⟨_, rfl, _, _, rfl, rfl, .inl ⟨by decide, by decide⟩, _, _, rfl, rfl, _, _, rfl, rfl, (by show 3 ≤ sizeLine; decide), fun p1 n1 => ?_⟩⟩
      exact k _ _ _ _ n1
theorem c_roll (T : Txt K mg) (D : DefAt K mg "_law_roll" s__law_roll ["_law_dice_here", "_law_total"]) : CalG P w K mg base 1 "_law_roll" ["_law_dice_here", "_law_total"] spRoll := by
  refine calOk D sc__law_roll (fun xs H Q E h => ?_) (fun f cdv A out s H xs Q E hgd hr h => ?_)
  · obtain ⟨d, t, rfl, _⟩ := h
    rfl
  · obtain ⟨d, t, rfl, ⟨l, sd, c, hd⟩, ht, hlog, k⟩ := h
    have nd := sc__law_roll.nd
    have fr : ∀ (u : HO) (b : Addr), H b = none → upd H d u b = none := fun u b e => by
      rw [upd_ne (fun q => by rw [q, hd] at e; cases e)]
      exact e
    refine ⟨_, (pss_cons (ps_if (pt_cmpR op_gt (pe_ix ix_list (pv 0) pe_int (fun _ _ => rfl)) pe_int (nomark _)) (pss_cons (ps_set (i := 2) nd rfl (.inl rfl) (pe_op op_mod (pe_callTy call_int1 (by rfl) T.int (by decide +kernel) (pa_cons (pe_ix ix_list (pv 0) pe_int (fun _ _ => rfl)) pa_nil)) (pv 1)))
        (pss_cons (ps_asg (pe_op op_fdivW (pe_ix ix_list (pv 0) pe_int (fun _ _ => rfl)) (pv 1)) (pg_sub (pv 0) pe_int set_list))
        (pss_one (ps_ret (pv 2))))) pss_nil)
      (pss_cons (ps_asg (pe_op op_add (pe_ix ix_list (pv 0) pe_int (fun _ _ => rfl)) pe_int) (pg_sub (pv 0) pe_int set_list))
      (pss_cons (ps_set (i := 3) nd rfl (.inl rfl) (pe_op op_mod (pe_callTy call_int1 (by rfl) T.int (by decide +kernel) (pa_cons (pe_op op_add (pe_ix ix_list (pv 0) pe_int (fun _ _ => rfl)) (pe_op op_mul pe_int (pe_ix ix_list (pv 0) pe_int (fun _ _ => rfl)))) pa_nil)) pe_int))
      (pss_cons (ps_set (i := 4) nd rfl (.inl rfl) (pe_op op_add (pe_op op_mul (pe_op op_mod (pe_callTy call_int1 (by rfl) T.int (by decide +kernel) (pa_cons (pe_op op_add (pe_op op_mulW (pv 3) (pv 3)) (pe_op op_mul pe_int (pe_ix ix_list (pv 0) pe_int (fun _ _ => rfl)))) pa_nil)) pe_int) pe_int) (pv 3)))
      (pss_one (ps_ret (pe_op op_mod (pe_callTy call_int1 (by rfl) T.int (by decide +kernel) (pa_cons (pe_op op_fdivW (pv 4) pe_int) pa_nil)) (pv 1)))))))), ?_⟩
    refine ⟨_, rfl, _, _, _, _, rfl, rfl, SqL.of hd, atI_nat (j := 0) rfl, _, _, rfl, rfl, _, rfl, ite2 (fun hl => ?_) (fun hl => ?_)⟩
    · refine ⟨_, rfl, _, _, _, _, rfl, rfl, SqL.of hd, atI_nat (j := 0) rfl, .inl ⟨_, rfl, _, rfl, _, _, rfl, rfl, ht, ?_⟩⟩
      refine ⟨_, rfl, _, _, _, _, rfl, rfl, SqL.of hd, atI_nat (j := 0) rfl, _, rfl, _, _, rfl, rfl, ⟨ht, hlog⟩, _, rfl, _, _, _, 0, rfl, rfl, hd, rfl, ?_⟩
      refine ⟨_, rfl, ?_⟩
      exact k _ _ (Int.emod_nonneg _ (by omega)) (Int.emod_lt_of_pos _ ht) (Mv.refl ⟨l, sd, c, hd⟩).rolled (fr _)
    · refine ⟨_, rfl, _, _, _, _, rfl, rfl, SqL.of hd, atI_nat (j := 2) rfl, _, _, rfl, rfl, _, rfl, _, _, _, 2, rfl, rfl, hd, rfl, ?_⟩
      have h1 : upd H d (.lst [.int l, .int sd, .int (c + 1)]) d = some (.lst [.int l, .int sd, .int (c + 1)]) := upd_same
      refine ⟨_, rfl, _, _, _, _, rfl, rfl, SqL.of h1, atI_nat (j := 1) rfl, _, rfl, _, _, _, _, rfl, rfl, SqL.of h1, atI_nat (j := 2) rfl, _, _, rfl, rfl, .inl ⟨by decide, by decide⟩, _, _, rfl, rfl, .inl ⟨_, rfl, _, _, rfl, rfl, (by show (0 : Int) < 2305843009213693669; decide), ?_⟩⟩
      have hb := Int.emod_lt_of_pos (sd + 32452843 * (c + 1)) (show (0 : Int) < 2305843009213693669 by decide)
      have hn := Int.emod_nonneg (sd + 32452843 * (c + 1)) (show (2305843009213693669 : Int) ≠ 0 by decide)
      have hs : ((sd + 32452843 * (c + 1)) % 2305843009213693669).natAbs < 2 ^ 62 := by
        have e : (2 : Nat) ^ 62 = 4611686018427387904 := by decide
        omega
      refine ⟨_, rfl, _, rfl, _, _, rfl, rfl, wide_mul hs hs (by decide) (by decide) (by decide), _, rfl, _, _, _, _, rfl, rfl, SqL.of h1, atI_nat (j := 2) rfl, _, _, rfl, rfl, .inl ⟨by decide, by decide⟩, _, _, rfl, rfl, .inl ⟨_, rfl, _, _, rfl, rfl, (by show (0 : Int) < 1152921504606846869; decide), _, _, rfl, rfl, .inr ⟨by decide, by decide⟩, _, rfl, _, _, rfl, rfl, ?_⟩⟩
      refine ⟨_, rfl, _, _, rfl, rfl, ⟨by decide, by decide +kernel⟩, .inl ⟨_, rfl, _, rfl, _, _, rfl, rfl, ht, ?_⟩⟩
      exact k _ _ (Int.emod_nonneg _ (by omega)) (Int.emod_lt_of_pos _ ht) (Mv.refl ⟨l, sd, c, hd⟩).rolled (fr _)
theorem c_pick (T : Txt K mg) (C__law_roll : CalG P w K mg base 1 "_law_roll" ["_law_dice_here", "_law_total"] spRoll) (D : DefAt K mg "_law_pick" s__law_pick ["_law_dice_here", "_law_items"]) : CalG P w K mg base 2 "_law_pick" ["_law_dice_here", "_law_items"] (spPick K) := by
  refine calOk D sc__law_pick (fun xs H Q E h => ?_) (fun f cdv A out s H xs Q E hgd hr h => ?_)
  · obtain ⟨d, a, ys, rfl, _⟩ := h
    rfl
  · obtain ⟨d, a, ys, rfl, hd, hS, ne, h0, hz, k⟩ := h
    have nd := sc__law_pick.nd
    refine ⟨_, (pss_one (ps_ret (pe_ix ix_list (pv 1) (pe_k C__law_roll hgd hr (by decide) rfl (pa_cons (pv 0) (pa_cons (pe_callB call_len_seq (by rfl) T.len (by decide +kernel) (pa_cons (pv 1) pa_nil)) pa_nil))) (fun _ _ => rfl)))), ?_⟩
    have small : ((ys.length : Nat) : Int).natAbs.log2 < 9000 := by
      have e : ((ys.length : Nat) : Int).natAbs = ys.length := Int.natAbs_natCast _
      rw [e]
      exact Nat.lt_of_le_of_lt (Nat.log2_le_self _) (by omega)
    refine ⟨_, rfl, _, rfl, _, rfl, _, _, rfl, .inl hS, _, _, rfl, hd, (by omega), small, fun r1 H1 a1 b1 m1 f1 => ?_⟩
    obtain ⟨i, rfl⟩ : ∃ i : Nat, r1 = (i : Int) := ⟨r1.toNat, by omega⟩
    have hi : i < ys.length := by omega
    refine ⟨_, _, _, _, rfl, rfl, m1.sql ne hS, atI_nat (List.getElem?_eq_getElem hi), k _ _ _ (List.getElem?_eq_getElem hi) m1 f1⟩
end

/-! ## is_integer, is_pair, is_form, are_forms, is_row: judges over data -/
section
variable {gq : Bool} {P : Program} {w : World} {K : PySem.W.Frag} {mg : Str → Option Value} {base : Heap}
theorem c_is_integer (T : Txt K mg) (D : DefAt K mg "is_integer" s_is_integer ["value"]) : CalQ gq P w K mg base 1 "is_integer" ["value"] (spJ intB) := by
  refine calOkQ D sc_is_integer (fun xs H Q E h => ?_) (fun f cdv A out s H xs Q E hgd hr h => ?_)
  · obtain ⟨x, d, rfl, _⟩ := h
    rfl
  · obtain ⟨x, d, rfl, hx, k⟩ := h
    have nd := sc_is_integer.nd
    refine ⟨_, (pss_one (ps_ret (pe_and (pe_callB call_isi (by rfl) T.isinstance (by decide +kernel) (pa_cons (pv 0) (pa_cons (pe_ty "int" rfl T.int (by decide +kernel)) pa_nil))) (pe_and (pe_not (pe_callB call_isi (by rfl) T.isinstance (by decide +kernel) (pa_cons (pv 0) (pa_cons (pe_ty "bool" rfl T.bool (by decide +kernel)) pa_nil)))) (pe_one (pe_chain op_lt op_lt (pe_un un_neg (pe_gv rfl T.g_TOO_GREAT)) (pv 0) (pe_gv rfl T.g_TOO_GREAT))))))), ?_⟩
    cases hx with
    | int i =>
      have k' : Q (.bl (smallB i)) H := k H (Same.refl _)
      refine ⟨_, rfl, _, _, _, _, true, rfl, .ty _, .base (.int i), kit_ty (by decide +kernel), true, rfl, iteT ?_⟩
      refine ⟨_, rfl, _, _, _, _, false, rfl, .ty _, .base (.int i), kit_ty (by decide +kernel), false, rfl, true, rfl, iteT ?_⟩
      refine ⟨_, rfl, _, rfl, _, _, rfl, rfl, _, rfl, ite2 (fun h1 => ?_) (fun h1 => ?_)⟩
      · refine ⟨_, _, rfl, rfl, ?_⟩
        have e : smallB i = decide (i < BIG) := by
          unfold smallB
          rw [h1]
          rfl
        rw [e] at k'
        exact k'
      · have e : smallB i = false := by
          unfold smallB
          rw [Bool.eq_false_iff.mpr h1]
          rfl
        rw [e] at k'
        exact k'
    | bl b =>
      refine ⟨_, rfl, _, _, _, _, true, rfl, .ty _, .base (.bl b), kit_ty (by decide +kernel), true, rfl, iteT ?_⟩
      refine ⟨_, rfl, _, _, _, _, true, rfl, .ty _, .base (.bl b), kit_ty (by decide +kernel), true, rfl, false, rfl, iteF ?_⟩
      exact k H (Same.refl _)
    | non => exact ⟨_, rfl, _, _, _, _, false, rfl, .ty _, Dx.ty .non, kit_ty (by decide +kernel), false, rfl, iteF (k H (Same.refl _))⟩
    | str x => exact ⟨_, rfl, _, _, _, _, false, rfl, .ty _, Dx.ty (.str x), kit_ty (by show kitB "str" _ = _; decide +kernel), false, rfl, iteF (k H (Same.refl _))⟩
    | lst h1 h2 => exact ⟨_, rfl, _, _, _, _, false, rfl, .ty _, Dx.ty (.lst h1 h2), kit_ty (by show kitB "list" _ = _; decide +kernel), false, rfl, iteF (k H (Same.refl _))⟩
    | tup h1 h2 => exact ⟨_, rfl, _, _, _, _, false, rfl, .ty _, Dx.ty (.tup h1 h2), kit_ty (by show kitB "tuple" _ = _; decide +kernel), false, rfl, iteF (k H (Same.refl _))⟩
    | dct h1 h2 => exact ⟨_, rfl, _, _, _, _, false, rfl, .ty _, Dx.ty (.dct h1 h2), kit_ty (by show kitB "dict" _ = _; decide +kernel), false, rfl, iteF (k H (Same.refl _))⟩
theorem c_is_pair (T : Txt K mg) (C_is_integer : CalQ gq P w K mg base 1 "is_integer" ["value"] (spJ intB)) (D : DefAt K mg "is_pair" s_is_pair ["value"]) : CalQ gq P w K mg base 2 "is_pair" ["value"] (spJ pairB) := by
  refine calOkQ D sc_is_pair (fun xs H Q E h => ?_) (fun f cdv A out s H xs Q E hgd hr h => ?_)
  · obtain ⟨x, d, rfl, _⟩ := h
    rfl
  · obtain ⟨x, d, rfl, hx, k⟩ := h
    have nd := sc_is_pair.nd
    refine ⟨_, (pss_one (ps_ret (pe_and (pe_callB call_isi (by rfl) T.isinstance (by decide +kernel) (pa_cons (pv 0) (pa_cons (pe_ty "tuple" rfl T.tuple (by decide +kernel)) pa_nil))) (pe_and (pe_cmpR op_eq (pe_callB call_len_seq (by rfl) T.len (by decide +kernel) (pa_cons (pv 0) pa_nil)) pe_int (nomark _)) (pe_and (pe_kq C_is_integer hgd hr (by decide) rfl (pa_cons (pe_ix ix_tup (pv 0) pe_int (fun _ _ => rfl)) pa_nil)) (pe_one (pe_kq C_is_integer hgd hr (by decide) rfl (pa_cons (pe_ix ix_tup (pv 0) pe_int (fun _ _ => rfl)) pa_nil)))))))), ?_⟩
    cases hx with
    | tup h1 h2 =>
      rename_i a xs ds
      have hl := h2.len
      refine ⟨_, rfl, _, _, _, _, true, rfl, .ty _, Dx.ty (.tup h1 h2), kit_ty (by show kitB "tuple" _ = _; decide +kernel), true, rfl, iteT ?_⟩
      refine ⟨_, rfl, _, _, rfl, .inr (SqT.of h1), rfl, _, rfl, ite2 (fun q => ?_) (fun q => ?_)⟩
      · have two : xs.length = 2 := by
          have := V.int.inj (of_decide_eq_true q)
          omega
        cases h2 with
        | nil => cases two
        | cons y1 r1 =>
          cases r1 with
          | nil => cases two
          | cons y2 r2 =>
            cases r2 with
            | cons _ _ => simp at two
            | nil =>
              refine ⟨_, rfl, _, _, _, _, rfl, rfl, SqT.of h1, atI_nat (j := 0) rfl, _, _, rfl, y1, fun H1 s1 => ?_⟩
              refine ⟨_, rfl, ite2 (fun q1 => ?_) (fun q1 => ?_)⟩
              · refine ⟨_, rfl, _, _, _, _, rfl, rfl, SqT.of (s1 _ _ h1), atI_nat (j := 1) rfl, _, _, rfl, y2.grow s1, fun H2 s2 => ?_⟩
                have e := k H2 (s1.trans s2)
                simp only [pairB, q1, Bool.true_and] at e
                exact e
              · have e := k H1 s1
                simp only [pairB, Bool.eq_false_iff.mpr q1, Bool.false_and] at e
                exact e
      · have e := k H (Same.refl _)
        have nf : pairB (.tuple ds) = false := by
          match ds, hl with
          | [], _ => rfl
          | [_], _ => rfl
          | [_, _], hl => exact absurd (decide_eq_true (show V.int (xs.length : Int) = V.int 2 by rw [hl]; rfl)) q
          | _ :: _ :: _ :: _, _ => rfl
        rw [nf] at e
        exact e
    | int i => exact ⟨_, rfl, _, _, _, _, false, rfl, .ty _, Dx.ty (.int i), kit_ty (by show kitB "int" _ = _; decide +kernel), false, rfl, iteF (k H (Same.refl _))⟩
    | bl b => exact ⟨_, rfl, _, _, _, _, false, rfl, .ty _, Dx.ty (.bl b), kit_ty (by show kitB "bool" _ = _; decide +kernel), false, rfl, iteF (k H (Same.refl _))⟩
    | non => exact ⟨_, rfl, _, _, _, _, false, rfl, .ty _, Dx.ty .non, kit_ty (by decide +kernel), false, rfl, iteF (k H (Same.refl _))⟩
    | str x => exact ⟨_, rfl, _, _, _, _, false, rfl, .ty _, Dx.ty (.str x), kit_ty (by show kitB "str" _ = _; decide +kernel), false, rfl, iteF (k H (Same.refl _))⟩
    | lst h1 h2 => exact ⟨_, rfl, _, _, _, _, false, rfl, .ty _, Dx.ty (.lst h1 h2), kit_ty (by show kitB "list" _ = _; decide +kernel), false, rfl, iteF (k H (Same.refl _))⟩
    | dct h1 h2 => exact ⟨_, rfl, _, _, _, _, false, rfl, .ty _, Dx.ty (.dct h1 h2), kit_ty (by show kitB "dict" _ = _; decide +kernel), false, rfl, iteF (k H (Same.refl _))⟩
theorem form_pair {d : PyData} (h : formB d = true) : pairB d = true := by
  match d, h with
  | .tuple [.int a, .int b], h =>
    have h' : (decide (0 ≤ a) && decide (a ≤ 7)) = true ∧ (decide (0 ≤ b) && decide (b ≤ 7)) = true := by simpa [formB, sideB] using h
    have g : ∀ i : Int, (decide (0 ≤ i) && decide (i ≤ 7)) = true → smallB i = true := fun i q => by
      have q' : 0 ≤ i ∧ i ≤ 7 := by simpa using q
      unfold smallB BIG
      rw [decide_eq_true (by omega), decide_eq_true (by omega)]
      rfl
    show (smallB a && smallB b) = true
    rw [g a h'.1, g b h'.2]
    rfl
  | .tuple [.none, _], h => simp [formB, sideB] at h
  | .tuple [.bool _, _], h => simp [formB, sideB] at h
  | .tuple [.str _, _], h => simp [formB, sideB] at h
  | .tuple [.list _, _], h => simp [formB, sideB] at h
  | .tuple [.tuple _, _], h => simp [formB, sideB] at h
  | .tuple [.dict _, _], h => simp [formB, sideB] at h
  | .tuple [.int _, .none], h => simp [formB, sideB] at h
  | .tuple [.int _, .bool _], h => simp [formB, sideB] at h
  | .tuple [.int _, .str _], h => simp [formB, sideB] at h
  | .tuple [.int _, .list _], h => simp [formB, sideB] at h
  | .tuple [.int _, .tuple _], h => simp [formB, sideB] at h
  | .tuple [.int _, .dict _], h => simp [formB, sideB] at h
  | .tuple [], h => simp [formB] at h
  | .tuple [_], h => simp [formB] at h
  | .tuple (_ :: _ :: _ :: _), h => simp [formB] at h
  | .none, h => simp [formB] at h
  | .bool _, h => simp [formB] at h
  | .int _, h => simp [formB] at h
  | .str _, h => simp [formB] at h
  | .list _, h => simp [formB] at h
  | .dict _, h => simp [formB] at h
theorem pair_ints {d : PyData} (h : pairB d = true) : ∃ a b, d = .tuple [.int a, .int b] := by
  match d, h with
  | .tuple [a, b], h =>
    have h' : intB a = true ∧ intB b = true := by simpa [pairB] using h
    match a, b, h' with
    | .int i, .int j, _ => exact ⟨i, j, rfl⟩
    | .none, _, h => simp [intB] at h
    | .bool _, _, h => simp [intB] at h
    | .str _, _, h => simp [intB] at h
    | .list _, _, h => simp [intB] at h
    | .tuple _, _, h => simp [intB] at h
    | .dict _, _, h => simp [intB] at h
    | .int _, .none, h => simp [intB] at h
    | .int _, .bool _, h => simp [intB] at h
    | .int _, .str _, h => simp [intB] at h
    | .int _, .list _, h => simp [intB] at h
    | .int _, .tuple _, h => simp [intB] at h
    | .int _, .dict _, h => simp [intB] at h
  | .tuple [], h => simp [pairB] at h
  | .tuple [_], h => simp [pairB] at h
  | .tuple (_ :: _ :: _ :: _), h => simp [pairB] at h
  | .none, h => simp [pairB] at h
  | .bool _, h => simp [pairB] at h
  | .int _, h => simp [pairB] at h
  | .str _, h => simp [pairB] at h
  | .list _, h => simp [pairB] at h
  | .dict _, h => simp [pairB] at h
def pairWithin (d : PyData) (lo hi : Int) : Bool := pairB d && match d with
  | .tuple [.int a, .int b] => decide (lo ≤ min a b) && decide (max a b ≤ hi)
  | _ => false
def spPairWithin : Sp := fun vs H Q _ => ∃ (x : V) (d : PyData) (lo hi : Int), vs = [x, .int lo, .int hi] ∧ Dx H x d ∧ ∀ H', Same H H' → Q (.bl (pairWithin d lo hi)) H'
theorem c_is_pair_within (T : Txt K mg) (C_is_pair : CalQ gq P w K mg base 2 "is_pair" ["value"] (spJ pairB)) (D : DefAt K mg "is_pair_within" s_is_pair_within ["value", "least", "greatest"]) : CalQ gq P w K mg base 3 "is_pair_within" ["value", "least", "greatest"] spPairWithin := by
  refine calOkQ D sc_is_pair_within (fun xs H Q E h => ?_) (fun f cdv A out s H xs Q E hgd hr h => ?_)
  · obtain ⟨x, d, lo, hi, rfl, _⟩ := h
    rfl
  · obtain ⟨x, d, lo, hi, rfl, hx, k⟩ := h
    have nd := sc_is_pair_within.nd
    refine ⟨_, (pss_one (ps_ret (pe_and (pe_kq C_is_pair hgd hr (by decide) rfl (pa_cons (pv 0) pa_nil)) (pe_and (pe_cmpR op_le (pv 1) (pe_callB (cr_min2T rfl hr.units) (by rfl) T.min (by decide +kernel) (pa_cons (pv 0) pa_nil)) (nomark _)) (pe_one (pe_cmpR op_le (pe_callB (cr_max2T rfl hr.units) (by rfl) T.max (by decide +kernel) (pa_cons (pv 0) pa_nil)) (pv 2) (nomark _))))))), ?_⟩
    refine ⟨_, rfl, _, _, rfl, hx, fun H1 s1 => ⟨_, rfl, ite2 (fun q => ?_) (fun q => ?_)⟩⟩
    · obtain ⟨a, b, rfl⟩ := pair_ints q
      have hx1 := hx.grow s1
      have e := k H1 s1
      unfold pairWithin at e
      rw [q, Bool.true_and] at e
      replace e : Q (.bl (decide (lo ≤ min a b) && decide (max a b ≤ hi))) H1 := e
      cases hx1 with
      | tup h1 h2 =>
        cases h2 with
        | cons y1 r1 =>
          cases r1 with
          | cons y2 r2 =>
            cases r2
            cases y1
            cases y2
            refine ⟨_, rfl, _, rfl, _, _, _, rfl, h1, _, _, rfl, rfl, _, rfl, ite2 (fun q1 => ?_) (fun q1 => ?_)⟩
            · refine ⟨_, rfl, _, _, _, rfl, h1, _, rfl, _, _, rfl, rfl, ?_⟩
              rw [show decide (lo ≤ min a b) = true from q1, Bool.true_and] at e
              exact e
            · rw [show decide (lo ≤ min a b) = false from Bool.eq_false_iff.mpr q1, Bool.false_and] at e
              exact e
    · have e := k H1 s1
      unfold pairWithin at e
      rw [Bool.eq_false_iff.mpr q, Bool.false_and] at e
      exact e
theorem within_form (d : PyData) : pairWithin d 0 7 = formB d := by
  unfold pairWithin
  cases h : formB d with
  | true =>
    obtain ⟨a, b, rfl⟩ := pair_ints (form_pair h)
    rw [form_pair h, Bool.true_and]
    simp only [formB, sideB, Bool.and_eq_true, decide_eq_true_eq] at h
    rw [Bool.and_eq_true, decide_eq_true_eq, decide_eq_true_eq]
    omega
  | false =>
    cases hp : pairB d with
    | false => rfl
    | true =>
      obtain ⟨a, b, rfl⟩ := pair_ints hp
      rw [Bool.true_and]
      simp only [formB, sideB] at h
      rw [Bool.eq_false_iff] at h ⊢
      intro z
      refine h ?_
      rw [Bool.and_eq_true, decide_eq_true_eq, decide_eq_true_eq] at z
      simp only [Bool.and_eq_true, decide_eq_true_eq]
      omega
theorem c_is_form (T : Txt K mg) (C_is_pair_within : CalQ gq P w K mg base 3 "is_pair_within" ["value", "least", "greatest"] spPairWithin) (D : DefAt K mg "is_form" s_is_form ["value"]) : CalQ gq P w K mg base 4 "is_form" ["value"] (spJ formB) := by
  refine calOkQ D sc_is_form (fun xs H Q E h => ?_) (fun f cdv A out s H xs Q E hgd hr h => ?_)
  · obtain ⟨x, d, rfl, _⟩ := h
    rfl
  · obtain ⟨x, d, rfl, hx, k⟩ := h
    have nd := sc_is_form.nd
    refine ⟨_, (pss_one (ps_ret (pe_kq C_is_pair_within hgd hr (by decide) rfl (pa_cons (pv 0) (pa_cons pe_int (pa_cons (pe_gv rfl T.gMAX_SIDE) pa_nil)))))), ?_⟩
    refine ⟨_, rfl, x, d, 0, 7, rfl, hx, fun H1 s1 => ?_⟩
    rw [within_form]
    exact k H1 s1
end
/-! ## is_name -/
def nameB (z : Str) : Bool := decide (1 ≤ (z.length : Int)) && (decide ((z.length : Int) ≤ 8) && (Txt.isascii z && (Txt.isalpha z && Txt.islower z)))
def spIsName (K : PySem.W.Frag) : Sp := fun vs H Q _ =>
  (∃ z : Str, vs = [.str z] ∧ z.length ≤ sizeLine ∧ Q (.bl (nameB z)) H) ∨
  (∃ (x : V) (n : String), vs = [x] ∧ TyX K H x (.type n) ∧ kitB n "str" = some false ∧ Q (.bl false) H)
section
variable {gq : Bool} {P : Program} {w : World} {K : PySem.W.Frag} {mg : Str → Option Value} {base : Heap}
theorem c_is_name (T : Txt K mg) (D : DefAt K mg "is_name" s_is_name ["value"]) : CalQ gq P w K mg base 1 "is_name" ["value"] (spIsName K) := by
  refine calOkQ D sc_is_name (fun xs H Q E h => ?_) (fun f cdv A out s H xs Q E hgd hr h => ?_)
  · rcases h with ⟨z, rfl, _⟩ | ⟨x, n, rfl, _⟩ <;> rfl
  · have nd := sc_is_name.nd
    refine ⟨_, (pss_cons (ps_if (PW.pt (pw_or (pt_not (pt_val (pe_callB call_isi (by rfl) T.isinstance (by decide +kernel) (pa_cons (pv 0) (pa_cons (pe_ty "str" rfl T.str (by decide +kernel)) pa_nil))))) (pw_or1 (pt_not (pt_chain op_le op_le pe_int (pe_callB call_len_str (by rfl) T.len (by decide +kernel) (pa_cons (pv 0) pa_nil)) (pe_gv rfl T.gMAX_LETTERS)))))) (pss_one (ps_ret pe_bl)) pss_nil)
      (pss_one (ps_ret (pe_and (pe_bm0 PySem.F.plainAttrs_str PySem.F.slot_str_isascii PySem.F.type_str_isascii mt_isascii (pv 0)) (pe_and (pe_bm0 PySem.F.plainAttrs_str PySem.F.slot_str_isalpha PySem.F.type_str_isalpha mt_isalpha (pv 0)) (pe_one (pe_bm0 PySem.F.plainAttrs_str PySem.F.slot_str_islower PySem.F.type_str_islower mt_islower (pv 0)))))))), ?_⟩
    rcases h with ⟨z, rfl, hz, k⟩ | ⟨x, n, rfl, ty, hb, k⟩
    · refine ⟨_, rfl, _, _, _, _, true, rfl, .ty _, .base (.str z), kit_ty (by decide +kernel), true, rfl, iteF ?_⟩
      refine ⟨_, rfl, _, rfl, hz, _, _, rfl, rfl, _, rfl, ite2 (fun h1 => ?_) (fun h1 => ?_)⟩
      · refine ⟨_, _, rfl, rfl, _, rfl, ite2 (fun h2 => ?_) (fun h2 => ?_)⟩
        · have h2' : ¬ decide ((z.length : Int) ≤ 8) = true := fun q => by
            rw [q] at h2
            cases h2
          have e : nameB z = false := by
            unfold nameB
            rw [Bool.eq_false_iff.mpr h2', Bool.false_and, Bool.and_false]
          rw [e] at k
          exact k
        · have h2' : decide ((z.length : Int) ≤ 8) = true := by
            cases q : decide ((z.length : Int) ≤ 8) with
            | true => rfl
            | false => exact absurd (show (!decide ((z.length : Int) ≤ 8)) = true by rw [q]; rfl) h2
          have e : nameB z = (Txt.isascii z && (Txt.isalpha z && Txt.islower z)) := by
            unfold nameB
            rw [h1, h2', Bool.true_and, Bool.true_and]
          rw [e] at k
          refine ⟨_, rfl, rfl, _, rfl, rfl, True.intro, _, rfl, ite2 (fun h3 => ?_) (fun h3 => ?_)⟩
          · rw [h3] at k
            refine ⟨_, rfl, rfl, _, rfl, rfl, True.intro, _, rfl, ite2 (fun h4 => ?_) (fun h4 => ?_)⟩
            · rw [h4] at k
              exact ⟨_, rfl, rfl, _, rfl, rfl, True.intro, k⟩
            · rw [Bool.eq_false_iff.mpr h4] at k
              exact k
          · rw [Bool.eq_false_iff.mpr h3] at k
            exact k
      · have e : nameB z = false := by
          unfold nameB
          rw [Bool.eq_false_iff.mpr h1, Bool.false_and]
        rw [e] at k
        exact ⟨_, rfl, iteT k⟩
    · refine ⟨_, rfl, _, _, _, _, false, rfl, .ty _, ty, kit_ty hb, false, rfl, iteT ?_⟩
      exact k
end

section
variable {gq : Bool} {P : Program} {w : World} {K : PySem.W.Frag} {mg : Str → Option Value} {base : Heap}
open TL in
theorem c_integer_of (T : Txt K mg) (D : DefAt K mg "integer_of" s_integer_of ["text"]) : CalQ gq P w K mg base 1 "integer_of" ["text"] spWhole := by
  refine calOkQ D sc_integer_of (fun xs H Q E h => ?_) (fun f cdv A out s H xs Q E hgd hr h => ?_)
  · obtain ⟨z, rfl, _⟩ := h
    rfl
  · obtain ⟨z, rfl, hz, k⟩ := h
    have nd := sc_integer_of.nd
    refine ⟨_, (pss_cons (ps_set (i := 1) nd rfl (.inl rfl) (pe_bm PySem.F.plainAttrs_str PySem.F.slot_str_removeprefix PySem.F.type_str_removeprefix mt_removeprefix (pv 0) (pa_cons pe_str pa_nil)))
      (pss_cons (ps_if (PW.pt (pw_or (pt_not (pt_val (pe_bm0 PySem.F.plainAttrs_str PySem.F.slot_str_isascii PySem.F.type_str_isascii mt_isascii (pv 1)))) (pw_or (pt_not (pt_val (pe_bm0 PySem.F.plainAttrs_str PySem.F.slot_str_isdigit PySem.F.type_str_isdigit mt_isdigit (pv 1)))) (pw_or1 (pt_cmpR op_gt (pe_callB call_len_str (by rfl) T.len (by decide +kernel) (pa_cons (pv 1) pa_nil)) (pe_gv rfl T.gMAX_FIGURES) (nomark _)))))) (pss_one (ps_ret pe_non)) pss_nil)
      (pss_cons (ps_if (PW.pt (pw_and (pt_cmpR op_eq (pe_ix ix_str (pv 1) pe_int (fun _ _ => rfl)) pe_str (nomark _)) (pw_and1 (pt_cmpR op_ne (pv 0) pe_str (nomark _))))) (pss_one (ps_ret pe_non)) pss_nil)
      (pss_one (ps_ret (pe_callTy call_int_str (by rfl) T.int (by decide +kernel) (pa_cons (pv 0) pa_nil))))))), ?_⟩
    have zl : (Txt.removeprefix z "-").length ≤ z.length := by
      rw [len_tl, len_tl z, pre_figs]
      unfold figs
      split
      · rw [List.length_tail]
        omega
      · exact Nat.le_refl _
    have sz : sizeLine = 16777216 := sizeLine_eq
    have ef := fig_prog (Txt.removeprefix z "-")
    rw [pre_figs] at ef
    refine a_set (fun v H' => v = .str (Txt.removeprefix z "-") ∧ H = H') (fun Q' kQ => ⟨_, rfl, rfl, _, _, rfl, rfl, (by omega), kQ _ _ ⟨rfl, rfl⟩⟩) ?_
    rintro _ _ ⟨rfl, rfl⟩
    refine a_if (fun b H' => b = !figOk (figs (tl z)) ∧ H = H') (fun Q' kQ => ?_) ?_ ?_
    · refine ⟨_, rfl, rfl, _, rfl, rfl, True.intro, _, rfl, ite2 (fun h1 => kQ _ _ ⟨?_, rfl⟩) (fun h1 => ?_)⟩
      · rw [← ef]
        simp at h1
        simp [h1]
      · refine ⟨_, rfl, rfl, _, rfl, rfl, True.intro, _, rfl, ite2 (fun h2 => kQ _ _ ⟨?_, rfl⟩) (fun h2 => ?_)⟩
        · rw [← ef]
          simp at h2
          simp [h2]
        · refine ⟨_, rfl, _, rfl, (by omega), _, _, rfl, rfl, _, rfl, kQ _ _ ⟨?_, rfl⟩⟩
          rw [← ef]
          simp at h1 h2
          rw [h1, h2, Bool.true_and, Bool.true_and]
          by_cases q : (Txt.removeprefix z "-").length ≤ 60
          · rw [decide_eq_true q, decide_eq_false (by omega)] <;> rfl
          · rw [decide_eq_false q, decide_eq_true (by omega)] <;> rfl
    · rintro _ ⟨h1, rfl⟩
      have e : wholeZ z = none := if_neg (by unfold numOkL; rw [show figOk (figs (tl z)) = false by simpa using h1.symm, Bool.false_and]; exact Bool.false_ne_true)
      rw [e] at k
      exact k
    · rintro _ ⟨h1, rfl⟩
      have h1 : figOk (figs (tl z)) = true := by simpa using h1.symm
      obtain ⟨c, r, hc⟩ : ∃ c r, figs (tl z) = c :: r := by
        cases e : figs (tl z) with
        | nil => rw [e] at h1; exact absurd h1 (by decide)
        | cons c r => exact ⟨c, r, rfl⟩
      have hp : tl (Txt.removeprefix z "-") = c :: r := by rw [pre_figs, hc]
      have c0 : (Txt.removeprefix z "-").cps.toList[0]? = some c := by
        show (tl (Txt.removeprefix z "-"))[0]? = some c
        rw [hp] <;> rfl
      have l60 : (figs (tl z)).length ≤ 60 := by
        unfold figOk at h1
        simp at h1
        exact h1.2.2
      have zs : z.length ≤ 61 := by
        rw [len_tl]
        unfold figs at l60
        split at l60
        · rw [List.length_tail] at l60
          omega
        · omega
      refine go_nx ?_
      refine a_if (fun b H' => b = !numOkL (tl z) ∧ H = H') (fun Q' kQ => ?_) ?_ ?_
      · refine ⟨_, rfl, _, _, _, rfl, rfl, (by omega), atI_nat (j := 0) c0, rfl, _, rfl, ite2 (fun h2 => ?_) (fun h2 => ?_)⟩
        · refine ⟨_, rfl, rfl, _, rfl, kQ _ _ ⟨?_, rfl⟩⟩
          exact lead_one h1 hc (by simpa using h2)
        · exact kQ _ _ ⟨lead_ok h1 hc (by simpa using h2), rfl⟩
      · rintro _ ⟨h2, rfl⟩
        have e : wholeZ z = none := if_neg (by rw [show numOkL (tl z) = false by simpa using h2.symm]; exact Bool.false_ne_true)
        rw [e] at k
        exact k
      · rintro _ ⟨h2, rfl⟩
        have h2 : numOkL (tl z) = true := by simpa using h2.symm
        obtain ⟨n, hn, _⟩ := num_in h2
        have e : wholeZ z = some n := by
          unfold wholeZ
          rw [if_pos h2, hn]
        rw [e] at k
        exact ⟨_, rfl, _, _, rfl, hn, (by omega), k⟩
end

theorem TxtW.sq {K : PySem.W.Frag} {mg : Str → Option Value} {aS : Addr} (S : TxtW K mg aS) (H : Hp) : SqT K H aS [.str "inner", .str "last"] := by
  obtain ⟨o, t1, t2, n, h1, h2, _, h3⟩ := S.at_
  exact .inr ⟨o, _, n, h1, h2, h3, by show 2 ≤ sizeLine; decide, .cons ⟨_, rfl⟩ (.cons ⟨_, rfl⟩ .nil)⟩
/-- a pair of whole numbers as a tuple -/
def PairAt (H : Hp) (a : Addr) (f : Int × Int) : Prop := H a = some (.tup [.int f.1, .int f.2])
theorem PairAt.dx {H : Hp} {a : Addr} {f : Int × Int} (h : PairAt H a f) : Dx H (.ref a) (formD f) := .tup h (.cons (.int _) (.cons (.int _) .nil))
theorem PairAt.grow {H H' : Hp} {a : Addr} {f : Int × Int} (s : Same H H') (h : PairAt H a f) : PairAt H' a f := s _ _ h
def SmP (f : Int × Int) : Prop := -100 ≤ f.1 ∧ f.1 ≤ 100 ∧ -100 ≤ f.2 ∧ f.2 ≤ 100
theorem SmP.big {f : Int × Int} (h : SmP f) : BigF f := by
  obtain ⟨a, b, c, d⟩ := h
  unfold BigF BIG
  omega
theorem SmP.swap {f : Int × Int} (h : SmP f) : SmP f.swap := ⟨h.2.2.1, h.2.2.2, h.1, h.2.1⟩
theorem pair_big {f : Int × Int} (h : BigF f) : pairB (formD f) = true := by
  obtain ⟨a, b, c, d⟩ := h
  simp [formD, pairB, intB, smallB, a, b, c, d]
def spWritePair : Sp := fun vs H Q _ => ∃ (x : V) (f : Int × Int), vs = [x] ∧ Dx H x (formD f) ∧ BigF f ∧ ∀ H', Same H H' → Q (.str (pairT f)) H'
/-- of a text: the pair, or None -/
def spPairOf : Sp := fun vs H Q _ => ∃ (z : Str) (f : Int × Int), vs = [.str z] ∧ z.length ≤ 1000000 ∧ pairZ z = some f ∧ ∀ (p : Addr) H', Same H H' → PairAt H' p f → Q (.ref p) H'
def spSwapP : Sp := fun vs H Q _ => ∃ (a : Addr) (f : Int × Int), vs = [.ref a] ∧ PairAt H a f ∧ ∀ (p : Addr) H', Same H H' → PairAt H' p f.swap → Q (.ref p) H'
def spWords : Sp := fun vs H Q _ => ∃ (z : Str), vs = [.str z] ∧ z.length ≤ 1000000 ∧ ∀ (p : Addr) H', Same H H' → H' p = some (.tup ((Txt.split z " ").map V.str)) → Q (.ref p) H'
def whereB (z : Str) : Bool := inV (.str z) [.str "inner", .str "last"]
def spWhere : Sp := fun vs H Q _ => ∃ (z : Str), vs = [.str z] ∧ Q (.bl (whereB z)) H
def rawB (d : PyData) : Bool := pairWithin d (-2) 9
def passB (d : PyData) : Bool := pairWithin d (-2) 2
def fitsB (ar : Int) (wh : Str) (raw form passed : Int × Int) : Bool :=
  if wh = "inner" then decide (form = (raw.1 - ar * passed.1, raw.2 - ar * passed.2))
  else decide (0 ≤ min passed.1 passed.2) && decide (form.1 + form.2 + ar * (passed.1 + passed.2) = raw.1 + raw.2)
def spFits : Sp := fun vs H Q _ => ∃ (ar : Int) (wh : Str) (r f p : Addr) (raw form passed : Int × Int), vs = [.int ar, .str wh, .ref r, .ref f, .ref p] ∧ PairAt H r raw ∧ PairAt H f form ∧ PairAt H p passed ∧
  SmP raw ∧ SmP form ∧ SmP passed ∧ 2 ≤ ar ∧ ar ≤ 3 ∧ ∀ H', Same H H' → Q (.bl (fitsB ar wh raw form passed)) H'
def arsOf (wh : Str) (raw form passed : Int × Int) : List Int :=
  if (whereB wh && (rawB (formD raw) && (formB (formD form) && passB (formD passed)))) = true then [2, 3].filter fun ar => fitsB ar wh raw form passed else []
def spArs : Sp := fun vs H Q _ => ∃ (wh : Str) (r f p : Addr) (raw form passed : Int × Int), vs = [.str wh, .ref r, .ref f, .ref p] ∧ PairAt H r raw ∧ PairAt H f form ∧ PairAt H p passed ∧
  SmP raw ∧ SmP form ∧ SmP passed ∧ ∀ (a : Addr) H', Same H H' → H' a = some (.tup ((arsOf wh raw form passed).map V.int)) → Q (.ref a) H'
theorem formD_inj {f g : Int × Int} (h : formD f = formD g) : f = g := by
  unfold formD at h
  injection h with h
  injection h with h1 h2
  injection h2 with h2
  injection h1 with h1
  injection h2 with h2
  exact Prod.ext h1 h2
theorem eqv_form (f g : Int × Int) : PyData.eqv (formD f) (formD g) = decide (f = g) := by
  obtain ⟨a, b⟩ := f
  obtain ⟨c, d⟩ := g
  simp only [formD, PyData.eqv, PyData.eqvAll, Bool.and_true]
  rw [Bool.eq_iff_iff]
  simp
theorem shapedF (f : Int × Int) : SeqAt.shaped (formD f) = true := by
  show (PyData.canLay0 (.tuple _) && decide (PyData.depth (.tuple _) ≤ 64)) = true
  rw [Bool.and_eq_true_iff]
  exact ⟨by simp [formD, PyData.canLay0, PyData.canLayAll0], decide_eq_true (by simp [formD, PyData.depth, PyData.depthAll])⟩
theorem noDictF (f : Int × Int) : (formD f).hasDict = false := by simp [formD, PyData.hasDict, PyData.hasDictAll]
theorem sm_log {i : Int} {n : Nat} (h : i.natAbs < 2 ^ n) : i.natAbs < 2 ^ n := h
theorem cmulW {a b : Int} (ha : -1000 ≤ a ∧ a ≤ 1000) (hb : -1000 ≤ b ∧ b ≤ 1000) : CMulW a b := by
  have e : (2 : Nat) ^ 10 = 1024 := by decide
  have h1 : a.natAbs < 2 ^ 10 := by omega
  have h2 : b.natAbs < 2 ^ 10 := by omega
  exact wide_mul h1 h2 (by decide) (by decide) (by decide)
section
variable {gq : Bool} {P : Program} {w : World} {K : PySem.W.Frag} {mg : Str → Option Value} {base : Heap}
theorem c_write_pair (T : Txt K mg) (C_is_pair : CalQ gq P w K mg base 2 "is_pair" ["value"] (spJ pairB)) (D : DefAt K mg "write_pair" s_write_pair ["pair"]) :
    CalQ gq P w K mg base 3 "write_pair" ["pair"] spWritePair := by
  refine calOkQ D sc_write_pair (fun xs H Q E h => ?_) (fun f cdv A out s H xs Q E hgd hr h => ?_)
  · obtain ⟨x, f, rfl, _⟩ := h
    rfl
  · obtain ⟨x, f, rfl, hx, hb, k⟩ := h
    have nd := sc_write_pair.nd
    refine ⟨_, (pss_cons (ps_if (pt_not (pt_val (pe_kq C_is_pair hgd hr (by decide) rfl (pa_cons (pv 0) pa_nil)))) (pss_one (ps_never)) pss_nil)
      (pss_one (ps_ret (pe_joined (PJ.cons (pe_fmt (pe_ix ix_tup (pv 0) pe_int (fun _ _ => rfl))) (PJ.cons pe_str (PJ.cons (pe_fmt (pe_ix ix_tup (pv 0) pe_int (fun _ _ => rfl))) PJ.nil))))))), ?_⟩
    have sz : sizeLine = 16777216 := sizeLine_eq
    have l1 := text_len hb.1 hb.2.1
    have l2 := text_len hb.2.2.1 hb.2.2.2
    have l3 : Str.length ("." : Str) = 1 := by decide +kernel
    refine a_if (fun b H' => b = false ∧ Same H H') (fun Q' kQ => ?_) (fun H' h => nomatch h.1) (fun H' h => ?_)
    · exact ⟨_, rfl, _, _, rfl, hx, fun H1 s1 => ⟨true, congrArg V.bl (pair_big hb), kQ _ _ ⟨rfl, s1⟩⟩⟩
    · obtain ⟨_, s1⟩ := h
      refine go_nx ?_
      obtain ⟨p, rfl⟩ : ∃ p, x = .ref p := by
        cases hx
        exact ⟨_, rfl⟩
      have hp := (hx.grow s1).form
      refine ⟨_, rfl, p, [.int f.1, .int f.2], 0, _, rfl, rfl, SqT.of hp, rfl, .inr ⟨_, rfl, log_big hb.1 hb.2.1, _, rfl, ?_, _, rfl, ?_, ?_⟩⟩
      · rw [empty_app]
        show (textZ f.1).length ≤ _
        omega
      · rw [empty_app, Str.length_append, l3]
        show (textZ f.1).length + 1 ≤ _
        omega
      · refine ⟨_, rfl, p, [.int f.1, .int f.2], 1, _, rfl, rfl, SqT.of hp, rfl, .inr ⟨_, rfl, log_big hb.2.2.1 hb.2.2.2, _, rfl, ?_, ?_⟩⟩
        · rw [empty_app, Str.length_append, Str.length_append, l3]
          show (textZ f.1).length + 1 + (textZ f.2).length ≤ _
          omega
        · show Q (.str _) _
          rw [empty_app]
          exact k _ s1
theorem c_pair_of (T : Txt K mg) (C_integer_of : CalQ gq P w K mg base 1 "integer_of" ["text"] spWhole) (C_is_pair : CalQ gq P w K mg base 2 "is_pair" ["value"] (spJ pairB)) (D : DefAt K mg "pair_of" s_pair_of ["text"]) :
    CalQ gq P w K mg base 3 "pair_of" ["text"] spPairOf := by
  refine calOkQ D sc_pair_of (fun xs H Q E h => ?_) (fun f cdv A out s H xs Q E hgd hr h => ?_)
  · obtain ⟨z, g, rfl, _⟩ := h
    rfl
  · obtain ⟨z, g, rfl, lz, hz, k⟩ := h
    have nd := sc_pair_of.nd
    refine ⟨_, (pss_cons (ps_set (i := 1) nd rfl (.inl rfl) (pe_callTy call_tuple_of (by rfl) T.tuple (by decide +kernel) (pa_cons (pe_lc (own := [("part", 2)]) (g := gName 2) (by rfl) nd (pi_list (pe_split (pv 0) pe_str)) (blkOk_by (own := [("part", 2)]) (N := N_pair_of) (sc := defScope s_pair_of) (by decide +kernel)) (fun _ _ _ _ _ => pg_name (i := 2) nd rfl (.inl rfl)) (fun _ _ _ _ _ => pts_nil) (fun _ _ _ _ _ => pe_kq C_integer_of hgd hr (by decide) rfl (pa_cons (pv 2) pa_nil))) pa_nil)))
      (pss_cons (ps_if (pt_not (pt_val (pe_kq C_is_pair hgd hr (by decide) rfl (pa_cons (pv 1) pa_nil)))) (pss_one (ps_ret pe_non)) pss_nil)
      (pss_one (ps_ret (pv 1))))), ?_⟩
    have sz : sizeLine = 16777216 := sizeLine_eq
    have sp := PyProof.Rows.split_le z "."
    have px := fun p (hp : p ∈ Txt.split z ".") => part_sub (z := z) dot_one.1 dot_one.2.1 hp
    refine a_set (fun v H' => ∃ q, v = .ref q ∧ Same H H' ∧ H' q = some (.tup ((Txt.split z ".").map fun p => ovI (wholeZ p)))) (fun Q' kQ => ?_) ?_
    · refine ⟨_, rfl, ⟨_, rfl⟩, _, _, rfl, rfl, dot_one.2.2, (by omega), fun a np => ?_⟩
      have s1 := same_new (H := H) (o := .lst ((Txt.split z ".").map V.str)) np
      refine ⟨a, rfl, ⟨_, SqL.of upd_same⟩, fun Dl nD => ?_⟩
      refine lc_list (K := K) (a := a) (xs := (Txt.split z ".").map V.str) (fun i H' => Same (upd H a (.lst ((Txt.split z ".").map V.str))) H' ∧ H' Dl = some (.lst (((Txt.split z ".").take i).map fun p => ovI (wholeZ p)))) ?_ ?_ ?_ ?_
      · exact ⟨same_new nD, upd_same⟩
      · rintro i H' _ ⟨s2, _⟩
        exact SqL.of (s2 _ _ upd_same)
      · rintro i y H2 hi ⟨s2, hD⟩
        rw [List.getElem?_map] at hi
        obtain ⟨p, hp, rfl⟩ := Option.map_eq_some_iff.mp hi
        have hm := List.mem_of_getElem? hp
        refine ⟨rfl, ?_⟩
        refine ⟨_, rfl, p, rfl, (by have := (px p hm).1; omega), _, hD, ?_, same_put s2 nD, ?_⟩
        · rw [List.length_map, List.length_take]
          have := Nat.min_le_right i (Txt.split z ".").length
          omega
        · rw [upd_same, take_one hp, List.map_append] <;> rfl
      · rintro H2 ⟨s2, hD⟩
        rw [List.length_map, List.take_length] at hD
        exact ⟨Dl, _, rfl, .inl ⟨SqL.of hD, fun q nq => kQ _ _ ⟨q, rfl, (s1.trans s2).trans (same_new nq), upd_same⟩⟩⟩
    rintro _ H1 ⟨q, rfl, s1, hq⟩
    have hD : Dx H1 (.ref q) (.tuple ((Txt.split z ".").map fun p => ovD (wholeZ p))) := .tup hq (ov_dx H1 _)
    refine a_if (fun b H' => b = false ∧ Same H1 H') (fun Q' kQ => ⟨_, rfl, _, _, rfl, hD, fun H2 s2 => ⟨_, congrArg V.bl (pair_z z), kQ _ _ ⟨by rw [hz] <;> rfl, s2⟩⟩⟩) (fun H' h => nomatch h.1) ?_
    rintro H2 ⟨_, s2⟩
    obtain ⟨e, _, _⟩ := pair_some hz
    rw [e] at hq
    refine go_nx ?_
    exact ⟨_, rfl, k q H2 (s1.trans s2) (s2 _ _ hq)⟩
theorem c_mirrored_pair (T : Txt K mg) (D : DefAt K mg "mirrored_pair" s_mirrored_pair ["pair"]) : CalQ gq P w K mg base 1 "mirrored_pair" ["pair"] spSwapP := by
  refine calOkQ D sc_mirrored_pair (fun xs H Q E h => ?_) (fun f cdv A out s H xs Q E hgd hr h => ?_)
  · obtain ⟨p, f, rfl, _⟩ := h
    rfl
  · obtain ⟨p, f, rfl, hp, k⟩ := h
    have nd := sc_mirrored_pair.nd
    refine ⟨_, (pss_one (ps_ret (pe_tup (pa_cons (pe_ix ix_tup (pv 0) pe_int (fun _ _ => rfl)) (pa_cons (pe_ix ix_tup (pv 0) pe_int (fun _ _ => rfl)) pa_nil))))), ?_⟩
    refine ⟨_, rfl, _, _, _, _, rfl, rfl, SqT.of hp, atI_nat (j := 1) rfl, _, rfl, _, _, _, _, rfl, rfl, SqT.of hp, atI_nat (j := 0) rfl, (by show 2 ≤ sizeLine; decide), fun q nq => ?_⟩
    exact k q _ (same_new nq) upd_same
theorem c_words_of (T : Txt K mg) (D : DefAt K mg "words_of" s_words_of ["line"]) : CalQ gq P w K mg base 1 "words_of" ["line"] spWords := by
  refine calOkQ D sc_words_of (fun xs H Q E h => ?_) (fun f cdv A out s H xs Q E hgd hr h => ?_)
  · obtain ⟨z, rfl, _⟩ := h
    rfl
  · obtain ⟨z, rfl, lz, k⟩ := h
    have nd := sc_words_of.nd
    refine ⟨_, (pss_one (ps_ret (pe_ifExp (pt_val (pe_callB call_isi (by rfl) T.isinstance (by decide +kernel) (pa_cons (pv 0) (pa_cons (pe_ty "str" rfl T.str (by decide +kernel)) pa_nil)))) (pe_callTy call_tuple_of (by rfl) T.tuple (by decide +kernel) (pa_cons (pe_split (pv 0) pe_str) pa_nil)) (pe_tup pa_nil)))), ?_⟩
    have sz : sizeLine = 16777216 := sizeLine_eq
    have sp := PyProof.Rows.split_le z " "
    refine ⟨_, rfl, _, _, _, _, true, rfl, .ty _, Dx.ty (H := H) (.str z), kit_ty (by show kitB "str" _ = _; decide +kernel), true, rfl, iteT ?_⟩
    refine ⟨_, rfl, ⟨_, rfl⟩, _, _, rfl, rfl, blank_one.2.2, (by omega), fun a np => ?_⟩
    exact ⟨a, _, rfl, .inl ⟨SqL.of upd_same, fun q nq => k q _ ((same_new np).trans (same_new nq)) upd_same⟩⟩
theorem c_is_where {aS : Addr} (TS : TxtW K mg aS) (D : DefAt K mg "is_where" s_is_where ["value"]) : CalQ gq P w K mg base 1 "is_where" ["value"] spWhere := by
  refine calOkQ D sc_is_where (fun xs H Q E h => ?_) (fun f cdv A out s H xs Q E hgd hr h => ?_)
  · obtain ⟨z, rfl, _⟩ := h
    rfl
  · obtain ⟨z, rfl, k⟩ := h
    have nd := sc_is_where.nd
    refine ⟨_, (pss_one (ps_ret (pe_cmpR op_in_seq (pv 0) (pe_gv rfl TS.g) rfl))), ?_⟩
    exact ⟨_, rfl, aS, _, rfl, .inr (TS.sq H), rfl, rfl, k⟩
theorem c_is_raw (T : Txt K mg) (C_is_pair_within : CalQ gq P w K mg base 3 "is_pair_within" ["value", "least", "greatest"] spPairWithin) (D : DefAt K mg "is_raw" s_is_raw ["value"]) : CalQ gq P w K mg base 4 "is_raw" ["value"] (spJ rawB) := by
  refine calOkQ D sc_is_raw (fun xs H Q E h => ?_) (fun f cdv A out s H xs Q E hgd hr h => ?_)
  · obtain ⟨x, d, rfl, _⟩ := h
    rfl
  · obtain ⟨x, d, rfl, hx, k⟩ := h
    have nd := sc_is_raw.nd
    refine ⟨_, (pss_one (ps_ret (pe_kq C_is_pair_within hgd hr (by decide) rfl (pa_cons (pv 0) (pa_cons (pe_un un_neg (pe_gv rfl T.gMAX_PASS)) (pa_cons (pe_op op_add (pe_gv rfl T.gMAX_SIDE) (pe_gv rfl T.gMAX_PASS)) pa_nil)))))), ?_⟩
    exact ⟨_, rfl, _, rfl, _, _, rfl, rfl, x, d, -2, 9, rfl, hx, k⟩
theorem c_is_passed (T : Txt K mg) (C_is_pair_within : CalQ gq P w K mg base 3 "is_pair_within" ["value", "least", "greatest"] spPairWithin) (D : DefAt K mg "is_passed" s_is_passed ["value"]) : CalQ gq P w K mg base 4 "is_passed" ["value"] (spJ passB) := by
  refine calOkQ D sc_is_passed (fun xs H Q E h => ?_) (fun f cdv A out s H xs Q E hgd hr h => ?_)
  · obtain ⟨x, d, rfl, _⟩ := h
    rfl
  · obtain ⟨x, d, rfl, hx, k⟩ := h
    have nd := sc_is_passed.nd
    refine ⟨_, (pss_one (ps_ret (pe_kq C_is_pair_within hgd hr (by decide) rfl (pa_cons (pv 0) (pa_cons (pe_un un_neg (pe_gv rfl T.gMAX_PASS)) (pa_cons (pe_gv rfl T.gMAX_PASS) pa_nil)))))), ?_⟩
    exact ⟨_, rfl, _, rfl, x, d, -2, 2, rfl, hx, k⟩
theorem c_fits (T : Txt K mg) (D : DefAt K mg "_fits" s__fits ["arity", "where", "raw", "form", "passed"]) : CalQ gq P w K mg base 1 "_fits" ["arity", "where", "raw", "form", "passed"] spFits := by
  refine calOkQ D sc__fits (fun xs H Q E h => ?_) (fun f cdv A out s H xs Q E hgd hr h => ?_)
  · obtain ⟨ar, wh, r, f, p, raw, form, passed, rfl, _⟩ := h
    rfl
  · obtain ⟨ar, wh, r, f', p, raw, form, passed, rfl, hR, hF, hP, sR, sF, sP, a2, a3, k⟩ := h
    have nd := sc__fits.nd
    refine ⟨_, (pss_cons (ps_if (pt_cmpR op_eq (pv 1) pe_str (nomark _)) (pss_one (ps_ret (pe_cmpR (op_eqD hr.units) (pv 3) (pe_tup (pa_cons (pe_op op_sub (pe_ix ix_tup (pv 2) pe_int (fun _ _ => rfl)) (pe_op op_mulW (pv 0) (pe_ix ix_tup (pv 4) pe_int (fun _ _ => rfl)))) (pa_cons (pe_op op_sub (pe_ix ix_tup (pv 2) pe_int (fun _ _ => rfl)) (pe_op op_mulW (pv 0) (pe_ix ix_tup (pv 4) pe_int (fun _ _ => rfl)))) pa_nil))) (nomark _)))) pss_nil)
      (pss_one (ps_ret (pe_and (pe_cmpR op_ge (pe_callB (cr_min2T rfl hr.units) (by rfl) T.min (by decide +kernel) (pa_cons (pv 4) pa_nil)) pe_int (nomark _)) (pe_one (pe_cmpR op_eq (pe_op op_add (pe_callB (cr_sumT rfl) (by rfl) T.sum (by decide +kernel) (pa_cons (pv 3) pa_nil)) (pe_op op_mulW (pv 0) (pe_callB (cr_sumT rfl) (by rfl) T.sum (by decide +kernel) (pa_cons (pv 4) pa_nil)))) (pe_callB (cr_sumT rfl) (by rfl) T.sum (by decide +kernel) (pa_cons (pv 2) pa_nil)) (nomark _))))))), ?_⟩
    refine a_if (fun b H' => b = decide (wh = "inner") ∧ H = H') (fun Q' kQ => ?_) ?_ ?_
    · refine ⟨_, rfl, rfl, _, rfl, kQ _ _ ⟨?_, rfl⟩⟩
      by_cases q : wh = "inner"
      · rw [decide_eq_true q, q]
        exact decide_eq_true rfl
      · rw [decide_eq_false q]
        exact decide_eq_false fun e => q (by injection e)
    · rintro _ ⟨hb, rfl⟩
      have hb : wh = "inner" := of_decide_eq_true hb.symm
      have e : fitsB ar wh raw form passed = decide (form = (raw.1 - ar * passed.1, raw.2 - ar * passed.2)) := if_pos hb
      rw [e] at k
      refine ⟨_, rfl, _, rfl, r, _, _, _, rfl, rfl, SqT.of hR, atI_nat (j := 0) rfl, _, rfl, _, rfl, p, _, _, _, rfl, rfl, SqT.of hP, atI_nat (j := 0) rfl, _, _, rfl, rfl, cmulW ⟨by omega, by omega⟩ ⟨by have := sP.1; omega, by have := sP.2.1; omega⟩, _, _, rfl, rfl, ?_⟩
      refine ⟨_, rfl, r, _, _, _, rfl, rfl, SqT.of hR, atI_nat (j := 1) rfl, _, rfl, _, rfl, p, _, _, _, rfl, rfl, SqT.of hP, atI_nat (j := 1) rfl, _, _, rfl, rfl, cmulW ⟨by omega, by omega⟩ ⟨by have := sP.2.2.1; omega, by have := sP.2.2.2; omega⟩, _, _, rfl, rfl, (by show 2 ≤ sizeLine; decide), fun q nq => ?_⟩
      have s1 := same_new (H := H) (o := .tup [.int (raw.1 - ar * passed.1), .int (raw.2 - ar * passed.2)]) nq
      refine ⟨formD form, formD (raw.1 - ar * passed.1, raw.2 - ar * passed.2), Dx.dp ((PairAt.dx hF).grow s1) (noDictF _), Dx.dp (PairAt.dx (f := (raw.1 - ar * passed.1, raw.2 - ar * passed.2)) upd_same) (noDictF _), shapedF _, shapedF _, ?_⟩
      rw [eqv_form]
      exact k _ s1
    · rintro _ ⟨hb, rfl⟩
      have hb : ¬ wh = "inner" := of_decide_eq_false hb.symm
      have e : fitsB ar wh raw form passed = (decide (0 ≤ min passed.1 passed.2) && decide (form.1 + form.2 + ar * (passed.1 + passed.2) = raw.1 + raw.2)) := if_neg hb
      rw [e] at k
      refine go_nx ?_
      refine ⟨_, rfl, p, _, _, rfl, hP, _, _, rfl, rfl, _, rfl, ite2 (fun q => ?_) (fun q => ?_)⟩
      · refine ⟨_, rfl, f', [form.1, form.2], rfl, SqT.of hF, _, rfl, _, rfl, p, [passed.1, passed.2], rfl, SqT.of hP, _, _, rfl, rfl, cmulW ⟨by omega, by omega⟩ ?_, _, _, rfl, rfl, _, rfl, r, [raw.1, raw.2], rfl, SqT.of hR, rfl, ?_⟩
        · obtain ⟨h1, h2, h3, h4⟩ := sP
          simp
          omega
        · have e1 : ∀ x y : Int, ([x, y] : List Int).sum = x + y := fun x y => by simp
          have q : decide (0 ≤ min passed.1 passed.2) = true := q
          rw [q, Bool.true_and] at k
          rw [e1, e1, e1]
          have e2 : ∀ x y : Int, decide (V.int x = V.int y) = decide (x = y) := fun x y => by
            rw [Bool.eq_iff_iff]
            simp
          rw [e2]
          exact k H (Same.refl _)
      · have q : decide (0 ≤ min passed.1 passed.2) = false := Bool.eq_false_iff.mpr q
        rw [q, Bool.false_and] at k
        exact k H (Same.refl _)
theorem c_arities_for (T : Txt K mg) (C_is_where : CalQ gq P w K mg base 1 "is_where" ["value"] spWhere) (C_is_raw : CalQ gq P w K mg base 4 "is_raw" ["value"] (spJ rawB)) (C_is_form : CalQ gq P w K mg base 4 "is_form" ["value"] (spJ formB)) (C_is_passed : CalQ gq P w K mg base 4 "is_passed" ["value"] (spJ passB))
    (C__fits : CalQ gq P w K mg base 1 "_fits" ["arity", "where", "raw", "form", "passed"] spFits) (D : DefAt K mg "_arities_for" s__arities_for ["where", "raw", "form", "passed"]) : CalQ gq P w K mg base 5 "_arities_for" ["where", "raw", "form", "passed"] spArs := by
  refine calOkQ D sc__arities_for (fun xs H Q E h => ?_) (fun f cdv A out s H xs Q E hgd hr h => ?_)
  · obtain ⟨wh, r, f, p, raw, form, passed, rfl, _⟩ := h
    rfl
  · obtain ⟨wh, r, f', p, raw, form, passed, rfl, hR, hF, hP, sR, sF, sP, k⟩ := h
    have nd := sc__arities_for.nd
    refine ⟨_, (pss_cons (ps_if (PW.pt (pw_or (pt_not (pt_val (pe_kq C_is_where hgd hr (by decide) rfl (pa_cons (pv 0) pa_nil)))) (pw_or (pt_not (pt_val (pe_kq C_is_raw hgd hr (by decide) rfl (pa_cons (pv 1) pa_nil)))) (pw_or (pt_not (pt_val (pe_kq C_is_form hgd hr (by decide) rfl (pa_cons (pv 2) pa_nil)))) (pw_or1 (pt_not (pt_val (pe_kq C_is_passed hgd hr (by decide) rfl (pa_cons (pv 3) pa_nil))))))))) (pss_one (ps_ret (pe_tup pa_nil))) pss_nil)
      (pss_one (ps_ret (pe_callTy call_tuple_of (by rfl) T.tuple (by decide +kernel) (pa_cons (pe_lc (own := [("arity", 4)]) (g := gName 4) (by rfl) nd (pi_tup (pe_tup (pa_cons pe_int (pa_cons pe_int pa_nil)))) (blkOk_by (own := [("arity", 4)]) (N := N__arities_for) (sc := defScope s__arities_for) (by decide +kernel)) (fun _ _ _ _ _ => pg_name (i := 4) nd rfl (.inl rfl)) (fun _ _ _ _ _ => pts_one (pt_val (pe_kq C__fits hgd hr (by decide) rfl (pa_cons (pv 4) (pa_cons (pv 0) (pa_cons (pv 1) (pa_cons (pv 2) (pa_cons (pv 3) pa_nil)))))))) (fun _ _ _ _ _ => pv 4)) pa_nil))))), ?_⟩
    refine a_if (fun b H' => b = !(whereB wh && (rawB (formD raw) && (formB (formD form) && passB (formD passed)))) ∧ Same H H') (fun Q' kQ => ?_) ?_ ?_
    · refine ⟨_, rfl, wh, rfl, _, rfl, ite2 (fun q => kQ _ _ ⟨?_, Same.refl _⟩) (fun q => ?_)⟩
      · rw [show whereB wh = false by simpa using q] <;> rfl
      · have q : whereB wh = true := by simpa using q
        refine ⟨_, rfl, _, _, rfl, PairAt.dx hR, fun H1 s1 => ⟨_, rfl, ite2 (fun q1 => kQ _ _ ⟨?_, s1⟩) (fun q1 => ?_)⟩⟩
        · rw [q, show rawB (formD raw) = false by simpa using q1] <;> rfl
        · have q1 : rawB (formD raw) = true := by simpa using q1
          refine ⟨_, rfl, _, _, rfl, (PairAt.dx hF).grow s1, fun H2 s2 => ⟨_, rfl, ite2 (fun q2 => kQ _ _ ⟨?_, s1.trans s2⟩) (fun q2 => ?_)⟩⟩
          · rw [q, q1, show formB (formD form) = false by simpa using q2] <;> rfl
          · have q2 : formB (formD form) = true := by simpa using q2
            refine ⟨_, rfl, _, _, rfl, (PairAt.dx hP).grow (s1.trans s2), fun H3 s3 => ⟨_, rfl, kQ _ _ ⟨?_, (s1.trans s2).trans s3⟩⟩⟩
            rw [q, q1, q2, Bool.true_and, Bool.true_and, Bool.true_and]
    · rintro H1 ⟨hb, s1⟩
      have e : arsOf wh raw form passed = [] := if_neg (by rw [show (whereB wh && (rawB (formD raw) && (formB (formD form) && passB (formD passed)))) = false by have := hb.symm; rwa [Bool.not_eq_true'] at this]; exact Bool.false_ne_true)
      rw [e] at k
      exact ⟨(by show 0 ≤ sizeLine; decide), fun a na => k a _ (s1.trans (same_new na)) upd_same⟩
    · rintro H1 ⟨hb, s1⟩
      have e : arsOf wh raw form passed = [2, 3].filter fun ar => fitsB ar wh raw form passed := if_pos (by have := hb.symm; rwa [Bool.not_eq_false'] at this)
      rw [e] at k
      refine go_nx ?_
      refine ⟨(by show 2 ≤ sizeLine; decide), fun t nt => ?_⟩
      have s2 := same_new (H := H1) (o := .tup [.int 2, .int 3]) nt
      refine ⟨t, rfl, ⟨_, SqT.of upd_same⟩, fun Dl nD => ?_⟩
      refine lc_tup (K := K) (a := t) (xs := [.int 2, .int 3]) (fun i H' => Same (upd H1 t (.tup [.int 2, .int 3])) H' ∧ H' Dl = some (.lst (((([2, 3] : List Int).take i).filter fun ar => fitsB ar wh raw form passed).map V.int))) ?_ ?_ ?_ ?_
      · exact ⟨same_new nD, upd_same⟩
      · rintro i H' _ ⟨s3, _⟩
        exact SqT.of (s3 _ _ upd_same)
      · rintro i y H2 hi ⟨s3, hD⟩
        obtain ⟨ar, har, ry, a2, a3⟩ : ∃ ar : Int, ([2, 3] : List Int)[i]? = some ar ∧ y = .int ar ∧ 2 ≤ ar ∧ ar ≤ 3 := by
          match i, hi with
          | 0, hi => exact ⟨2, rfl, (Option.some.inj hi).symm, by decide, by decide⟩
          | 1, hi => exact ⟨3, rfl, (Option.some.inj hi).symm, by decide, by decide⟩
          | _ + 2, hi => simp at hi
        subst ry
        have sA := (s1.trans s2).trans s3
        refine ⟨rfl, ?_⟩
        refine ⟨_, rfl, _, rfl, _, rfl, _, rfl, _, rfl, ar, wh, r, f', p, raw, form, passed, rfl, hR.grow sA, hF.grow sA, hP.grow sA, sR, sF, sP, a2, a3, fun H3 s4 => ⟨_, rfl, ite2 (fun q => ?_) (fun q => ?_)⟩⟩
        · refine ⟨_, rfl, _, s4 _ _ hD, ?_, same_put (s3.trans s4) nD, ?_⟩
          · rw [List.length_map]
            have := List.length_filter_le (fun ar => fitsB ar wh raw form passed) (([2, 3] : List Int).take i)
            have h2 : (([2, 3] : List Int).take i).length ≤ 2 := List.length_take_le' i ([2, 3] : List Int)
            exact Nat.lt_of_le_of_lt (m := 2) (Nat.le_trans this h2) (by decide)
          · rw [upd_same, take_one har, List.filter_append, show List.filter (fun ar => fitsB ar wh raw form passed) [ar] = [ar] by simp [q], List.map_append] <;> rfl
        · refine ⟨s3.trans s4, ?_⟩
          rw [take_one har, List.filter_append, show List.filter (fun ar => fitsB ar wh raw form passed) [ar] = [] by simp [q], List.append_nil]
          exact s4 _ _ hD
      · rintro H2 ⟨s3, hD⟩
        exact ⟨Dl, _, rfl, .inl ⟨SqL.of hD, fun q nq => k q _ (((s1.trans s2).trans s3).trans (same_new nq)) upd_same⟩⟩
end
end G

set_option Elab.async false
set_option linter.all false
set_option maxRecDepth 100000
set_option maxHeartbeats 4000000
namespace G
open PySem PySem.Spec PyProof.Rows L2
theorem nog {P : Prop} : false = true → P := fun z => Bool.noConfusion z
/-! ## the class Page -/
structure PTxt (K : PySem.W.Frag) (mg : Str → Option Value) (C : Addr) : Prop where
  cl : Cls K C
  g : ∃ u, mg "Page" = some u ∧ RelV (.ref C) u
  gC : mg "Page" = some (.ref C)
  n1 : NoAttr K C "_arities"
  n2 : NoAttr K C "_note"
  n3 : NoAttr K C "_where"
  n4 : NoAttr K C "_raw"
  n5 : NoAttr K C "_form"
  n6 : NoAttr K C "_passed"
  n7 : NoAttr K C "_after"
  n8 : NoAttr K C "_line"
  ca : PySem.W.findIn K (.ref C) "__class__" = some (some (.builtin "object.__class__"))
  cn : PySem.W.specialIn K (.builtin "object.__class__") "__get__" = some (some (.builtin "getset_descriptor.__get__"))
  ck : PySem.W.takesIn K (.builtin "object.__class__") = some true
  cm : PySem.W.mroIn K C (.type "object") = some true
  kP : PySem.W.kitOne K (.ref C) (.ref C) = some true
  kS : PySem.W.kitOne K (.type "str") (.ref C) = some false
  kN : PySem.W.kitOne K (.type "NoneType") (.ref C) = some false
structure Pg where
  note : Str
  wh : Str
  raw : Int × Int
  form : Int × Int
  passed : Int × Int
  after : Str
def Pg.line (g : Pg) : Str :=
  ((((((((((("page " : Str) ++ g.note) ++ (" " : Str)) ++ g.wh) ++ (" " : Str)) ++ pairT g.raw) ++ (" to " : Str)) ++ pairT g.form) ++ (" pass " : Str)) ++ pairT g.passed) ++ (" then " : Str)) ++ g.after
def Pg.ars (g : Pg) : List Int := arsOf g.wh g.raw g.form g.passed
def Pg.okB (g : Pg) : Bool := nameB g.note && (nameB g.after && !g.ars.isEmpty)
structure Pg.Sm (g : Pg) : Prop where
  r : SmP g.raw
  f : SmP g.form
  p : SmP g.passed
  n : g.note.length ≤ 100
  w : g.wh.length ≤ 100
  a : g.after.length ≤ 100
def pgF (ar r f p : Addr) (g : Pg) : List (Str × V) := [("_arities", .ref ar), ("_note", .str g.note), ("_where", .str g.wh), ("_raw", .ref r), ("_form", .ref f), ("_passed", .ref p), ("_after", .str g.after), ("_line", .str g.line)]
structure PageAt (C : Addr) (H : Hp) (a : Addr) (g : Pg) : Prop where
  ex : ∃ dx ar r f p, H a = some (.ins C dx (pgF ar r f p g)) ∧ H ar = some (.tup (g.ars.map V.int)) ∧ PairAt H r g.raw ∧ PairAt H f g.form ∧ PairAt H p g.passed
theorem PageAt.grow {C : Addr} {H H' : Hp} {a : Addr} {g : Pg} (s : Same H H') (h : PageAt C H a g) : PageAt C H' a g := by
  obtain ⟨dx, ar, r, f, p, h1, h2, h3, h4, h5⟩ := h.ex
  exact ⟨dx, ar, r, f, p, s _ _ h1, s _ _ h2, h3.grow s, h4.grow s, h5.grow s⟩
def Off (x : Addr) (H H' : Hp) : Prop := ∀ b o, b ≠ x → H b = some o → H' b = some o
theorem Off.of {x : Addr} {H H' : Hp} (s : Same H H') : Off x H H' := fun b o _ h => s b o h
theorem Off.trans {x : Addr} {H H1 H2 : Hp} (a : Off x H H1) (b : Off x H1 H2) : Off x H H2 := fun c o n h => b c o n (a c o n h)
theorem Off.put {x : Addr} {H : Hp} {o : HO} : Off x H (upd H x o) := fun b u n h => by
  rw [upd_ne n]
  exact h
def spInit (C CI : Addr) : Sp := fun vs H Q E => ∃ (x dx r f p : Addr) (g : Pg), vs = [.ref x, .str g.note, .str g.wh, .ref r, .ref f, .ref p, .str g.after] ∧ H x = some (.ins C dx []) ∧
  PairAt H r g.raw ∧ PairAt H f g.form ∧ PairAt H p g.passed ∧ g.Sm ∧ (g.okB = true → ∀ H', Off x H H' → PageAt C H' x g → Q .non H') ∧ (g.okB = false → ∀ H', Off x H H' → E (.ref CI) none H')
theorem ints_dx {H : Hp} : ∀ ns : List Int, DxAll H (ns.map V.int) (ns.map PyData.int)
  | [] => .nil
  | n :: r => .cons (.int n) (ints_dx r)
def intsD (ns : List Int) : PyData := .tuple (ns.map PyData.int)
theorem intsD_dict (ns : List Int) : PyData.hasDictAll (ns.map PyData.int) = false := by
  induction ns with
  | nil => simp [PyData.hasDictAll]
  | cons n r ih => simp only [List.map_cons, PyData.hasDictAll, PyData.hasDict, ih, Bool.or_self]
theorem intsD_noDict (ns : List Int) : (intsD ns).hasDict = false := by
  simp only [intsD, PyData.hasDict]
  exact intsD_dict ns
theorem ints_can : ∀ ns : List Int, PyData.canLayAll0 (ns.map PyData.int) = true ∧ PyData.depthAll (ns.map PyData.int) = 0
  | [] => ⟨by simp [PyData.canLayAll0], by simp [PyData.depthAll]⟩
  | n :: r => by
    obtain ⟨a, b⟩ := ints_can r
    exact ⟨by simp [PyData.canLayAll0, PyData.canLay0, a], by simp only [List.map_cons, PyData.depthAll, PyData.depth, b]; rfl⟩
theorem intsD_shaped (ns : List Int) : SeqAt.shaped (intsD ns) = true := by
  obtain ⟨a, b⟩ := ints_can ns
  show (PyData.canLay0 (.tuple _) && decide (PyData.depth (.tuple _) ≤ 64)) = true
  rw [Bool.and_eq_true_iff]
  exact ⟨by simp only [PyData.canLay0]; exact a, decide_eq_true (by simp only [PyData.depth, b]; omega)⟩
theorem eqv_ints_nil (ns : List Int) : PyData.eqv (intsD ns) (.tuple []) = ns.isEmpty := by
  cases ns with
  | nil => simp [intsD, PyData.eqv, PyData.eqvAll]
  | cons x r => simp [intsD, PyData.eqv, PyData.eqvAll]
theorem pgF_put {ar r f p : Addr} {g : Pg} : putF "_line" (.str g.line) (putF "_after" (.str g.after) (putF "_passed" (.ref p) (putF "_form" (.ref f) (putF "_raw" (.ref r) (putF "_where" (.str g.wh) (putF "_note" (.str g.note) (putF "_arities" (.ref ar) []))))))) = pgF ar r f p g := by
  rfl
theorem pgF_ars {ar r f p : Addr} {g : Pg} : (pgF ar r f p g).lookup ("_arities" : Str) = some (.ref ar) := by rfl
theorem pgF_note {ar r f p : Addr} {g : Pg} : (pgF ar r f p g).lookup ("_note" : Str) = some (.str g.note) := by rfl
theorem pgF_wh {ar r f p : Addr} {g : Pg} : (pgF ar r f p g).lookup ("_where" : Str) = some (.str g.wh) := by rfl
theorem pgF_raw {ar r f p : Addr} {g : Pg} : (pgF ar r f p g).lookup ("_raw" : Str) = some (.ref r) := by rfl
theorem pgF_form {ar r f p : Addr} {g : Pg} : (pgF ar r f p g).lookup ("_form" : Str) = some (.ref f) := by rfl
theorem pgF_passed {ar r f p : Addr} {g : Pg} : (pgF ar r f p g).lookup ("_passed" : Str) = some (.ref p) := by rfl
theorem pgF_after {ar r f p : Addr} {g : Pg} : (pgF ar r f p g).lookup ("_after" : Str) = some (.str g.after) := by rfl
theorem pgF_line {ar r f p : Addr} {g : Pg} : (pgF ar r f p g).lookup ("_line" : Str) = some (.str g.line) := by rfl
theorem pgF_no {ar r f p : Addr} {g : Pg} : (pgF ar r f p g).lookup ("mirrored" : Str) = none := by rfl
section
variable {P : Program} {w : World} {K : PySem.W.Frag} {mg : Str → Option Value} {base : Heap} {C CI : Addr}
theorem x_init (T : Txt K mg) (TP : PTxt K mg C) (X_InvalidPage : ErrAt K mg "InvalidPage" CI veL "ValueError.__new__") (C__arities_for : CalQ false P w K mg base 5 "_arities_for" ["where", "raw", "form", "passed"] spArs)
    (C_is_name : CalQ false P w K mg base 1 "is_name" ["value"] (spIsName K)) (C_write_pair : CalQ false P w K mg base 3 "write_pair" ["pair"] spWritePair)
    (D : IniAt K C "Page.__init__" s_Page_init ["self", "note", "where", "raw", "form", "passed", "after"]) : MakQ P w K mg base 6 "Page" C ["self", "note", "where", "raw", "form", "passed", "after"] (spInit C CI) := by
  refine makOk D TP.gC sc_Page_init (fun xs H Q E h => ?_) (fun f cdv A out s H xs Q E hr h => ?_)
  · obtain ⟨x, dx, r, f, p, g, rfl, _⟩ := h
    rfl
  · obtain ⟨x, dx, r, f', p, g, rfl, hx, hR, hF, hP, sm, k1, k2⟩ := h
    have nd := sc_Page_init.nd
    refine ⟨_, (pss_cons (ps_fld (pv 0) (pe_kq C__arities_for nog hr (by decide) rfl (pa_cons (pv 2) (pa_cons (pv 3) (pa_cons (pv 4) (pa_cons (pv 5) pa_nil))))) rfl)
      (pss_cons (ps_if (PW.pt (pw_or (pt_not (pt_val (pe_kq C_is_name nog hr (by decide) rfl (pa_cons (pv 1) pa_nil)))) (pw_or (pt_not (pt_val (pe_kq C_is_name nog hr (by decide) rfl (pa_cons (pv 6) pa_nil)))) (pw_or1 (pt_cmpR (op_eqD hr.units) (pe_fld (pv 0) rfl) (pe_tup pa_nil) (nomark _)))))) (pss_one (ps_raise rfl (takes_of rfl rfl rfl rfl) (pmk_own PySem.F.excBase_ValueError X_InvalidPage.exc X_InvalidPage.at_ X_InvalidPage.keep (raises_own X_InvalidPage.base X_InvalidPage.ty) rfl))) pss_nil)
      (PSs.nox (pss_cons (ps_fld (pv 0) (pv 1) rfl)
      (pss_cons (ps_fld (pv 0) (pv 2) rfl)
      (pss_cons (ps_fld (pv 0) (pv 3) rfl)
      (pss_cons (ps_fld (pv 0) (pv 4) rfl)
      (pss_cons (ps_fld (pv 0) (pv 5) rfl)
      (pss_cons (ps_fld (pv 0) (pv 6) rfl)
      (pss_one (ps_fld (pv 0) (pe_joined (PJ.cons pe_str (PJ.cons (pe_fmt (pv 1)) (PJ.cons pe_str (PJ.cons (pe_fmt (pv 2)) (PJ.cons pe_str (PJ.cons (pe_fmt (pe_kq C_write_pair nog hr (by decide) rfl (pa_cons (pv 3) pa_nil))) (PJ.cons pe_str (PJ.cons (pe_fmt (pe_kq C_write_pair nog hr (by decide) rfl (pa_cons (pv 4) pa_nil))) (PJ.cons pe_str (PJ.cons (pe_fmt (pe_kq C_write_pair nog hr (by decide) rfl (pa_cons (pv 5) pa_nil))) (PJ.cons pe_str (PJ.cons (pe_fmt (pv 6)) PJ.nil))))))))))))) rfl))))))))))), ?_⟩
    have sz : sizeLine = 16777216 := sizeLine_eq
    have nx : ∀ {b : Addr} {fs : Int × Int}, PairAt H b fs → b ≠ x := fun h e => by
      unfold PairAt at h
      rw [e, hx] at h
      cases h
    refine ⟨_, rfl, _, rfl, _, rfl, _, rfl, g.wh, r, f', p, g.raw, g.form, g.passed, rfl, hR, hF, hP, sm.r, sm.f, sm.p, fun ar H1 s1 har => ?_⟩
    refine ⟨_, rfl, x, C, dx, [], rfl, s1 _ _ hx, TP.cl, TP.n1, (by show 0 < 1000; decide), ?_⟩
    have nar : ar ≠ x := fun e => by
      rw [e, s1 _ _ hx] at har
      cases har
    have har2 : (upd H1 x (.ins C dx (putF "_arities" (.ref ar) []))) ar = some (.tup (g.ars.map V.int)) := by
      rw [upd_ne nar]
      exact har
    have o2 : Off x H (upd H1 x (.ins C dx (putF "_arities" (.ref ar) []))) := (Off.of s1).trans .put
    refine go_nx ?_
    refine a_if (fun b H' => b = !g.okB ∧ Same (upd H1 x (.ins C dx (putF "_arities" (.ref ar) []))) H') (fun Q' kQ => ?_) ?_ ?_
    · refine ⟨_, rfl, .inl ⟨g.note, rfl, (by have := sm.n; omega), _, rfl, ite2 (fun q => kQ _ _ ⟨?_, Same.refl _⟩) (fun q => ?_)⟩⟩
      · unfold Pg.okB
        rw [show nameB g.note = false by simpa using q] <;> rfl
      · have q : nameB g.note = true := by simpa using q
        refine ⟨_, rfl, .inl ⟨g.after, rfl, (by have := sm.a; omega), _, rfl, ite2 (fun q1 => kQ _ _ ⟨?_, Same.refl _⟩) (fun q1 => ?_)⟩⟩
        · unfold Pg.okB
          rw [q, show nameB g.after = false by simpa using q1] <;> rfl
        · have q1 : nameB g.after = true := by simpa using q1
          refine ⟨_, rfl, x, C, dx, _, _, rfl, upd_same, TP.cl, TP.n1, rfl, (by show 0 ≤ sizeLine; decide), fun e ne => ?_⟩
          have s3 := same_new (H := upd H1 x (.ins C dx (putF "_arities" (.ref ar) []))) (o := .tup []) ne
          refine ⟨intsD g.ars, .tuple [], Dx.dp (.tup (s3 _ _ har2) (ints_dx _)) (intsD_noDict _), Dx.dp (.tup upd_same .nil) (by simp [PyData.hasDict, PyData.hasDictAll]), intsD_shaped _, (by decide +kernel), _, rfl, kQ _ _ ⟨?_, s3⟩⟩
          rw [eqv_ints_nil]
          unfold Pg.okB
          rw [q, q1, Bool.true_and, Bool.true_and, Bool.not_not]
    · rintro H3 ⟨hb, s3⟩
      exact k2 (by have := hb.symm; rwa [Bool.not_eq_true'] at this) H3 (o2.trans (Off.of s3))
    · rintro H3 ⟨hb, s3⟩
      have k := k1 (by have := hb.symm; rwa [Bool.not_eq_false'] at this)
      have o3 := o2.trans (Off.of s3)
      have hx3 := s3 _ _ (upd_same (H := H1) (a := x) (o := .ins C dx (putF "_arities" (.ref ar) [])))
      have har3 := s3 _ _ har2
      refine go_nx ?_
      refine ⟨_, rfl, _, rfl, x, C, dx, _, rfl, hx3, TP.cl, TP.n2, (by show 1 < 1000; decide), ?_⟩
      refine ⟨_, rfl, _, rfl, x, C, dx, _, rfl, upd_same, TP.cl, TP.n3, (by show 2 < 1000; decide), ?_⟩
      refine ⟨_, rfl, _, rfl, x, C, dx, _, rfl, upd_same, TP.cl, TP.n4, (by show 3 < 1000; decide), ?_⟩
      refine ⟨_, rfl, _, rfl, x, C, dx, _, rfl, upd_same, TP.cl, TP.n5, (by show 4 < 1000; decide), ?_⟩
      refine ⟨_, rfl, _, rfl, x, C, dx, _, rfl, upd_same, TP.cl, TP.n6, (by show 5 < 1000; decide), ?_⟩
      refine ⟨_, rfl, _, rfl, x, C, dx, _, rfl, upd_same, TP.cl, TP.n7, (by show 6 < 1000; decide), ?_⟩
      generalize hH4 : upd _ x (HO.ins C dx (putF "_after" (V.str g.after) _)) = H4
      have hx4 : H4 x = some (.ins C dx (putF "_after" (.str g.after) (putF "_passed" (.ref p) (putF "_form" (.ref f') (putF "_raw" (.ref r) (putF "_where" (.str g.wh) (putF "_note" (.str g.note) (putF "_arities" (.ref ar) [])))))))) := by
        rw [← hH4]
        exact upd_same
      have o4 : Off x H3 H4 := by
        rw [← hH4]
        exact ((((Off.put.trans .put).trans .put).trans .put).trans .put).trans .put
      have o5 := o3.trans o4
      have hR4 : PairAt H4 r g.raw := o5 _ _ (nx hR) hR
      have hF4 : PairAt H4 f' g.form := o5 _ _ (nx hF) hF
      have hP4 : PairAt H4 p g.passed := o5 _ _ (nx hP) hP
      have L : ∀ a b : Str, (a ++ b).length = a.length + b.length := fun a b => Str.length_append a b
      have c1 : Str.length ("page " : Str) = 5 := by decide +kernel
      have c2 : Str.length (" " : Str) = 1 := by decide +kernel
      have c3 : Str.length (" to " : Str) = 4 := by decide +kernel
      have c4 : Str.length (" pass " : Str) = 6 := by decide +kernel
      have c5 : Str.length (" then " : Str) = 6 := by decide +kernel
      have p1 := pairT_len sm.r.big
      have p2 := pairT_len sm.f.big
      have p3 := pairT_len sm.p.big
      have m1 := sm.n
      have m2 := sm.w
      have m3 := sm.a
      have e0 : Str.empty ++ ("page " : Str) = ("page " : Str) := empty_app _
      show _
      refine ⟨_, rfl, (by rw [e0]; omega), ?_⟩
      rw [e0]
      refine ⟨_, rfl, .inl ⟨_, rfl, (by omega), _, rfl, (by simp only [L]; omega), ?_⟩⟩
      refine ⟨_, rfl, (by simp only [L]; omega), ?_⟩
      refine ⟨_, rfl, .inl ⟨_, rfl, (by omega), _, rfl, (by simp only [L]; omega), ?_⟩⟩
      refine ⟨_, rfl, (by simp only [L]; omega), ?_⟩
      refine ⟨_, rfl, _, g.raw, rfl, hR4.dx, sm.r.big, fun H5 s5 => .inl ⟨_, rfl, (by omega), _, rfl, (by simp only [L]; omega), ?_⟩⟩
      refine ⟨_, rfl, (by simp only [L]; omega), ?_⟩
      refine ⟨_, rfl, _, g.form, rfl, hF4.dx.grow s5, sm.f.big, fun H6 s6 => .inl ⟨_, rfl, (by omega), _, rfl, (by simp only [L]; omega), ?_⟩⟩
      refine ⟨_, rfl, (by simp only [L]; omega), ?_⟩
      refine ⟨_, rfl, _, g.passed, rfl, hP4.dx.grow (s5.trans s6), sm.p.big, fun H7 s7 => .inl ⟨_, rfl, (by omega), _, rfl, (by simp only [L]; omega), ?_⟩⟩
      refine ⟨_, rfl, (by simp only [L]; omega), ?_⟩
      refine ⟨_, rfl, .inl ⟨_, rfl, (by omega), _, rfl, (by simp only [L]; omega), ?_⟩⟩
      have s7' := (s5.trans s6).trans s7
      refine ⟨_, rfl, x, C, dx, _, rfl, s7' _ _ hx4, TP.cl, TP.n8, (by show 7 < 1000; decide), ?_⟩
      refine k _ ((o5.trans (Off.of s7')).trans .put) ⟨dx, ar, r, f', p, ?_, ?_, ?_, ?_, ?_⟩
      · exact upd_same
      · rw [upd_ne nar]
        exact s7' _ _ (o4 _ _ nar har3)
      · unfold PairAt
        rw [upd_ne (nx hR)]
        exact s7' _ _ hR4
      · unfold PairAt
        rw [upd_ne (nx hF)]
        exact s7' _ _ hF4
      · unfold PairAt
        rw [upd_ne (nx hP)]
        exact s7' _ _ hP4
end
end G

set_option Elab.async false
set_option linter.all false
set_option maxRecDepth 100000
set_option maxHeartbeats 4000000
namespace G
open PySem PySem.Spec PyProof.Rows L2
/-! ## the methods of a page -/
theorem within_swap (f : Int × Int) (lo hi : Int) : pairWithin (formD f.swap) lo hi = pairWithin (formD f) lo hi := by
  obtain ⟨a, b⟩ := f
  show (pairB (.tuple [.int b, .int a]) && (decide (lo ≤ min b a) && decide (max b a ≤ hi))) = (pairB (.tuple [.int a, .int b]) && (decide (lo ≤ min a b) && decide (max a b ≤ hi)))
  rw [Int.min_comm b a, Int.max_comm b a]
  have e : pairB (.tuple [.int b, .int a]) = pairB (.tuple [.int a, .int b]) := by
    show (intB (.int b) && intB (.int a)) = (intB (.int a) && intB (.int b))
    exact Bool.and_comm _ _
  rw [e]
theorem fits_swap (ar : Int) (wh : Str) (r f p : Int × Int) : fitsB ar wh r.swap f.swap p.swap = fitsB ar wh r f p := by
  obtain ⟨r1, r2⟩ := r
  obtain ⟨f1, f2⟩ := f
  obtain ⟨p1, p2⟩ := p
  unfold fitsB
  by_cases q : wh = "inner"
  · rw [if_pos q, if_pos q]
    rw [Bool.eq_iff_iff, decide_eq_true_eq, decide_eq_true_eq]
    simp only [Prod.swap, Prod.mk.injEq]
    exact And.comm
  · rw [if_neg q, if_neg q]
    simp only [Prod.swap]
    rw [Bool.eq_iff_iff]
    simp only [Bool.and_eq_true, decide_eq_true_eq]
    rw [Int.min_comm p2 p1, Int.add_comm f2 f1, Int.add_comm p2 p1, Int.add_comm r2 r1]
theorem ars_swap (wh : Str) (r f p : Int × Int) : arsOf wh r.swap f.swap p.swap = arsOf wh r f p := by
  have e : (fun ar => fitsB ar wh r.swap f.swap p.swap) = fun ar => fitsB ar wh r f p := funext fun ar => fits_swap ar wh r f p
  have ef : formB (formD f.swap) = formB (formD f) := by
    rw [← within_form, ← within_form]
    exact within_swap f 0 7
  unfold arsOf rawB passB
  rw [e, within_swap r, within_swap p, ef]
def Pg.mir (g : Pg) : Pg := ⟨g.note, g.wh, g.raw.swap, g.form.swap, g.passed.swap, g.after⟩
theorem Pg.mir_ars (g : Pg) : g.mir.ars = g.ars := ars_swap _ _ _ _
theorem Pg.mir_ok (g : Pg) : g.mir.okB = g.okB := by
  unfold Pg.okB
  rw [g.mir_ars]
  rfl
theorem Pg.Sm.mir {g : Pg} (s : g.Sm) : g.mir.Sm := ⟨s.r.swap, s.f.swap, s.p.swap, s.n, s.w, s.a⟩
theorem Pg.mir_mir (g : Pg) : g.mir.mir = g := rfl
def spPlace (C : Addr) : Sp := fun vs H Q _ => ∃ (a : Addr) (g : Pg), vs = [.ref a] ∧ PageAt C H a g ∧ ∀ (t r : Addr) H', Same H H' → H' t = some (.tup [.str g.note, .str g.wh, .ref r]) → PairAt H' r g.raw → Q (.ref t) H'
def spMir (C : Addr) : Sp := fun vs H Q _ => ∃ (a : Addr) (g : Pg), vs = [.ref a] ∧ PageAt C H a g ∧ g.okB = true ∧ g.Sm ∧ ∀ (b : Addr) H', Same H H' → PageAt C H' b g.mir → Q (.ref b) H'
def spPageStr (C : Addr) : Sp := fun vs H Q _ => ∃ (a : Addr) (g : Pg), vs = [.ref a] ∧ PageAt C H a g ∧ g.Sm ∧ Q (.str g.line) H
def spPageEq (C : Addr) : Sp := fun vs H Q _ => ∃ (a : Addr) (y : V) (g : Pg), vs = [.ref a, y] ∧ PageAt C H a g ∧
  ((∃ b g', y = .ref b ∧ PageAt C H b g' ∧ Q (.bl (decide (g.line = g'.line))) H) ∨ (∃ z, y = .str z ∧ Q (.bl false) H) ∨ (y = .non ∧ Q (.bl false) H))
theorem line_len {g : Pg} (s : g.Sm) : g.line.length ≤ 700 := by
  have L : ∀ a b : Str, (a ++ b).length = a.length + b.length := fun a b => Str.length_append a b
  have c1 : Str.length ("page " : Str) = 5 := by decide +kernel
  have c2 : Str.length (" " : Str) = 1 := by decide +kernel
  have c3 : Str.length (" to " : Str) = 4 := by decide +kernel
  have c4 : Str.length (" pass " : Str) = 6 := by decide +kernel
  have c5 : Str.length (" then " : Str) = 6 := by decide +kernel
  have p1 := pairT_len s.r.big
  have p2 := pairT_len s.f.big
  have p3 := pairT_len s.p.big
  have m1 := s.n
  have m2 := s.w
  have m3 := s.a
  unfold Pg.line
  simp only [L]
  omega
section
variable {P : Program} {w : World} {K : PySem.W.Frag} {mg : Str → Option Value} {base : Heap} {C CI : Addr}
theorem p_note (TP : PTxt K mg C) (D : PrpAt K C "note" "Page.note" s_Page_note) : PrpQ P w K mg base 1 C "note" (getSp C "_note") := by
  refine prpOk D TP.cl sc_Page_note (fun xs H Q E h => ?_) (fun f cdv A out s H xs Q E hr h => ?_)
  · obtain ⟨a, dx, fs, v, rfl, _⟩ := h
    rfl
  · obtain ⟨a, dx, fs, v, rfl, ha, l, q⟩ := h
    have nd := sc_Page_note.nd
    refine ⟨_, (pss_one (ps_ret (pe_fld (pv 0) rfl))), ?_⟩
    exact ⟨_, rfl, a, C, dx, fs, v, rfl, ha, TP.cl, TP.n2, l, q⟩
theorem p_where (TP : PTxt K mg C) (D : PrpAt K C "where" "Page.where" s_Page_where) : PrpQ P w K mg base 1 C "where" (getSp C "_where") := by
  refine prpOk D TP.cl sc_Page_where (fun xs H Q E h => ?_) (fun f cdv A out s H xs Q E hr h => ?_)
  · obtain ⟨a, dx, fs, v, rfl, _⟩ := h
    rfl
  · obtain ⟨a, dx, fs, v, rfl, ha, l, q⟩ := h
    have nd := sc_Page_where.nd
    refine ⟨_, (pss_one (ps_ret (pe_fld (pv 0) rfl))), ?_⟩
    exact ⟨_, rfl, a, C, dx, fs, v, rfl, ha, TP.cl, TP.n3, l, q⟩
theorem p_raw (TP : PTxt K mg C) (D : PrpAt K C "raw" "Page.raw" s_Page_raw) : PrpQ P w K mg base 1 C "raw" (getSp C "_raw") := by
  refine prpOk D TP.cl sc_Page_raw (fun xs H Q E h => ?_) (fun f cdv A out s H xs Q E hr h => ?_)
  · obtain ⟨a, dx, fs, v, rfl, _⟩ := h
    rfl
  · obtain ⟨a, dx, fs, v, rfl, ha, l, q⟩ := h
    have nd := sc_Page_raw.nd
    refine ⟨_, (pss_one (ps_ret (pe_fld (pv 0) rfl))), ?_⟩
    exact ⟨_, rfl, a, C, dx, fs, v, rfl, ha, TP.cl, TP.n4, l, q⟩
theorem p_form (TP : PTxt K mg C) (D : PrpAt K C "form" "Page.form" s_Page_form) : PrpQ P w K mg base 1 C "form" (getSp C "_form") := by
  refine prpOk D TP.cl sc_Page_form (fun xs H Q E h => ?_) (fun f cdv A out s H xs Q E hr h => ?_)
  · obtain ⟨a, dx, fs, v, rfl, _⟩ := h
    rfl
  · obtain ⟨a, dx, fs, v, rfl, ha, l, q⟩ := h
    have nd := sc_Page_form.nd
    refine ⟨_, (pss_one (ps_ret (pe_fld (pv 0) rfl))), ?_⟩
    exact ⟨_, rfl, a, C, dx, fs, v, rfl, ha, TP.cl, TP.n5, l, q⟩
theorem p_passed (TP : PTxt K mg C) (D : PrpAt K C "passed" "Page.passed" s_Page_passed) : PrpQ P w K mg base 1 C "passed" (getSp C "_passed") := by
  refine prpOk D TP.cl sc_Page_passed (fun xs H Q E h => ?_) (fun f cdv A out s H xs Q E hr h => ?_)
  · obtain ⟨a, dx, fs, v, rfl, _⟩ := h
    rfl
  · obtain ⟨a, dx, fs, v, rfl, ha, l, q⟩ := h
    have nd := sc_Page_passed.nd
    refine ⟨_, (pss_one (ps_ret (pe_fld (pv 0) rfl))), ?_⟩
    exact ⟨_, rfl, a, C, dx, fs, v, rfl, ha, TP.cl, TP.n6, l, q⟩
theorem p_after (TP : PTxt K mg C) (D : PrpAt K C "after" "Page.after" s_Page_after) : PrpQ P w K mg base 1 C "after" (getSp C "_after") := by
  refine prpOk D TP.cl sc_Page_after (fun xs H Q E h => ?_) (fun f cdv A out s H xs Q E hr h => ?_)
  · obtain ⟨a, dx, fs, v, rfl, _⟩ := h
    rfl
  · obtain ⟨a, dx, fs, v, rfl, ha, l, q⟩ := h
    have nd := sc_Page_after.nd
    refine ⟨_, (pss_one (ps_ret (pe_fld (pv 0) rfl))), ?_⟩
    exact ⟨_, rfl, a, C, dx, fs, v, rfl, ha, TP.cl, TP.n7, l, q⟩
theorem p_line (TP : PTxt K mg C) (D : PrpAt K C "line" "Page.line" s_Page_line) : PrpQ P w K mg base 1 C "line" (getSp C "_line") := by
  refine prpOk D TP.cl sc_Page_line (fun xs H Q E h => ?_) (fun f cdv A out s H xs Q E hr h => ?_)
  · obtain ⟨a, dx, fs, v, rfl, _⟩ := h
    rfl
  · obtain ⟨a, dx, fs, v, rfl, ha, l, q⟩ := h
    have nd := sc_Page_line.nd
    refine ⟨_, (pss_one (ps_ret (pe_fld (pv 0) rfl))), ?_⟩
    exact ⟨_, rfl, a, C, dx, fs, v, rfl, ha, TP.cl, TP.n8, l, q⟩
theorem p_arities (TP : PTxt K mg C) (D : PrpAt K C "arities" "Page.arities" s_Page_arities) : PrpQ P w K mg base 1 C "arities" (getSp C "_arities") := by
  refine prpOk D TP.cl sc_Page_arities (fun xs H Q E h => ?_) (fun f cdv A out s H xs Q E hr h => ?_)
  · obtain ⟨a, dx, fs, v, rfl, _⟩ := h
    rfl
  · obtain ⟨a, dx, fs, v, rfl, ha, l, q⟩ := h
    have nd := sc_Page_arities.nd
    refine ⟨_, (pss_one (ps_ret (pe_fld (pv 0) rfl))), ?_⟩
    exact ⟨_, rfl, a, C, dx, fs, v, rfl, ha, TP.cl, TP.n1, l, q⟩
theorem p_place (TP : PTxt K mg C) (D : PrpAt K C "place" "Page.place" s_Page_place) : PrpQ P w K mg base 1 C "place" (spPlace C) := by
  refine prpOk D TP.cl sc_Page_place (fun xs H Q E h => ?_) (fun f cdv A out s H xs Q E hr h => ?_)
  · obtain ⟨a, g, rfl, _⟩ := h
    rfl
  · obtain ⟨a, g, rfl, hp, k⟩ := h
    obtain ⟨dx, ar, r, f', p, h1, h2, h3, h4, h5⟩ := hp.ex
    have nd := sc_Page_place.nd
    refine ⟨_, (pss_one (ps_ret (pe_tup (pa_cons (pe_fld (pv 0) rfl) (pa_cons (pe_fld (pv 0) rfl) (pa_cons (pe_fld (pv 0) rfl) pa_nil)))))), ?_⟩
    refine ⟨_, rfl, a, C, dx, _, _, rfl, h1, TP.cl, TP.n2, pgF_note, _, rfl, a, C, dx, _, _, rfl, h1, TP.cl, TP.n3, pgF_wh, _, rfl, a, C, dx, _, _, rfl, h1, TP.cl, TP.n4, pgF_raw, (by show 3 ≤ sizeLine; decide), fun t nt => ?_⟩
    exact k t r _ (same_new nt) upd_same (h3.grow (same_new nt))
theorem m_mirrored (T : Txt K mg) (TP : PTxt K mg C) (C_mirrored_pair : CalQ false P w K mg base 1 "mirrored_pair" ["pair"] spSwapP)
    (MK_Page : MakQ P w K mg base 6 "Page" C ["self", "note", "where", "raw", "form", "passed", "after"] (spInit C CI)) (D : MetAt K C "mirrored" "Page.mirrored" s_Page_mirrored ["self"]) : MthQ P w K mg base 8 C "mirrored" ["self"] (spMir C) := by
  refine mthOk D TP.cl sc_Page_mirrored (fun xs H Q E h => ?_) (fun f cdv A out s H xs Q E hr h => ?_)
  · obtain ⟨a, g, rfl, _⟩ := h
    rfl
  · obtain ⟨a, g, rfl, hp, ok, sm, k⟩ := h
    obtain ⟨dx, ar, r, f', p, h1, h2, h3, h4, h5⟩ := hp.ex
    have nd := sc_Page_mirrored.nd
    refine ⟨_, (pss_cons (ps_par3 (i := 1) (j := 2) (l := 3) (by rfl) nd rfl rfl rfl (by decide) (by decide) (by decide) rfl rfl rfl (pa_cons (pe_kq C_mirrored_pair nog hr (by decide) rfl (pa_cons (pe_fld (pv 0) rfl) pa_nil)) (pa_cons (pe_kq C_mirrored_pair nog hr (by decide) rfl (pa_cons (pe_fld (pv 0) rfl) pa_nil)) (pa_cons (pe_kq C_mirrored_pair nog hr (by decide) rfl (pa_cons (pe_fld (pv 0) rfl) pa_nil)) pa_nil))) (by rfl))
      (pss_one (ps_ret (pe_mkS MK_Page px0 hr (by decide) rfl (pa_cons (pe_fld (pv 0) rfl) (pa_cons (pe_fld (pv 0) rfl) (pa_cons (pv 1) (pa_cons (pv 2) (pa_cons (pv 3) (pa_cons (pe_fld (pv 0) rfl) pa_nil)))))))))), ?_⟩
    refine ⟨_, rfl, a, C, dx, _, _, rfl, h1, TP.cl, TP.n4, pgF_raw, r, g.raw, rfl, h3, fun r2 H1 s1 hr2 => ?_⟩
    refine ⟨_, rfl, a, C, dx, _, _, rfl, s1 _ _ h1, TP.cl, TP.n5, pgF_form, f', g.form, rfl, h4.grow s1, fun f2 H2 s2 hf2 => ?_⟩
    have s12 := s1.trans s2
    refine ⟨_, rfl, a, C, dx, _, _, rfl, s12 _ _ h1, TP.cl, TP.n6, pgF_passed, p, g.passed, rfl, h5.grow s12, fun p2 H3 s3 hp2 => ?_⟩
    have s13 := s12.trans s3
    have h13 := s13 _ _ h1
    refine ⟨_, _, _, rfl, ?_⟩
    refine ⟨_, rfl, a, C, dx, _, _, rfl, h13, TP.cl, TP.n2, pgF_note, _, rfl, a, C, dx, _, _, rfl, h13, TP.cl, TP.n3, pgF_wh, _, rfl, _, rfl, _, rfl, _, rfl, a, C, dx, _, _, rfl, h13, TP.cl, TP.n7, pgF_after, fun x dy nx ny nyx => ?_⟩
    have s4 : Same H3 (upd (upd H3 dy (.own x)) x (.ins C dy [])) := (same_new ny).trans (same_new (by rw [upd_ne (Ne.symm nyx)]; exact nx))
    refine ⟨x, dy, r2, f2, p2, g.mir, rfl, upd_same, (hr2.grow (s2.trans s3)).grow s4, (hf2.grow s3).grow s4, hp2.grow s4, sm.mir, fun _ H4 o4 h6 => ⟨rfl, ?_⟩, fun z => ?_⟩
    · refine k x H4 (fun b o e => o4 b o ?_ (s4 _ _ (s13 _ _ e))) h6
      intro e2
      rw [e2] at e
      rw [s13 _ _ e] at nx
      cases nx
    · rw [g.mir_ok, ok] at z
      cases z
theorem m_str (T : Txt K mg) (TP : PTxt K mg C) (D : MetAt K C "__str__" "Page.__str__" s_Page_str ["self"]) : StrQ P w K mg base 1 C (spPageStr C) := by
  have M : MthQ P w K mg base 1 C "__str__" ["self"] (spPageStr C) := by
    refine mthOk D TP.cl sc_Page_str (fun xs H Q E h => ?_) (fun f cdv A out s H xs Q E hr h => ?_)
    · obtain ⟨a, g, rfl, _⟩ := h
      rfl
    · obtain ⟨a, g, rfl, hp, sm, k⟩ := h
      obtain ⟨dx, ar, r, f', p, h1, h2, h3, h4, h5⟩ := hp.ex
      have nd := sc_Page_str.nd
      refine ⟨_, (pss_one (ps_ret (pe_joined1 (pe_fmt (pe_fld (pv 0) rfl))))), ?_⟩
      have sz : sizeLine = 16777216 := sizeLine_eq
      have l := line_len sm
      exact ⟨_, rfl, a, C, dx, _, _, rfl, h1, TP.cl, TP.n8, pgF_line, .inl ⟨_, rfl, (by omega), k⟩⟩
  obtain ⟨f, fd, F, hm, hb⟩ := M.ex
  exact ⟨f, fd, F, hm, hb⟩
theorem m_eq (T : Txt K mg) (TP : PTxt K mg C) (hne : PySem.W.findIn K (.ref C) "__ne__" = some (some (.builtin "object.__ne__"))) (D : MetAt K C "__eq__" "Page.__eq__" s_Page_eq ["self", "other"]) : EqQ P w K mg base 1 C (spPageEq C) := by
  have M : MthQ P w K mg base 1 C "__eq__" ["self", "other"] (spPageEq C) := by
    refine mthOk D TP.cl sc_Page_eq (fun xs H Q E h => ?_) (fun f cdv A out s H xs Q E hr h => ?_)
    · obtain ⟨a, y, g, rfl, _⟩ := h
      rfl
    · obtain ⟨a, y, g, rfl, hp, k⟩ := h
      obtain ⟨dx, ar, r, f', p, h1, h2, h3, h4, h5⟩ := hp.ex
      have nd := sc_Page_eq.nd
      refine ⟨_, (pss_one (ps_ret (pe_and (pe_callB call_isi (by rfl) T.isinstance (by decide +kernel) (pa_cons (pv 1) (pa_cons (pe_gv rfl TP.g) pa_nil))) (pe_one (pe_cmpR op_eq (pe_fld (pv 0) rfl) (pe_fld (pv 1) rfl) (nomark _)))))), ?_⟩
      rcases k with ⟨b, g', rfl, hb, k⟩ | ⟨z, rfl, k⟩ | ⟨rfl, k⟩
      · obtain ⟨dy, ar', r', f2, p', e1, e2, e3, e4, e5⟩ := hb.ex
        refine ⟨_, rfl, _, _, _, _, true, rfl, .own C, .base (.ins e1 TP.cl TP.ca TP.cn TP.ck TP.cm), TP.kP, true, rfl, iteT ?_⟩
        refine ⟨_, rfl, a, C, dx, _, _, rfl, h1, TP.cl, TP.n8, pgF_line, _, rfl, b, C, dy, _, _, rfl, e1, TP.cl, TP.n8, pgF_line, rfl, ?_⟩
        have e : decide (V.str g.line = V.str g'.line) = decide (g.line = g'.line) := by
          rw [Bool.eq_iff_iff]
          simp
        show Q (.bl (decide (V.str g.line = V.str g'.line))) H
        rw [e]
        exact k
      · exact ⟨_, rfl, _, _, _, _, false, rfl, .own C, .base (.str z), TP.kS, false, rfl, iteF k⟩
      · exact ⟨_, rfl, _, _, _, _, false, rfl, .own C, .base .non, TP.kN, false, rfl, iteF k⟩
  obtain ⟨f, fd, F, hm, hb⟩ := M.ex
  exact ⟨⟨f, fd, F, hm, hb⟩, hne, TP.cm⟩
end
end G

set_option Elab.async false
set_option linter.all false
set_option maxRecDepth 100000
set_option maxHeartbeats 4000000
namespace G
open PySem PySem.Spec PyProof.Rows L2
/-! ## a page from its line -/
open TL in
theorem name_blank {z : Str} (h : nameB z = true) : 32 ∉ tl z := by
  unfold nameB at h
  simp only [Bool.and_eq_true] at h
  have h2 : Txt.isalpha z = true := h.2.2.2.1
  unfold Txt.isalpha at h2
  simp only [Bool.and_eq_true] at h2
  intro hm
  have q : z.cps.toList.all Unicode.isAlpha = true := by
    rw [Array.all_toList]
    exact h2.2
  have := List.all_eq_true.mp q 32 hm
  exact absurd this (by decide +kernel)
theorem where_of {z : Str} (h : whereB z = true) : z = "inner" ∨ z = "last" := by
  unfold whereB inV at h
  rw [List.any_cons, List.any_cons, List.any_nil, Bool.or_false, Bool.or_eq_true] at h
  rcases h with h | h
  · exact .inl (of_decide_eq_true (p := ("inner" : Str) = z) h).symm
  · exact .inr (of_decide_eq_true (p := ("last" : Str) = z) h).symm
def Pg.words (g : Pg) : List Str := ["page", g.note, g.wh, pairT g.raw, "to", pairT g.form, "pass", pairT g.passed, "then", g.after]
open TL in
theorem Pg.line_join (g : Pg) : g.line = Txt.join " " g.words := by
  refine ext_tl ?_
  rw [TL.join_eq, tl_join]
  have b1 : tl ("page " : Str) = tl ("page" : Str) ++ tl (" " : Str) := by decide +kernel
  have b2 : tl (" to " : Str) = tl (" " : Str) ++ (tl ("to" : Str) ++ tl (" " : Str)) := by decide +kernel
  have b3 : tl (" pass " : Str) = tl (" " : Str) ++ (tl ("pass" : Str) ++ tl (" " : Str)) := by decide +kernel
  have b4 : tl (" then " : Str) = tl (" " : Str) ++ (tl ("then" : Str) ++ tl (" " : Str)) := by decide +kernel
  unfold Pg.line Pg.words
  simp only [tl_append, b1, b2, b3, b4, List.map_cons, List.map_nil, joinL, List.append_assoc]
theorem Pg.ok_parts {g : Pg} (h : g.okB = true) : nameB g.note = true ∧ nameB g.after = true ∧ (g.wh = "inner" ∨ g.wh = "last") := by
  unfold Pg.okB at h
  simp only [Bool.and_eq_true] at h
  refine ⟨h.1, h.2.1, ?_⟩
  have h3 := h.2.2
  unfold Pg.ars arsOf at h3
  split at h3
  · rename_i q
    simp only [Bool.and_eq_true] at q
    exact where_of q.1
  · simp at h3
open TL in
theorem Pg.split_line {g : Pg} (h : g.okB = true) : Txt.split g.line " " = g.words := by
  obtain ⟨h1, h2, h3⟩ := Pg.ok_parts h
  rw [g.line_join]
  refine split_join (s := 32) (S := []) (by decide +kernel) blank_one.2.1 (by unfold Pg.words; simp) fun p hp => ?_
  have pb : ∀ f : Int × Int, 32 ∉ tl (pairT f) := fun f hm => by
    have := pair_signs hm
    omega
  unfold Pg.words at hp
  simp only [List.mem_cons, List.not_mem_nil, or_false] at hp
  rcases hp with rfl | rfl | rfl | rfl | rfl | rfl | rfl | rfl | rfl | rfl
  · decide +kernel
  · exact name_blank h1
  · rcases h3 with e | e
    · rw [e]
      decide +kernel
    · rw [e]
      decide +kernel
  · exact pb _
  · decide +kernel
  · exact pb _
  · decide +kernel
  · exact pb _
  · decide +kernel
  · exact name_blank h2
def spFromLine (C : Addr) : Sp := fun vs H Q _ => ∃ g : Pg, vs = [.ref C, .str g.line] ∧ g.okB = true ∧ g.Sm ∧ ∀ (a : Addr) H', Same H H' → PageAt C H' a g → Q (.ref a) H'
section
variable {P : Program} {w : World} {K : PySem.W.Frag} {mg : Str → Option Value} {base : Heap} {C CI : Addr}
theorem m_from_line (T : Txt K mg) (TP : PTxt K mg C) (X_InvalidPage : ErrAt K mg "InvalidPage" CI veL "ValueError.__new__") (C_words_of : CalQ false P w K mg base 1 "words_of" ["line"] spWords) (C_pair_of : CalQ false P w K mg base 3 "pair_of" ["text"] spPairOf)
    (MK_Page : MakQ P w K mg base 6 "Page" C ["self", "note", "where", "raw", "form", "passed", "after"] (spInit C CI)) (D : CmAt K C "from_line" "Page.from_line" s_Page_from_line ["cls", "line"]) : CmQ P w K mg base 8 C "from_line" ["cls", "line"] (spFromLine C) := by
  refine cmOk D sc_Page_from_line (fun xs H Q E h => ?_) (fun f cdv A out s H xs Q E hr h => ?_)
  · obtain ⟨g, rfl, _⟩ := h
    rfl
  · obtain ⟨g, rfl, ok, sm, k⟩ := h
    have nd := sc_Page_from_line.nd
    refine ⟨_, (pss_cons (ps_set (i := 2) nd rfl (.inl rfl) (pe_kq C_words_of nog hr (by decide) rfl (pa_cons (pv 1) pa_nil)))
      (pss_cons (ps_if (PW.pt (pw_or (pt_cmpR op_ne (pe_callB call_len_seq (by rfl) T.len (by decide +kernel) (pa_cons (pv 2) pa_nil)) pe_int (nomark _)) (pw_or1 (pt_cmpR (op_neD hr.units) (pe_tup (pa_cons (pe_ix ix_tup (pv 2) pe_int (fun _ _ => rfl)) (pa_cons (pe_ix ix_tup (pv 2) pe_int (fun _ _ => rfl)) (pa_cons (pe_ix ix_tup (pv 2) pe_int (fun _ _ => rfl)) (pa_cons (pe_ix ix_tup (pv 2) pe_int (fun _ _ => rfl)) pa_nil))))) (pe_tup (pa_cons pe_str (pa_cons pe_str (pa_cons pe_str (pa_cons pe_str pa_nil))))) (nomark _))))) (pss_one (ps_never)) pss_nil)
      (pss_cons (ps_par3 (i := 3) (j := 4) (l := 5) (by rfl) nd rfl rfl rfl (by decide) (by decide) (by decide) rfl rfl rfl (pa_cons (pe_kq C_pair_of nog hr (by decide) rfl (pa_cons (pe_ix ix_tup (pv 2) pe_int (fun _ _ => rfl)) pa_nil)) (pa_cons (pe_kq C_pair_of nog hr (by decide) rfl (pa_cons (pe_ix ix_tup (pv 2) pe_int (fun _ _ => rfl)) pa_nil)) (pa_cons (pe_kq C_pair_of nog hr (by decide) rfl (pa_cons (pe_ix ix_tup (pv 2) pe_int (fun _ _ => rfl)) pa_nil)) pa_nil))) (by rfl))
      (pss_one (ps_try_only rfl rfl ⟨rfl, by decide, .inl X_InvalidPage.at_⟩ (takes_of rfl rfl rfl rfl) (fun W pn xe tk _ => pss_one (ps_ret (pe_mkLS (i := 0) MK_Page px0 hr (by decide) rfl (.inl rfl) (pa_cons (pe_ix (show IxR _ (rIxT K) from ix_tup) (pv 2) pe_int (fun _ _ => rfl)) (pa_cons (pe_ix (show IxR _ (rIxT K) from ix_tup) (pv 2) pe_int (fun _ _ => rfl)) (pa_cons (pv 3) (pa_cons (pv 4) (pa_cons (pv 5) (pa_cons (pe_ix (show IxR _ (rIxT K) from ix_tup) (pv 2) pe_int (fun _ _ => rfl)) pa_nil))))))))) (fun a oe cls d pn _ _ => pss_one ps_never)))))), ?_⟩
    have ll := line_len sm
    refine a_set (fun v H' => ∃ t, v = .ref t ∧ Same H H' ∧ H' t = some (.tup (g.words.map V.str))) (fun Q' kQ => ?_) ?_
    · exact ⟨_, rfl, g.line, rfl, (by omega), fun t H1 s1 ht => kQ _ _ ⟨t, rfl, s1, by rw [Pg.split_line ok] at ht; exact ht⟩⟩
    rintro _ H1 ⟨t, rfl, s1, ht⟩
    refine a_if (fun b H' => b = false ∧ Same H1 H') (fun Q' kQ => ?_) (fun H' h => nomatch h.1) ?_
    · refine ⟨_, rfl, _, _, rfl, .inr (SqT.of ht), rfl, _, rfl, ite2 (fun q => absurd q (by show ¬ (!decide (V.int ((10 : Nat) : Int) = V.int 10)) = true; decide +kernel)) (fun _ => ?_)⟩
      refine ⟨_, rfl, t, _, _, _, rfl, rfl, SqT.of ht, atI_nat (j := 0) rfl, _, rfl, t, _, _, _, rfl, rfl, SqT.of ht, atI_nat (j := 4) rfl, _, rfl, t, _, _, _, rfl, rfl, SqT.of ht, atI_nat (j := 6) rfl, _, rfl, t, _, _, _, rfl, rfl, SqT.of ht, atI_nat (j := 8) rfl, (by show 4 ≤ sizeLine; decide), fun u nu => ?_⟩
      refine ⟨(by show 4 ≤ sizeLine; decide), fun v nv => ?_⟩
      have hu := (same_new (o := .tup [.str "page", .str "to", .str "pass", .str "then"]) nv) _ _ (upd_same (H := H1) (a := u) (o := .tup [.str "page", .str "to", .str "pass", .str "then"]))
      refine ⟨.tuple [.str "page", .str "to", .str "pass", .str "then"], .tuple [.str "page", .str "to", .str "pass", .str "then"], Dx.dp (.tup hu (.cons (.str _) (.cons (.str _) (.cons (.str _) (.cons (.str _) .nil))))) (by decide +kernel), Dx.dp (.tup upd_same (.cons (.str _) (.cons (.str _) (.cons (.str _) (.cons (.str _) .nil))))) (by decide +kernel), (by decide +kernel), (by decide +kernel), _, rfl, kQ _ _ ⟨by decide +kernel, (same_new nu).trans (same_new nv)⟩⟩
    rintro H2 ⟨_, s2⟩
    have ht2 := s2 _ _ ht
    refine go_nx ?_
    have lp : ∀ {f : Int × Int}, SmP f → (pairT f).length ≤ 1000000 := fun h => by
      have := pairT_len h.big
      omega
    refine ⟨_, rfl, t, _, _, _, rfl, rfl, SqT.of ht2, atI_nat (j := 3) rfl, pairT g.raw, g.raw, rfl, lp sm.r, pairZ_text sm.r.big, fun r H3 s3 hr3 => ?_⟩
    have ht3 := s3 _ _ ht2
    refine ⟨_, rfl, t, _, _, _, rfl, rfl, SqT.of ht3, atI_nat (j := 5) rfl, pairT g.form, g.form, rfl, lp sm.f, pairZ_text sm.f.big, fun f4 H4 s4 hf4 => ?_⟩
    have ht4 := s4 _ _ ht3
    refine ⟨_, rfl, t, _, _, _, rfl, rfl, SqT.of ht4, atI_nat (j := 7) rfl, pairT g.passed, g.passed, rfl, lp sm.p, pairZ_text sm.p.big, fun p5 H5 s5 hp5 => ?_⟩
    have ht5 := s5 _ _ ht4
    refine ⟨_, _, _, rfl, ?_⟩
    refine ⟨rfl, _, rfl, t, _, _, _, rfl, rfl, SqT.of ht5, atI_nat (j := 1) rfl, _, rfl, t, _, _, _, rfl, rfl, SqT.of ht5, atI_nat (j := 2) rfl, _, rfl, _, rfl, _, rfl, _, rfl, t, _, _, _, rfl, rfl, SqT.of ht5, atI_nat (j := 9) rfl, fun x dy nx ny nyx => ?_⟩
    have s6 : Same H5 (upd (upd H5 dy (.own x)) x (.ins C dy [])) := (same_new ny).trans (same_new (by rw [upd_ne (Ne.symm nyx)]; exact nx))
    have sAll : Same H H5 := (((s1.trans s2).trans s3).trans s4).trans s5
    refine ⟨x, dy, r, f4, p5, g, rfl, upd_same, (hr3.grow (s4.trans s5)).grow s6, (hf4.grow s5).grow s6, hp5.grow s6, sm, fun _ H7 o7 h7 => ⟨rfl, ?_⟩, fun z => by rw [ok] at z; cases z⟩
    refine k x H7 (fun b o e => o7 b o ?_ (s6 _ _ (sAll _ _ e))) h7
    intro e2
    rw [e2] at e
    rw [sAll _ _ e] at nx
    cases nx
end
end G

set_option Elab.async false
set_option linter.all false
set_option maxRecDepth 100000
set_option maxHeartbeats 4000000
namespace G
open PySem PySem.Spec PyProof.Rows L2 C8
/-! ## the law's own defs -/
def spPairText : Sp := fun vs H Q _ => ∃ (p : Addr) (f : Int × Int), vs = [.ref p] ∧ PairAt H p f ∧ BigF f ∧ Q (.str (pairT f)) H
def spPageText : Sp := fun vs H Q _ => ∃ (a b r f p : Addr) (g : Pg), vs = [.ref a, .ref b] ∧ H a = some (.tup [.str g.note, .str g.wh, .ref r]) ∧ H b = some (.tup [.ref f, .ref p, .str g.after]) ∧
  PairAt H r g.raw ∧ PairAt H f g.form ∧ PairAt H p g.passed ∧ g.Sm ∧ ∀ H', Same H H' → Q (.str g.line) H'
def lawArs (wh : Str) (raw form passed : Int × Int) : List Int := [2, 3].filter fun ar => fitsB ar wh raw form passed
def spLawArs : Sp := fun vs H Q _ => ∃ (wh : Str) (r f p : Addr) (raw form passed : Int × Int), vs = [.str wh, .ref r, .ref f, .ref p] ∧ PairAt H r raw ∧ PairAt H f form ∧ PairAt H p passed ∧
  SmP raw ∧ SmP form ∧ SmP passed ∧ ∀ (a : Addr) H', Same H H' → H' a = some (.tup ((lawArs wh raw form passed).map V.int)) → Q (.ref a) H'
/-- the drawn parts, as a tuple at t -/
structure Parts (H : Hp) (t r f p : Addr) (wh : Str) (raw form passed : Int × Int) : Prop where
  tu : H t = some (.tup [.str wh, .ref r, .ref f, .ref p])
  hr : PairAt H r raw
  hf : PairAt H f form
  hp : PairAt H p passed
theorem Parts.grow {H H' : Hp} {t r f p : Addr} {wh : Str} {raw form passed : Int × Int} (s : Same H H') (h : Parts H t r f p wh raw form passed) : Parts H' t r f p wh raw form passed :=
  ⟨s _ _ h.tu, h.hr.grow s, h.hf.grow s, h.hp.grow s⟩
structure Drawn (wh : Str) (raw form passed : Int × Int) : Prop where
  w : wh = "inner" ∨ wh = "last"
  r : -2 ≤ raw.1 ∧ raw.1 ≤ 9 ∧ -2 ≤ raw.2 ∧ raw.2 ≤ 9
  p : -2 ≤ passed.1 ∧ passed.1 ≤ 2 ∧ -2 ≤ passed.2 ∧ passed.2 ≤ 2
  f : SmP form
def spParts : Sp := fun vs H Q _ => ∃ (d : Addr), vs = [.ref d] ∧ DiceAt H d ∧ ∀ (t r f p : Addr) (wh : Str) (raw form passed : Int × Int) H', Drawn wh raw form passed → Mv d H H' → Parts (hide d H') t r f p wh raw form passed → Q (.ref t) H'
def spCalled (C : Addr) : Sp := fun vs H Q _ => ∃ (t r f p : Addr) (g : Pg), vs = [.str g.note, .ref t, .str g.after] ∧ Parts H t r f p g.wh g.raw g.form g.passed ∧ g.Sm ∧
  (g.okB = true → ∀ (a : Addr) H', Same H H' → PageAt C H' a g → Q (.ref a) H') ∧ (g.okB = false → ∀ H', Same H H' → Q .non H')
theorem hide_new' {d p : Addr} {H : Hp} {o : HO} (hd : DiceAt H d) (n : H p = none) : hide d (upd H p o) p = some o := by
  rw [hide_ne (hd.ne n)]
  exact upd_same
section
variable {P : Program} {w : World} {K : PySem.W.Frag} {mg : Str → Option Value} {base : Heap} {C CI : Addr}
theorem c_pair_text (T : Txt K mg) (D : DefAt K mg "_law_pair_text" s__law_pair_text ["_law_pair"]) : CalG P w K mg base 1 "_law_pair_text" ["_law_pair"] spPairText := by
  refine calOk D sc__law_pair_text (fun xs H Q E h => ?_) (fun f cdv A out s H xs Q E hgd hr h => ?_)
  · obtain ⟨p, f, rfl, _⟩ := h
    rfl
  · obtain ⟨p, f, rfl, hp, hb, k⟩ := h
    have nd := sc__law_pair_text.nd
    refine ⟨_, (pss_one (ps_ret (pe_op op_add_str (pe_op op_add_str (pe_callTy call_str_int (by rfl) T.str (by decide +kernel) (pa_cons (pe_ix ix_tup (pv 0) pe_int (fun _ _ => rfl)) pa_nil)) pe_str) (pe_callTy call_str_int (by rfl) T.str (by decide +kernel) (pa_cons (pe_ix ix_tup (pv 0) pe_int (fun _ _ => rfl)) pa_nil))))), ?_⟩
    have sz : sizeLine = 16777216 := sizeLine_eq
    have l1 := text_len hb.1 hb.2.1
    have l2 := text_len hb.2.2.1 hb.2.2.2
    have l3 : Str.length ("." : Str) = 1 := by decide +kernel
    refine ⟨_, rfl, p, [.int f.1, .int f.2], 0, _, rfl, rfl, SqT.of hp, rfl, _, rfl, log_big hb.1 hb.2.1, _, _, rfl, rfl, ?_, ?_⟩
    · rw [l3]
      show (textZ f.1).length + 1 ≤ sizeLine
      omega
    · refine ⟨_, rfl, p, [.int f.1, .int f.2], 1, _, rfl, rfl, SqT.of hp, rfl, _, rfl, log_big hb.2.2.1 hb.2.2.2, _, _, rfl, rfl, ?_, k⟩
      rw [Str.length_append, l3]
      show (textZ f.1).length + 1 + (textZ f.2).length ≤ sizeLine
      omega
theorem c_page_text (T : Txt K mg) (C__law_pair_text : CalG P w K mg base 1 "_law_pair_text" ["_law_pair"] spPairText) (D : DefAt K mg "_law_page_text" s__law_page_text ["_law_place", "_law_page"]) : CalG P w K mg base 2 "_law_page_text" ["_law_place", "_law_page"] spPageText := by
  refine calOk D sc__law_page_text (fun xs H Q E h => ?_) (fun f cdv A out s H xs Q E hgd hr h => ?_)
  · obtain ⟨a, b, r, f, p, g, rfl, _⟩ := h
    rfl
  · obtain ⟨a, b, r, f', p, g, rfl, ha, hb, hR, hF, hP, sm, k⟩ := h
    have nd := sc__law_page_text.nd
    refine ⟨_, (pss_cons (ps_set (i := 2) nd rfl (.inl rfl) (pe_lst (pa_cons pe_str (pa_cons (pe_ix ix_tup (pv 0) pe_int (fun _ _ => rfl)) (pa_cons (pe_ix ix_tup (pv 0) pe_int (fun _ _ => rfl)) (pa_cons (pe_k C__law_pair_text hgd hr (by decide) rfl (pa_cons (pe_ix ix_tup (pv 0) pe_int (fun _ _ => rfl)) pa_nil)) (pa_cons pe_str (pa_cons (pe_k C__law_pair_text hgd hr (by decide) rfl (pa_cons (pe_ix ix_tup (pv 1) pe_int (fun _ _ => rfl)) pa_nil)) pa_nil))))))))
      (pss_one (ps_ret (pe_join pe_str (pe_op op_cat (pv 2) (pe_lst (pa_cons pe_str (pa_cons (pe_k C__law_pair_text hgd hr (by decide) rfl (pa_cons (pe_ix ix_tup (pv 1) pe_int (fun _ _ => rfl)) pa_nil)) (pa_cons pe_str (pa_cons (pe_ix ix_tup (pv 1) pe_int (fun _ _ => rfl)) pa_nil)))))))))), ?_⟩
    have ll := line_len sm
    refine ⟨_, rfl, a, _, _, _, rfl, rfl, SqT.of ha, atI_nat (j := 0) rfl, _, rfl, a, _, _, _, rfl, rfl, SqT.of ha, atI_nat (j := 1) rfl, _, rfl, a, _, _, _, rfl, rfl, SqT.of ha, atI_nat (j := 2) rfl, r, g.raw, rfl, hR, sm.r.big, ?_⟩
    refine ⟨_, rfl, b, _, _, _, rfl, rfl, SqT.of hb, atI_nat (j := 0) rfl, f', g.form, rfl, hF, sm.f.big, (by show 6 ≤ sizeLine; decide), fun l nl => ?_⟩
    have s1 := same_new (H := H) (o := .lst (([("page" : Str), g.note, g.wh, pairT g.raw, "to", pairT g.form] : List Str).map V.str)) nl
    have hb1 := s1 _ _ hb
    refine ⟨⟨_, rfl⟩, _, rfl, ?_⟩
    refine ⟨_, rfl, b, _, _, _, rfl, rfl, SqT.of hb1, atI_nat (j := 1) rfl, p, g.passed, rfl, hP.grow s1, sm.p.big, _, rfl, b, _, _, _, rfl, rfl, SqT.of hb1, atI_nat (j := 2) rfl, (by show 4 ≤ sizeLine; decide), fun l2 nl2 => ?_⟩
    have s2 := same_new (o := .lst (([("pass" : Str), pairT g.passed, "then", g.after] : List Str).map V.str)) nl2
    refine ⟨l, l2, ([("page" : Str), g.note, g.wh, pairT g.raw, "to", pairT g.form] : List Str).map V.str, ([("pass" : Str), pairT g.passed, "then", g.after] : List Str).map V.str, rfl, rfl, s2 _ _ upd_same, upd_same, (by show 6 + 4 ≤ sizeLine; decide), fun l3 nl3 => ?_⟩
    have s3 := same_new (o := .lst (g.words.map V.str)) nl3
    refine ⟨_, _, g.words, rfl, rfl, .inl (SqL.of (by rw [upd_same]; rfl)), ?_, ?_⟩
    · have c1 : Str.length ("page" : Str) = 4 := by decide +kernel
      have c2 : Str.length (" " : Str) = 1 := by decide +kernel
      have c3 : Str.length ("to" : Str) = 2 := by decide +kernel
      have c4 : Str.length ("pass" : Str) = 4 := by decide +kernel
      have c5 : Str.length ("then" : Str) = 4 := by decide +kernel
      have p1 := pairT_len sm.r.big
      have p2 := pairT_len sm.f.big
      have p3 := pairT_len sm.p.big
      have m1 := sm.n
      have m2 := sm.w
      have m3 := sm.a
      simp only [Pg.words, List.map_cons, List.map_nil, List.sum_cons, List.sum_nil, List.length_cons, List.length_nil]
      omega
    · rw [← g.line_join]
      exact k _ ((s1.trans s2).trans s3)
theorem c_law_ars (T : Txt K mg) (D : DefAt K mg "_law_arities" s__law_arities ["_law_where", "_law_raw", "_law_form", "_law_passed"]) : CalG P w K mg base 1 "_law_arities" ["_law_where", "_law_raw", "_law_form", "_law_passed"] spLawArs := by
  refine calOk D sc__law_arities (fun xs H Q E h => ?_) (fun f cdv A out s H xs Q E hgd hr h => ?_)
  · obtain ⟨wh, r, f, p, raw, form, passed, rfl, _⟩ := h
    rfl
  · obtain ⟨wh, r, f', p, raw, form, passed, rfl, hR, hF, hP, sR, sF, sP, k⟩ := h
    have nd := sc__law_arities.nd
    refine ⟨_, (pss_cons (ps_set (i := 4) nd rfl (.inl rfl) (pe_lst pa_nil))
      (pss_cons (ps_for PassesOwn.never rfl (pi_tup (pe_tup (pa_cons pe_int (pa_cons pe_int pa_nil)))) (pg_name (i := 5) nd rfl (.inr rfl)) (pss_cut (ps_if (pt_cmpR op_eq (pv 0) pe_str (nomark _)) (pss_one (ps_set (i := 6) nd rfl (.inl rfl) (pe_cmpR (op_eqD hr.units) (pe_lc (own := [("_law_at", 8)]) (g := gName 8) (by rfl) nd (pi_range1 rfl T.range (pa_cons pe_int pa_nil)) (blkOk_by (own := [("_law_at", 8)]) (N := N__law_arities) (sc := defScope s__law_arities) (by decide +kernel)) (fun _ _ _ _ _ => pg_name (i := 8) nd rfl (.inl rfl)) (fun _ _ _ _ _ => pts_nil) (fun _ _ _ _ _ => pe_cmpR op_eq (pe_op op_sub (pe_ix (show IxR _ (rIxT K) from ix_tup) (pv 1) (pv 8) (fun _ _ => rfl)) (pe_op op_mulW (pv 5) (pe_ix (show IxR _ (rIxT K) from ix_tup) (pv 3) (pv 8) (fun _ _ => rfl)))) (pe_ix (show IxR _ (rIxT K) from ix_tup) (pv 2) (pv 8) (fun _ _ => rfl)) (nomark _))) (pe_lst (pa_cons pe_bl (pa_cons pe_bl pa_nil))) (nomark _)))) (pss_cons (ps_set (i := 7) nd rfl (.inl rfl) (pe_op op_add (pe_op op_add (pe_ix ix_tup (pv 2) pe_int (fun _ _ => rfl)) (pe_ix ix_tup (pv 2) pe_int (fun _ _ => rfl))) (pe_op op_mulW (pv 5) (pe_op op_add (pe_ix ix_tup (pv 3) pe_int (fun _ _ => rfl)) (pe_ix ix_tup (pv 3) pe_int (fun _ _ => rfl))))))
          (pss_one (ps_set (i := 6) nd rfl (.inl rfl) (pe_and (pe_cmpR op_ge (pe_callB (cr_min2T rfl hr.units) (by rfl) T.min (by decide +kernel) (pa_cons (pv 3) pa_nil)) pe_int (nomark _)) (pe_one (pe_cmpR op_eq (pv 7) (pe_op op_add (pe_ix ix_tup (pv 1) pe_int (fun _ _ => rfl)) (pe_ix ix_tup (pv 1) pe_int (fun _ _ => rfl))) (nomark _))))))))
        (pss_one (ps_expr (pe_bm PySem.F.plainAttrs_list PySem.F.slot_list_extend PySem.F.type_list_extend mt_extend (pv 4) (pa_cons (pe_ifExp (pt_val (pv 6)) (pe_lst (pa_cons (pv 5) pa_nil)) (pe_lst pa_nil)) pa_nil))))))
      (pss_one (ps_ret (pe_callTy call_tuple_of (by rfl) T.tuple (by decide +kernel) (pa_cons (pv 4) pa_nil)))))), ?_⟩
    refine ⟨(by show 0 ≤ sizeLine; decide), fun L nL => ?_⟩
    have s1 := same_new (H := H) (o := .lst []) nL
    refine go_nx ?_
    refine ⟨(by show 2 ≤ sizeLine; decide), fun t nt => ?_⟩
    have neL : L ≠ t := ne_of_none upd_same nt
    have sA : Same H (upd (upd H L (.lst [])) t (.tup [.int 2, .int 3])) := s1.trans (same_new nt)
    refine ⟨t, rfl, ⟨_, SqT.of upd_same⟩, for_tup (K := K) (a := t) (xs := [.int 2, .int 3]) (fun i σ H' => ∃ v5 v6 v7, σ = [some (.str wh), some (.ref r), some (.ref f'), some (.ref p), some (.ref L), v5, v6, v7, none] ∧ Same H H' ∧
      H' t = some (.tup [.int 2, .int 3]) ∧ H' L = some (.lst ((([2, 3] : List Int).take i).filter (fun ar => fitsB ar wh raw form passed) |>.map V.int))) ?_ ?_ ?_ ?_⟩
    · exact ⟨_, _, _, rfl, sA, upd_same, by rw [upd_ne neL]; exact upd_same⟩
    · rintro i σ H' _ ⟨v5, v6, v7, rfl, _, ht, _⟩
      exact SqT.of ht
    · rintro i y σ H2 hi ⟨v5, v6, v7, rfl, s2, ht, hL⟩
      obtain ⟨ar, har, ry, a2, a3⟩ : ∃ ar : Int, ([2, 3] : List Int)[i]? = some ar ∧ y = .int ar ∧ 2 ≤ ar ∧ ar ≤ 3 := by
        match i, hi with
        | 0, hi => exact ⟨2, rfl, (Option.some.inj hi).symm, by decide, by decide⟩
        | 1, hi => exact ⟨3, rfl, (Option.some.inj hi).symm, by decide, by decide⟩
        | _ + 2, hi => simp at hi
      subst ry
      have hB : ∀ {H3 : Hp}, Same H2 H3 → H3 L = some (.lst ((([2, 3] : List Int).take i).filter (fun ar => fitsB ar wh raw form passed) |>.map V.int)) := fun s3 => s3 _ _ hL
      have bR : -1000 ≤ raw.1 ∧ raw.1 ≤ 1000 ∧ -1000 ≤ raw.2 ∧ raw.2 ≤ 1000 := ⟨by have := sR.1; omega, by have := sR.2.1; omega, by have := sR.2.2.1; omega, by have := sR.2.2.2; omega⟩
      have bP : -1000 ≤ passed.1 ∧ passed.1 ≤ 1000 ∧ -1000 ≤ passed.2 ∧ passed.2 ≤ 1000 := ⟨by have := sP.1; omega, by have := sP.2.1; omega, by have := sP.2.2.1; omega, by have := sP.2.2.2; omega⟩
      have bS : -1000 ≤ passed.1 + passed.2 ∧ passed.1 + passed.2 ≤ 1000 := by
        obtain ⟨h1, h2, h3, h4⟩ := sP
        omega
      have bA : -1000 ≤ ar ∧ ar ≤ 1000 := by omega
      refine ⟨fun σ' H' => ∃ v7, σ' = [some (.str wh), some (.ref r), some (.ref f'), some (.ref p), some (.ref L), some (.int ar), some (.bl (fitsB ar wh raw form passed)), v7, none] ∧ Same H2 H', ?_, ?_⟩
      · refine a_if1 (fun b H' => b = decide (wh = "inner") ∧ H2 = H') (fun Q' kQ => ?_) ?_ ?_
        · refine ⟨_, rfl, rfl, _, rfl, kQ _ _ ⟨?_, rfl⟩⟩
          by_cases q : wh = "inner"
          · rw [decide_eq_true q, q]
            exact decide_eq_true rfl
          · rw [decide_eq_false q]
            exact decide_eq_false fun e => q (by injection e)
        · rintro _ ⟨hb, rfl⟩
          have hb : wh = "inner" := of_decide_eq_true hb.symm
          refine a_set1 (fun v H' => v = .bl (fitsB ar wh raw form passed) ∧ Same H2 H') (fun Q' kQ => ?_) (by rintro _ H' ⟨rfl, s3⟩; exact ⟨_, rfl, s3⟩)
          refine ⟨2, rfl, by decide, by decide, fun Dl nD => ?_⟩
          have cell : ∀ (j : Nat), j < 2 → ∃ a b c : Int, ([raw.1, raw.2] : List Int)[j]? = some a ∧ ([passed.1, passed.2] : List Int)[j]? = some b ∧ ([form.1, form.2] : List Int)[j]? = some c ∧ -1000 ≤ b ∧ b ≤ 1000 ∧
              [decide (raw.1 - ar * passed.1 = form.1), decide (raw.2 - ar * passed.2 = form.2)][j]? = some (decide (a - ar * b = c)) := fun j hj => by
            match j, hj with
            | 0, _ => exact ⟨_, _, _, rfl, rfl, rfl, bP.1, bP.2.1, rfl⟩
            | 1, _ => exact ⟨_, _, _, rfl, rfl, rfl, bP.2.2.1, bP.2.2.2, rfl⟩
            | _ + 2, h => omega
          have sqI : ∀ {H3 : Hp} {q : Addr} {g : Int × Int} {j : Nat} {a : Int}, PairAt H3 q g → ([g.1, g.2] : List Int)[j]? = some a → ([V.int g.1, V.int g.2] : List V)[j]? = some (.int a) := fun {_ _ g j a} _ h => by
            have : (([g.1, g.2] : List Int).map V.int)[j]? = some (.int a) := by
              rw [List.getElem?_map, h]
              rfl
            exact this
          refine lc_range (fun j H' => Same H2 H' ∧ H' Dl = some (.lst (([decide (raw.1 - ar * passed.1 = form.1), decide (raw.2 - ar * passed.2 = form.2)].take j).map V.bl))) ?_ ?_ ?_
          · exact ⟨same_new nD, upd_same⟩
          · rintro j H3 hj ⟨s3, hD⟩
            obtain ⟨a, b, c, ea, eb, ec, b1, b2, ed⟩ := cell j hj
            have sH := s2.trans s3
            refine ⟨rfl, ?_⟩
            refine ⟨_, rfl, _, rfl, r, _, (j : Int), _, rfl, (by rw [Int.zero_add]), SqT.of (hR.grow sH), atI_nat (sqI (hR.grow sH) ea), _, rfl, _, rfl, _, rfl, p, _, (j : Int), _, rfl, (by rw [Int.zero_add]), SqT.of (hP.grow sH), atI_nat (sqI (hP.grow sH) eb), _, _, rfl, rfl, cmulW bA ⟨b1, b2⟩, _, _, rfl, rfl, ?_⟩
            refine ⟨_, rfl, _, rfl, f', _, (j : Int), _, rfl, (by rw [Int.zero_add]), SqT.of (hF.grow sH), atI_nat (sqI (hF.grow sH) ec), rfl, _, hD, ?_, same_put s3 nD, ?_⟩
            · rw [List.length_map]
              exact Nat.lt_of_le_of_lt (Nat.le_trans (List.length_take_le' _ _) (show _ ≤ 2 from Nat.le_refl _)) (by decide)
            · have e2 : decide (V.int (a - ar * b) = V.int c) = decide (a - ar * b = c) := by
                rw [Bool.eq_iff_iff]
                simp
              rw [upd_same, take_one ed, List.map_append]
              show some (HO.lst (_ ++ [V.bl (decide (V.int (a - ar * b) = V.int c))])) = _
              rw [e2]
              rfl
          · rintro H3 ⟨s3, hD⟩
            refine ⟨(by show 2 ≤ sizeLine; decide), fun u nu => ?_⟩
            have s4 := same_new (o := .lst [.bl true, .bl true]) nu
            have eL : ∀ b0 b1 : Bool, PyData.eqv (.list [.bool b0, .bool b1]) (.list [.bool true, .bool true]) = (b0 && b1) := by decide +kernel
            have sh : ∀ b0 b1 : Bool, SeqAt.shaped (.list [.bool b0, .bool b1]) = true := by decide +kernel
            refine ⟨.list [.bool (decide (raw.1 - ar * passed.1 = form.1)), .bool (decide (raw.2 - ar * passed.2 = form.2))], .list [.bool true, .bool true], Dx.dp (.lst (s4 _ _ hD) (.cons (.bl _) (.cons (.bl _) .nil))) (by simp [PyData.hasDict, PyData.hasDictAll]), Dx.dp (.lst upd_same (.cons (.bl _) (.cons (.bl _) .nil))) (by simp [PyData.hasDict, PyData.hasDictAll]), sh _ _, sh _ _, ?_⟩
            rw [eL]
            refine kQ _ _ ⟨?_, s3.trans s4⟩
            congr 1
            unfold fitsB
            rw [if_pos hb, Bool.eq_iff_iff, Bool.and_eq_true, decide_eq_true_eq, decide_eq_true_eq, decide_eq_true_eq]
            constructor
            · rintro ⟨e1, e2⟩
              exact Prod.ext e1.symm e2.symm
            · intro e
              rw [e]
              exact ⟨rfl, rfl⟩
        · rintro _ ⟨hb, rfl⟩
          have hb : ¬ wh = "inner" := of_decide_eq_false hb.symm
          have hR2 := hR.grow s2
          have hF2 := hF.grow s2
          have hP2 := hP.grow s2
          refine a_set (fun v H' => v = .int (form.1 + form.2 + ar * (passed.1 + passed.2)) ∧ H2 = H') (fun Q' kQ => ?_) ?_
          · exact ⟨_, rfl, f', _, _, _, rfl, rfl, SqT.of hF2, atI_nat (j := 0) rfl, _, rfl, f', _, _, _, rfl, rfl, SqT.of hF2, atI_nat (j := 1) rfl, _, _, rfl, rfl, _, rfl, _, rfl, p, _, _, _, rfl, rfl, SqT.of hP2, atI_nat (j := 0) rfl, _, rfl, p, _, _, _, rfl, rfl, SqT.of hP2, atI_nat (j := 1) rfl, _, _, rfl, rfl, _, _, rfl, rfl, cmulW bA bS, _, _, rfl, rfl, kQ _ _ ⟨rfl, rfl⟩⟩
          rintro _ _ ⟨rfl, rfl⟩
          refine a_set1 (fun v H' => v = .bl (fitsB ar wh raw form passed) ∧ Same H2 H') (fun Q' kQ => ?_) (by rintro _ H' ⟨rfl, s3⟩; exact ⟨_, rfl, s3⟩)
          have e : fitsB ar wh raw form passed = (decide (0 ≤ min passed.1 passed.2) && decide (form.1 + form.2 + ar * (passed.1 + passed.2) = raw.1 + raw.2)) := if_neg hb
          refine ⟨_, rfl, p, _, _, rfl, hP2, _, _, rfl, rfl, _, rfl, ite2 (fun q => ?_) (fun q => ?_)⟩
          · refine ⟨_, rfl, _, rfl, r, _, _, _, rfl, rfl, SqT.of hR2, atI_nat (j := 0) rfl, _, rfl, r, _, _, _, rfl, rfl, SqT.of hR2, atI_nat (j := 1) rfl, _, _, rfl, rfl, rfl, kQ _ _ ⟨?_, Same.refl _⟩⟩
            have q : decide (0 ≤ min passed.1 passed.2) = true := q
            rw [e, q, Bool.true_and]
            congr 1
            rw [Bool.eq_iff_iff]
            simp
          · refine kQ _ _ ⟨?_, Same.refl _⟩
            have q : decide (0 ≤ min passed.1 passed.2) = false := Bool.eq_false_iff.mpr q
            rw [e, q] <;> rfl
      · rintro _ H3 ⟨v7, rfl, s3⟩
        have hL3 := hB s3
        have ne3 : ∀ {q : Addr}, H3 q = none → L ≠ q := fun n => ne_of_none hL3 n
        have fin : ∀ {H4 : Hp} {zs : List V}, Same H3 H4 → zs = (([ar] : List Int).filter (fun ar => fitsB ar wh raw form passed) |>.map V.int) → ∃ v5 v6 v7', [some (V.str wh), some (.ref r), some (.ref f'), some (.ref p), some (.ref L), some (.int ar), some (.bl (fitsB ar wh raw form passed)), v7, none] = [some (.str wh), some (.ref r), some (.ref f'), some (.ref p), some (.ref L), v5, v6, v7', none] ∧
            Same H (upd H4 L (.lst (((([2, 3] : List Int).take i).filter (fun ar => fitsB ar wh raw form passed) |>.map V.int) ++ zs))) ∧ (upd H4 L (.lst (((([2, 3] : List Int).take i).filter (fun ar => fitsB ar wh raw form passed) |>.map V.int) ++ zs))) t = some (.tup [.int 2, .int 3]) ∧
            (upd H4 L (.lst (((([2, 3] : List Int).take i).filter (fun ar => fitsB ar wh raw form passed) |>.map V.int) ++ zs))) L = some (.lst ((([2, 3] : List Int).take (i + 1)).filter (fun ar => fitsB ar wh raw form passed) |>.map V.int)) := fun {H4 zs} s4 ez => by
          refine ⟨_, _, _, rfl, same_put ((s2.trans s3).trans s4) nL, ?_, ?_⟩
          · rw [upd_ne neL.symm]
            exact s4 _ _ (s3 _ _ ht)
          · rw [upd_same, ez, take_one har, List.filter_append, List.map_append]
        have few : ((([2, 3] : List Int).take i).filter (fun ar => fitsB ar wh raw form passed) |>.map V.int).length ≤ 2 := by
          rw [List.length_map]
          exact Nat.le_trans (List.length_filter_le _ _) (List.length_take_le' _ _)
        refine ⟨_, rfl, .inl ⟨rfl, _, SqL.of hL3⟩, ?_⟩
        refine ⟨_, rfl, _, rfl, ite2 (fun q => ?_) (fun q => ?_)⟩
        · refine ⟨_, rfl, (by show 1 ≤ sizeLine; decide), fun u nu => ?_⟩
          have s4 := same_new (o := .lst [.int ar]) nu
          refine ⟨L, u, _, [.int ar], rfl, rfl, s4 _ _ hL3, upd_same, Nat.le_trans (Nat.add_le_add few (Nat.le_refl 1)) (by decide), fin s4 ?_⟩
          rw [show List.filter (fun ar => fitsB ar wh raw form passed) [ar] = [ar] by simp [q]] <;> rfl
        · refine ⟨(by show 0 ≤ sizeLine; decide), fun u nu => ?_⟩
          have s4 := same_new (o := .lst []) nu
          refine ⟨L, u, _, [], rfl, rfl, s4 _ _ hL3, upd_same, Nat.le_trans (Nat.add_le_add few (Nat.le_refl 0)) (by decide), fin s4 ?_⟩
          rw [show List.filter (fun ar => fitsB ar wh raw form passed) [ar] = [] by simp [q]] <;> rfl
    · rintro σ H2 ⟨v5, v6, v7, rfl, s2, ht, hL⟩
      refine go_nx ?_
      exact ⟨_, rfl, L, _, rfl, .inl ⟨SqL.of hL, fun q nq => k q _ (s2.trans (same_new nq)) upd_same⟩⟩
end
end G

set_option Elab.async false
set_option linter.all false
set_option maxRecDepth 100000
set_option maxHeartbeats 4000000
namespace G
open PySem PySem.Spec PyProof.Rows L2 C8
theorem go_nm {t : TS} {D : Ends} {i : Nat} {v : V} {σ : L2.St} {H : Hp} {r : VK} {b c : L2.St → Hp → Prop} (h : t D (σ.set i (some v)) H) : gName i v σ H (Ends.nx ⟨t D, r, b, c⟩) := h
theorem log_small {t : Int} (h0 : 0 < t) (h : t ≤ 4000) : t.natAbs.log2 < 9000 := Nat.lt_of_le_of_lt (Nat.log2_le_self _) (by omega)
theorem Mv.pair {d : Addr} {H H' : Hp} {a : Addr} {f : Int × Int} (m : Mv d H H') (h : PairAt (hide d H) a f) : PairAt (hide d H') a f := h.grow m.same
section
variable {P : Program} {w : World} {K : PySem.W.Frag} {mg : Str → Option Value} {base : Heap} {C CI : Addr}
theorem c_parts (T : Txt K mg) (C__law_roll : CalG P w K mg base 1 "_law_roll" ["_law_dice_here", "_law_total"] spRoll) (C__law_pick : CalG P w K mg base 2 "_law_pick" ["_law_dice_here", "_law_items"] (spPick K))
    (D : DefAt K mg "_law_parts" s__law_parts ["_law_dice_here"]) : CalG P w K mg base 3 "_law_parts" ["_law_dice_here"] spParts := by
  refine calOk D sc__law_parts (fun xs H Q E h => ?_) (fun f cdv A out s H xs Q E hgd hr h => ?_)
  · obtain ⟨d, rfl, _⟩ := h
    rfl
  · obtain ⟨d, rfl, hd, k⟩ := h
    have nd := sc__law_parts.nd
    refine ⟨_, (pss_cons (ps_par (i := 1) (j := 2) (by rfl) nd rfl rfl (by decide) rfl rfl (pa_cons (pe_k C__law_pick hgd hr (by decide) rfl (pa_cons (pv 0) (pa_cons (pe_lst (pa_cons pe_str (pa_cons pe_str pa_nil))) pa_nil))) (pa_cons (pe_op op_add pe_int (pe_k C__law_roll hgd hr (by decide) rfl (pa_cons (pv 0) (pa_cons pe_int pa_nil)))) pa_nil)) (by rfl))
      (pss_cons (ps_set (i := 3) nd rfl (.inl rfl) (pe_tup (pa_cons (pe_op op_sub (pe_k C__law_roll hgd hr (by decide) rfl (pa_cons (pv 0) (pa_cons pe_int pa_nil))) pe_int) (pa_cons (pe_op op_sub (pe_k C__law_roll hgd hr (by decide) rfl (pa_cons (pv 0) (pa_cons pe_int pa_nil))) pe_int) pa_nil))))
      (pss_cons (ps_set (i := 4) nd rfl (.inl rfl) (pe_tup (pa_cons (pe_k C__law_pick hgd hr (by decide) rfl (pa_cons (pv 0) (pa_cons (pe_lst (pa_cons pe_int (pa_cons pe_int (pa_cons pe_int (pa_cons pe_int (pa_cons (pe_op op_sub pe_int pe_int) (pa_cons pe_int (pa_cons (pe_op op_sub pe_int pe_int) pa_nil)))))))) pa_nil))) (pa_cons (pe_k C__law_pick hgd hr (by decide) rfl (pa_cons (pv 0) (pa_cons (pe_lst (pa_cons pe_int (pa_cons pe_int (pa_cons pe_int (pa_cons (pe_op op_sub pe_int pe_int) pa_nil))))) pa_nil))) pa_nil))))
      (pss_cut (ps_if (pt_cmpR op_eq (pv 1) pe_str (nomark _)) (pss_one (ps_set (i := 5) nd rfl (.inl rfl) (pe_tup (pa_cons (pe_op op_sub (pe_ix ix_tup (pv 3) pe_int (fun _ _ => rfl)) (pe_op op_mulW (pv 2) (pe_ix ix_tup (pv 4) pe_int (fun _ _ => rfl)))) (pa_cons (pe_op op_sub (pe_ix ix_tup (pv 3) pe_int (fun _ _ => rfl)) (pe_op op_mulW (pv 2) (pe_ix ix_tup (pv 4) pe_int (fun _ _ => rfl)))) pa_nil))))) (pss_cons (ps_set (i := 4) nd rfl (.inl rfl) (pe_tup (pa_cons (pe_callB call_abs (by rfl) T.abs (by decide +kernel) (pa_cons (pe_ix ix_tup (pv 4) pe_int (fun _ _ => rfl)) pa_nil)) (pa_cons (pe_callB call_abs (by rfl) T.abs (by decide +kernel) (pa_cons (pe_ix ix_tup (pv 4) pe_int (fun _ _ => rfl)) pa_nil)) pa_nil))))
        (pss_cons (ps_set (i := 6) nd rfl (.inl rfl) (pe_op op_sub (pe_op op_add (pe_ix ix_tup (pv 3) pe_int (fun _ _ => rfl)) (pe_ix ix_tup (pv 3) pe_int (fun _ _ => rfl))) (pe_op op_mulW (pv 2) (pe_op op_add (pe_ix ix_tup (pv 4) pe_int (fun _ _ => rfl)) (pe_ix ix_tup (pv 4) pe_int (fun _ _ => rfl))))))
        (pss_cons (ps_set (i := 7) nd rfl (.inl rfl) (pe_k C__law_roll hgd hr (by decide) rfl (pa_cons (pv 0) (pa_cons (pe_callB (call_max2 rfl) (by rfl) T.max (by decide +kernel) (pa_cons pe_int (pa_cons (pe_op op_add (pv 6) pe_int) pa_nil))) pa_nil))))
        (pss_one (ps_set (i := 5) nd rfl (.inl rfl) (pe_tup (pa_cons (pv 7) (pa_cons (pe_op op_sub (pv 6) (pv 7)) pa_nil)))))))))
      (pss_cut (ps_if (pt_cmpR op_eq (pe_k C__law_roll hgd hr (by decide) rfl (pa_cons (pv 0) (pa_cons pe_int pa_nil))) pe_int (nomark _)) (pss_one (ps_set (i := 5) nd rfl (.inl rfl) (pe_tup (pa_cons (pe_op op_add (pe_ix ix_tup (pv 5) pe_int (fun _ _ => rfl)) pe_int) (pa_cons (pe_ix ix_tup (pv 5) pe_int (fun _ _ => rfl)) pa_nil))))) pss_nil)
      (pss_one (ps_ret (pe_tup (pa_cons (pv 1) (pa_cons (pv 3) (pa_cons (pv 5) (pa_cons (pv 4) pa_nil)))))))))))), ?_⟩
    refine ⟨_, rfl, (by show 2 ≤ sizeLine; decide), fun l nl => ?_⟩
    have m0 := (Mv.refl hd).new (o := .lst [.str "inner", .str "last"]) nl
    refine ⟨d, l, _, rfl, m0.dice, SqL.of upd_same, hd.ne nl, by decide, by decide, fun i x H1 hi m1 _ => ?_⟩
    obtain ⟨wh, rfl, hw⟩ : ∃ wh : Str, x = .str wh ∧ (wh = "inner" ∨ wh = "last") := by
      match i, hi with
      | 0, hi => exact ⟨_, (Option.some.inj hi).symm, .inl rfl⟩
      | 1, hi => exact ⟨_, (Option.some.inj hi).symm, .inr rfl⟩
      | _ + 2, hi => simp at hi
    replace m1 := m0.trans m1
    refine ⟨_, rfl, d, 2, rfl, m1.dice, by decide, log_small (by decide) (by decide), fun a2 H2 a0 a1 m2 _ => ⟨_, _, rfl, rfl, _, _, rfl, ?_⟩⟩
    replace m2 := m1.trans m2
    refine ⟨_, rfl, d, 12, rfl, m2.dice, by decide, log_small (by decide) (by decide), fun r1 H3 r10 r11 m3 _ => ⟨_, _, rfl, rfl, ?_⟩⟩
    replace m3 := m2.trans m3
    refine ⟨_, rfl, d, 12, rfl, m3.dice, by decide, log_small (by decide) (by decide), fun r2 H4 r20 r21 m4 _ => ⟨_, _, rfl, rfl, (by show 2 ≤ sizeLine; decide), fun rt nrt => ?_⟩⟩
    replace m4 := m3.trans m4
    have m5 := m4.new (o := .tup [.int (r1 - 2), .int (r2 - 2)]) nrt
    have hR : PairAt (hide d (upd H4 rt (.tup [.int (r1 - 2), .int (r2 - 2)]))) rt (r1 - 2, r2 - 2) := hide_new' m4.dice nrt
    refine ⟨_, rfl, _, _, rfl, rfl, _, _, rfl, rfl, (by show 7 ≤ sizeLine; decide), fun l2 nl2 => ?_⟩
    have m6 := (Mv.refl m5.dice).new (o := .lst [.int 0, .int 0, .int 0, .int 1, .int (0 - 1), .int 2, .int (0 - 2)]) nl2
    refine ⟨d, l2, _, rfl, m6.dice, SqL.of upd_same, m5.dice.ne nl2, by decide, by decide, fun i3 x3 H7 hi3 m7 _ => ?_⟩
    obtain ⟨q1, rfl, q10, q11⟩ : ∃ q : Int, x3 = .int q ∧ -2 ≤ q ∧ q ≤ 2 := by
      have hm := List.mem_of_getElem? hi3
      simp only [List.mem_cons, List.not_mem_nil, or_false] at hm
      rcases hm with rfl | rfl | rfl | rfl | rfl | rfl | rfl <;> exact ⟨_, rfl, by decide, by decide⟩
    replace m7 := m6.trans m7
    refine ⟨_, rfl, _, _, rfl, rfl, (by show 4 ≤ sizeLine; decide), fun l3 nl3 => ?_⟩
    have m8 := (Mv.refl m7.dice).new (o := .lst [.int 0, .int 0, .int 1, .int (0 - 1)]) nl3
    refine ⟨d, l3, _, rfl, m8.dice, SqL.of upd_same, m7.dice.ne nl3, by decide, by decide, fun i4 x4 H9 hi4 m9 _ => ?_⟩
    obtain ⟨q2, rfl, q20, q21⟩ : ∃ q : Int, x4 = .int q ∧ -2 ≤ q ∧ q ≤ 2 := by
      have hm := List.mem_of_getElem? hi4
      simp only [List.mem_cons, List.not_mem_nil, or_false] at hm
      rcases hm with rfl | rfl | rfl | rfl <;> exact ⟨_, rfl, by decide, by decide⟩
    replace m9 := m7.trans (m8.trans m9)
    refine ⟨(by show 2 ≤ sizeLine; decide), fun pt npt => ?_⟩
    have mA := m9.new (o := .tup [.int q1, .int q2]) npt
    have mm := m5.trans mA
    have hP : PairAt (hide d (upd H9 pt (.tup [.int q1, .int q2]))) pt (q1, q2) := hide_new' m9.dice npt
    replace hR := mA.pair hR
    generalize upd H9 pt (HO.tup [V.int q1, V.int q2]) = HB at mA mm hP hR
    have ar2 : 2 ≤ 2 + a2 := by omega
    have ar3 : 2 + a2 ≤ 3 := by omega
    have x0 : -2 ≤ r1 - 2 := by omega
    have x1 : r1 - 2 ≤ 9 := by omega
    have y0 : -2 ≤ r2 - 2 := by omega
    have y1 : r2 - 2 ≤ 9 := by omega
    have mul : ∀ {a : Int}, -2 ≤ a → a ≤ 2 → CMulW (2 + a2) a := fun h1 h2 => cmulW ⟨by omega, by omega⟩ ⟨by omega, by omega⟩
    have pb : ∀ {a : Int}, -2 ≤ a → a ≤ 2 → -6 ≤ (2 + a2) * a ∧ (2 + a2) * a ≤ 6 := fun {a} h1 h2 => by
      have e : 2 + a2 = 2 ∨ 2 + a2 = 3 := by omega
      rcases e with e | e <;> rw [e] <;> omega
    refine ⟨fun σ' H' => ∃ ft pt' form passed v6 v7, σ' = [some (.ref d), some (.str wh), some (.int (2 + a2)), some (.ref rt), some (.ref pt'), some (.ref ft), v6, v7] ∧ Mv d H H' ∧ PairAt (hide d H') rt (r1 - 2, r2 - 2) ∧ PairAt (hide d H') ft form ∧ PairAt (hide d H') pt' passed ∧
      (-2 ≤ passed.1 ∧ passed.1 ≤ 2 ∧ -2 ≤ passed.2 ∧ passed.2 ≤ 2) ∧ (-50 ≤ form.1 ∧ form.1 ≤ 50 ∧ -50 ≤ form.2 ∧ form.2 ≤ 50), ?_, ?_⟩
    · refine a_if1 (fun b H' => HB = H') (fun Q' kQ => ?_) ?_ ?_
      · exact ⟨_, rfl, rfl, _, rfl, kQ _ _ rfl⟩
      · rintro _ rfl
        have hR' := hR.grow hide_le
        have hP' := hP.grow hide_le
        refine ⟨_, rfl, rt, _, _, _, rfl, rfl, SqT.of hR', atI_nat (j := 0) rfl, _, rfl, _, rfl, pt, _, _, _, rfl, rfl, SqT.of hP', atI_nat (j := 0) rfl, _, _, rfl, rfl, mul q10 q11, _, _, rfl, rfl, ?_⟩
        refine ⟨_, rfl, rt, _, _, _, rfl, rfl, SqT.of hR', atI_nat (j := 1) rfl, _, rfl, _, rfl, pt, _, _, _, rfl, rfl, SqT.of hP', atI_nat (j := 1) rfl, _, _, rfl, rfl, mul q20 q21, _, _, rfl, rfl, (by show 2 ≤ sizeLine; decide), fun ft nft => ?_⟩
        have mC := (Mv.refl mm.dice).new (o := .tup [.int ((r1 - 2) - (2 + a2) * q1), .int ((r2 - 2) - (2 + a2) * q2)]) nft
        have b1 := pb q10 q11
        have b2 := pb q20 q21
        exact ⟨ft, pt, ((r1 - 2) - (2 + a2) * q1, (r2 - 2) - (2 + a2) * q2), (q1, q2), _, _, rfl, mm.trans mC, mC.pair hR, hide_new' mm.dice nft, mC.pair hP, ⟨q10, q11, q20, q21⟩, by omega, by omega, by omega, by omega⟩
      · rintro _ rfl
        have hR' := hR.grow hide_le
        have hP' := hP.grow hide_le
        refine ⟨_, rfl, pt, _, _, _, rfl, rfl, SqT.of hP', atI_nat (j := 0) rfl, _, rfl, _, rfl, pt, _, _, _, rfl, rfl, SqT.of hP', atI_nat (j := 1) rfl, _, rfl, (by show 2 ≤ sizeLine; decide), fun at_ nat_ => ?_⟩
        have mC := (Mv.refl mm.dice).new (o := .tup [.int (if q1 < 0 then -q1 else q1), .int (if q2 < 0 then -q2 else q2)]) nat_
        have hA : PairAt (hide d (upd HB at_ (.tup [.int (if q1 < 0 then -q1 else q1), .int (if q2 < 0 then -q2 else q2)]))) at_ (if q1 < 0 then -q1 else q1, if q2 < 0 then -q2 else q2) := hide_new' mm.dice nat_
        have bA1 : 0 ≤ (if q1 < 0 then -q1 else q1) ∧ (if q1 < 0 then -q1 else q1) ≤ 2 := by split <;> omega
        have bA2 : 0 ≤ (if q2 < 0 then -q2 else q2) ∧ (if q2 < 0 then -q2 else q2) ≤ 2 := by split <;> omega
        generalize (if q1 < 0 then -q1 else q1) = p1 at mC hA bA1 ⊢
        generalize (if q2 < 0 then -q2 else q2) = p2 at mC hA bA2 ⊢
        have hA' := hA.grow hide_le
        have hR2 := (mC.pair hR).grow hide_le
        have bs : -12 ≤ (2 + a2) * (p1 + p2) ∧ (2 + a2) * (p1 + p2) ≤ 12 := by
          have e : 2 + a2 = 2 ∨ 2 + a2 = 3 := by omega
          rcases e with e | e <;> rw [e] <;> omega
        refine ⟨_, rfl, rt, _, _, _, rfl, rfl, SqT.of hR2, atI_nat (j := 0) rfl, _, rfl, rt, _, _, _, rfl, rfl, SqT.of hR2, atI_nat (j := 1) rfl, _, _, rfl, rfl, _, rfl, _, rfl, at_, _, _, _, rfl, rfl, SqT.of hA', atI_nat (j := 0) rfl, _, rfl, at_, _, _, _, rfl, rfl, SqT.of hA', atI_nat (j := 1) rfl, _, _, rfl, rfl, _, _, rfl, rfl, cmulW ⟨by omega, by omega⟩ ⟨by omega, by omega⟩, _, _, rfl, rfl, ?_⟩
        have bl : -60 ≤ (r1 - 2) + (r2 - 2) - (2 + a2) * (p1 + p2) ∧ (r1 - 2) + (r2 - 2) - (2 + a2) * (p1 + p2) ≤ 40 := by omega
        refine ⟨_, rfl, _, rfl, _, _, rfl, rfl, _, _, rfl, d, _, rfl, mC.dice, ?_, ?_, fun one H6 o0 o1 m6 _ => ?_⟩
        · split <;> omega
        · refine log_small ?_ ?_
          · split <;> omega
          · dsimp only
            split <;> omega
        dsimp only at o1
        have ob : 0 ≤ one ∧ one ≤ 41 := ⟨o0, by split at o1 <;> omega⟩
        refine ⟨_, rfl, _, rfl, _, rfl, _, _, rfl, rfl, (by show 2 ≤ sizeLine; decide), fun ft nft => ?_⟩
        have mD := (Mv.refl m6.dice).new (o := .tup [.int one, .int ((r1 - 2) + (r2 - 2) - (2 + a2) * (p1 + p2) - one)]) nft
        have m6D := m6.trans mD
        exact ⟨ft, at_, (one, (r1 - 2) + (r2 - 2) - (2 + a2) * (p1 + p2) - one), (p1, p2), _, _, rfl, mm.trans (mC.trans m6D), m6D.pair (mC.pair hR), hide_new' m6.dice nft, m6D.pair hA, ⟨by show -2 ≤ p1; omega, by show p1 ≤ 2; omega, by show -2 ≤ p2; omega, by show p2 ≤ 2; omega⟩,
          by show -50 ≤ one; omega, by show one ≤ 50; omega, by show -50 ≤ (r1 - 2) + (r2 - 2) - (2 + a2) * (p1 + p2) - one; omega, by show (r1 - 2) + (r2 - 2) - (2 + a2) * (p1 + p2) - one ≤ 50; omega⟩
    · rintro _ HC ⟨ft, pt', form, passed, v6, v7, rfl, mC, hRC, hFC, hPC, bp, bf⟩
      refine ⟨fun σ' H' => ∃ ft form v6 v7, σ' = [some (.ref d), some (.str wh), some (.int (2 + a2)), some (.ref rt), some (.ref pt'), some (.ref ft), v6, v7] ∧ Mv d H H' ∧ PairAt (hide d H') rt (r1 - 2, r2 - 2) ∧ PairAt (hide d H') ft form ∧ PairAt (hide d H') pt' passed ∧
        (-100 ≤ form.1 ∧ form.1 ≤ 100 ∧ -100 ≤ form.2 ∧ form.2 ≤ 100), ?_, ?_⟩
      · refine a_if1 (fun b H' => Mv d HC H') (fun Q' kQ => ?_) ?_ ?_
        · exact ⟨_, rfl, d, 6, rfl, mC.dice, by decide, log_small (by decide) (by decide), fun r6 H6 _ _ m6 _ => ⟨rfl, _, rfl, kQ _ _ m6⟩⟩
        · rintro H6 m6
          have hF6 := (m6.pair hFC).grow hide_le
          refine ⟨_, rfl, ft, _, _, _, rfl, rfl, SqT.of hF6, atI_nat (j := 0) rfl, _, _, rfl, rfl, _, rfl, ft, _, _, _, rfl, rfl, SqT.of hF6, atI_nat (j := 1) rfl, (by show 2 ≤ sizeLine; decide), fun f2 nf2 => ?_⟩
          have m7 := (Mv.refl m6.dice).new (o := .tup [.int (form.1 + 1), .int form.2]) nf2
          exact ⟨f2, (form.1 + 1, form.2), _, _, rfl, mC.trans (m6.trans m7), m7.pair (m6.pair hRC), hide_new' m6.dice nf2, m7.pair (m6.pair hPC), by show -100 ≤ form.1 + 1; omega, by show form.1 + 1 ≤ 100; omega, by show -100 ≤ form.2; omega, by show form.2 ≤ 100; omega⟩
        · rintro H6 m6
          exact ⟨ft, form, _, _, rfl, mC.trans m6, m6.pair hRC, m6.pair hFC, m6.pair hPC, by omega, by omega, by omega, by omega⟩
      · rintro _ HD ⟨ft, form, v6, v7, rfl, mD, hRD, hFD, hPD, bf⟩
        refine ⟨_, rfl, _, rfl, _, rfl, _, rfl, (by show 4 ≤ sizeLine; decide), fun t nt => ?_⟩
        have mE := (Mv.refl mD.dice).new (o := .tup [.str wh, .ref rt, .ref ft, .ref pt']) nt
        exact k t rt ft pt' wh (r1 - 2, r2 - 2) form passed _ ⟨hw, ⟨x0, x1, y0, y1⟩, bp, bf⟩ (mD.trans mE) ⟨hide_new' mD.dice nt, mE.pair hRD, mE.pair hFD, mE.pair hPD⟩
end
end G

set_option Elab.async false
set_option linter.all false
set_option maxRecDepth 100000
set_option maxHeartbeats 4000000
namespace G
open PySem PySem.Spec PyProof.Rows L2 C8
/-! ## one page of the law -/
open TL in
theorem nice_str (z : Str) : nice (.str z) = (tl z).all fun c => decide (c < 16 ^ 8) := by
  unfold nice tl
  rfl
open TL in
theorem nice_app {a b : Str} (h1 : nice (.str a) = true) (h2 : nice (.str b) = true) : nice (.str (a ++ b)) = true := by
  rw [nice_str] at h1 h2 ⊢
  rw [tl_append, List.all_append, h1, h2] <;> rfl
open TL in
theorem nice_pair (f : Int × Int) : nice (.str (pairT f)) = true := by
  rw [nice_str, List.all_eq_true]
  intro c hc
  have := pair_signs hc
  refine decide_eq_true ?_
  have e : (16 : Nat) ^ 8 = 4294967296 := by decide
  omega
structure Nm (z : Str) : Prop where
  so : PyData.strOk z = true
  ni : nice (.str z) = true
  ok : nameB z = true
  le : z.length ≤ 10
theorem nice_line {g : Pg} (h1 : nice (.str g.note) = true) (h2 : nice (.str g.wh) = true) (h3 : nice (.str g.after) = true) : nice (.str g.line) = true := by
  unfold Pg.line
  refine nice_app (nice_app (nice_app (nice_app (nice_app (nice_app (nice_app (nice_app (nice_app (nice_app (nice_app ?_ h1) ?_) h2) ?_) (nice_pair _)) ?_) (nice_pair _)) ?_) (nice_pair _)) ?_) h3
  all_goals decide +kernel
theorem nice_int {i : Int} (h0 : -1000000 ≤ i) (h1 : i ≤ 1000000) : nice (.int i) = true := by
  have e : (2 : Nat) ^ 20 = 1048576 := by decide
  have : i.natAbs.log2 < 1200 := by
    by_cases z : i.natAbs = 0
    · rw [z]
      decide
    · exact Nat.lt_of_lt_of_le ((Nat.log2_lt z).mpr (show i.natAbs < 2 ^ 20 by omega)) (by decide)
  simp only [nice, this, decide_true]
theorem nice_form {f : Int × Int} (h : SmP f) : nice (formD f) = true := by
  obtain ⟨a, b, c, d⟩ := h
  simp only [formD, nice, niceAll]
  have h1 := nice_int (i := f.1) (by omega) (by omega)
  have h2 := nice_int (i := f.2) (by omega) (by omega)
  simp only [nice] at h1 h2
  rw [h1, h2] <;> rfl
theorem bulk_form (f : Int × Int) : (formD f).bulk = 2 := rfl
theorem depth_form (f : Int × Int) : (formD f).depth = 1 := by simp [formD, PyData.depth, PyData.depthAll]
def toldD (g : Pg) : PyData := .list [.str g.note, .str g.wh, formD g.raw, formD g.form, formD g.passed, .str g.after, .tuple [.str g.note, .str g.wh, formD g.raw]]
theorem told_shw {g : Pg} (sm : g.Sm) (h1 : nice (.str g.note) = true) (h2 : nice (.str g.wh) = true) (h3 : nice (.str g.after) = true) : Shw (toldD g) := by
  have n1 := sm.n
  have n2 := sm.w
  have n3 := sm.a
  refine shw ?_ ?_ ?_
  · unfold toldD
    rw [nice]
    simp only [niceAll]
    rw [h1, h2, h3, nice_form sm.r, nice_form sm.f, nice_form sm.p]
    simp only [Bool.true_and, Bool.and_true]
    rw [nice]
    simp only [niceAll]
    rw [h1, h2, nice_form sm.r] <;> rfl
  · simp [toldD, PyData.depth, PyData.depthAll, depth_form]
  · have e : (toldD g).bulk = g.note.length + 1 + (g.wh.length + 1 + (2 + 1 + (2 + 1 + (2 + 1 + (g.after.length + 1 + ((g.note.length + 1 + (g.wh.length + 1 + (2 + 1 + 0))) + 1 + 0)))))) := rfl
    rw [e]
    omega
def lineD (ns : List Int) (z : Str) : PyData := .list [intsD ns, .str z, .str z]
theorem line_shw {ns : List Int} {z : Str} (hn : ∀ n ∈ ns, 0 ≤ n ∧ n ≤ 100) (hl : ns.length ≤ 10) (hz : z.length ≤ 1000) (h : nice (.str z) = true) : Shw (lineD ns z) := by
  have hi : ∀ ms : List Int, (∀ n ∈ ms, 0 ≤ n ∧ n ≤ 100) → niceAll (ms.map PyData.int) = true ∧ PyData.bulkAll (ms.map PyData.int) = ms.length := by
    intro ms
    induction ms with
    | nil => exact fun _ => ⟨rfl, rfl⟩
    | cons n r ih =>
      intro hm
      obtain ⟨i1, i2⟩ := ih fun x hx => hm x (List.mem_cons_of_mem _ hx)
      have := hm n List.mem_cons_self
      have hn := nice_int (i := n) (by omega) (by omega)
      refine ⟨?_, ?_⟩
      · rw [List.map_cons, niceAll, hn, i1] <;> rfl
      · rw [List.map_cons]
        show 0 + 1 + PyData.bulkAll (r.map PyData.int) = _
        rw [i2, List.length_cons]
        omega
  obtain ⟨i1, i2⟩ := hi ns hn
  refine shw ?_ ?_ ?_
  · unfold lineD intsD
    rw [nice]
    simp only [niceAll]
    rw [h, nice, i1] <;> rfl
  · obtain ⟨_, b⟩ := ints_can ns
    simp [lineD, intsD, PyData.depth, PyData.depthAll, b]
  · have e : (lineD ns z).bulk = PyData.bulkAll (ns.map PyData.int) + 1 + (z.length + 1 + (z.length + 1 + 0)) := rfl
    rw [e, i2]
    omega
theorem ars_few (wh : Str) (raw form passed : Int × Int) : (∀ n ∈ arsOf wh raw form passed, 0 ≤ n ∧ n ≤ 100) ∧ (arsOf wh raw form passed).length ≤ 10 := by
  unfold arsOf
  split
  · refine ⟨fun n hn => ?_, Nat.le_trans (List.length_filter_le _ _) (by decide)⟩
    have := (List.mem_filter.mp hn).1
    simp only [List.mem_cons, List.not_mem_nil, or_false] at this
    rcases this with rfl | rfl <;> exact ⟨by decide, by decide⟩
  · exact ⟨fun n hn => (nomatch hn), Nat.zero_le _⟩
theorem SmP.pairB {f : Int × Int} (h : SmP f) : G.pairB (formD f) = true := pair_big h.big
theorem within_iff {f : Int × Int} (h : SmP f) (lo hi : Int) : pairWithin (formD f) lo hi = (decide (lo ≤ min f.1 f.2) && decide (max f.1 f.2 ≤ hi)) := by
  show (G.pairB (formD f) && (decide (lo ≤ min f.1 f.2) && decide (max f.1 f.2 ≤ hi))) = _
  rw [h.pairB, Bool.true_and]
theorem Drawn.smR {wh : Str} {raw form passed : Int × Int} (d : Drawn wh raw form passed) : SmP raw := by
  obtain ⟨a, b, c, e⟩ := d.r
  exact ⟨by omega, by omega, by omega, by omega⟩
theorem Drawn.smP {wh : Str} {raw form passed : Int × Int} (d : Drawn wh raw form passed) : SmP passed := by
  obtain ⟨a, b, c, e⟩ := d.p
  exact ⟨by omega, by omega, by omega, by omega⟩
/-- the law's arities, and its bounds of the form, are what makes a page -/
theorem ok_due {g : Pg} (d : Drawn g.wh g.raw g.form g.passed) (h1 : nameB g.note = true) (h2 : nameB g.after = true) :
    g.okB = (!(lawArs g.wh g.raw g.form g.passed).isEmpty && (decide (0 ≤ min g.form.1 g.form.2) && decide (max g.form.1 g.form.2 ≤ 7))) ∧ (g.okB = true → g.ars = lawArs g.wh g.raw g.form g.passed) := by
  have ew : whereB g.wh = true := by
    rcases d.w with e | e <;> rw [e] <;> decide +kernel
  have er : rawB (formD g.raw) = true := by
    obtain ⟨a, b, c, e⟩ := d.r
    unfold rawB
    rw [within_iff d.smR, decide_eq_true (by omega), decide_eq_true (by omega)] <;> rfl
  have ep : passB (formD g.passed) = true := by
    obtain ⟨a, b, c, e⟩ := d.p
    unfold passB
    rw [within_iff d.smP, decide_eq_true (by omega), decide_eq_true (by omega)] <;> rfl
  have ef : formB (formD g.form) = (decide (0 ≤ min g.form.1 g.form.2) && decide (max g.form.1 g.form.2 ≤ 7)) := by
    rw [← within_form, within_iff d.f]
  have ea : g.ars = if formB (formD g.form) = true then lawArs g.wh g.raw g.form g.passed else [] := by
    unfold Pg.ars arsOf lawArs
    rw [ew, er, ep, Bool.true_and, Bool.true_and, Bool.and_true]
  unfold Pg.okB
  rw [h1, h2, Bool.true_and, Bool.true_and, ea, ← ef]
  cases formB (formD g.form) with
  | true =>
    rw [if_pos rfl, Bool.and_true]
    exact ⟨rfl, fun _ => rfl⟩
  | false =>
    rw [if_neg Bool.false_ne_true, Bool.and_false]
    exact ⟨rfl, fun z => Bool.noConfusion z⟩
open TL in
theorem line_after {g : Pg} {z : Str} (h : g.line = ({ g with after := z } : Pg).line) : g.after = z := by
  have e := congrArg tl h
  unfold Pg.line at e
  dsimp only at e
  rw [tl_append _ g.after, tl_append _ z] at e
  exact ext_tl (List.append_cancel_left e)
structure InvP (K : PySem.W.Frag) (mg : Str → Option Value) (CI : Addr) : Prop where
  x : ErrAt K mg "InvalidPage" CI veL "ValueError.__new__"
  pp : PySem.W.exmOne K (.ref CI) (.ref CI) = some true
section
variable {P : Program} {w : World} {K : PySem.W.Frag} {mg : Str → Option Value} {base : Heap} {C CI : Addr}
theorem c_called (T : Txt K mg) (TP : PTxt K mg C) (IV : InvP K mg CI) (MK_Page : MakQ P w K mg base 6 "Page" C ["self", "note", "where", "raw", "form", "passed", "after"] (spInit C CI))
    (D : DefAt K mg "_law_called" s__law_called ["_law_note", "_law_parts_here", "_law_later"]) : CalG P w K mg base 8 "_law_called" ["_law_note", "_law_parts_here", "_law_later"] (spCalled C) := by
  refine calOk D sc__law_called (fun xs H Q E h => ?_) (fun f cdv A out s H xs Q E hgd hr h => ?_)
  · obtain ⟨t, r, f, p, g, rfl, _⟩ := h
    rfl
  · obtain ⟨t, r, f', p, g, rfl, ⟨ht, hR, hF, hP⟩, sm, k1, k2⟩ := h
    have nd := sc__law_called.nd
    refine ⟨_, pss_one (ps_try_only rfl rfl ⟨rfl, by decide, .inl IV.x.at_⟩ LamX.takes0 (fun W pn xe tk _ => pss_one (ps_ret (pe_mkS MK_Page (pxT tk) hr (by decide) rfl (pa_cons (pv 0) (pa_cons (pe_ix (show IxR _ (rIxT K) from ix_tup) (pv 1) pe_int (fun _ _ => rfl)) (pa_cons (pe_ix (show IxR _ (rIxT K) from ix_tup) (pv 1) pe_int (fun _ _ => rfl)) (pa_cons (pe_ix (show IxR _ (rIxT K) from ix_tup) (pv 1) pe_int (fun _ _ => rfl)) (pa_cons (pe_ix (show IxR _ (rIxT K) from ix_tup) (pv 1) pe_int (fun _ _ => rfl)) (pa_cons (pv 2) pa_nil))))))))) (fun a oe cls d pn _ _ => pss_one (ps_ret pe_non))), ?_⟩
    refine ⟨_, rfl, _, rfl, t, _, _, _, rfl, rfl, SqT.of ht, atI_nat (j := 0) rfl, _, rfl, t, _, _, _, rfl, rfl, SqT.of ht, atI_nat (j := 1) rfl, _, rfl, t, _, _, _, rfl, rfl, SqT.of ht, atI_nat (j := 2) rfl, _, rfl, t, _, _, _, rfl, rfl, SqT.of ht, atI_nat (j := 3) rfl, _, rfl, fun x dy nx ny nyx => ?_⟩
    have s6 : Same H (upd (upd H dy (.own x)) x (.ins C dy [])) := (same_new ny).trans (same_new (by rw [upd_ne (Ne.symm nyx)]; exact nx))
    have offS : ∀ {H7 : Hp}, Off x (upd (upd H dy (.own x)) x (.ins C dy [])) H7 → Same H H7 := fun o7 b o e => o7 b o (fun e2 => by rw [e2, nx] at e; cases e) (s6 _ _ e)
    refine ⟨x, dy, r, f', p, g, rfl, upd_same, hR.grow s6, hF.grow s6, hP.grow s6, sm, fun ok H7 o7 h7 => ⟨rfl, k1 ok x H7 (offS o7) h7⟩, fun ok H7 o7 => ?_⟩
    exact ⟨true, IV.pp, fun _ a _ => k2 ok H7 (offS o7), fun z => Bool.noConfusion z⟩
end
end G

set_option Elab.async false
set_option linter.all false
set_option maxRecDepth 100000
set_option maxHeartbeats 40000000
set_option profiler true
set_option profiler.threshold 1500
namespace G
open PySem PySem.Spec PyProof.Rows L2 C8
theorem st_norm {t : TS} {D : Ends} {σ : L2.St} {H : Hp} (σ' : L2.St) (e : σ = σ') (h : t D σ' H) : t D σ H := by
  rw [e]
  exact h
def spRight : Sp := fun vs H Q _ => ∃ (d : Addr), vs = [.ref d] ∧ DiceAt H d ∧ ∀ H', Mv d H H' → Q (.bl true) H'
def placeD (g : Pg) : PyData := .tuple [.str g.note, .str g.wh, formD g.raw]
theorem placeD_eqv (g : Pg) : PyData.eqv (placeD g) (placeD g) = true := by simp [placeD, formD, PyData.eqv, PyData.eqvAll]
theorem placeD_shaped (g : Pg) (h1 : PyData.strOk g.note = true) (h2 : PyData.strOk g.wh = true) : SeqAt.shaped (placeD g) = true := by
  show (PyData.canLay0 (.tuple _) && decide (PyData.depth (.tuple _) ≤ 64)) = true
  rw [Bool.and_eq_true_iff]
  exact ⟨by simp [formD, PyData.canLay0, PyData.canLayAll0, h1, h2], decide_eq_true (by simp [formD, PyData.depth, PyData.depthAll])⟩
theorem placeD_noDict (g : Pg) : (placeD g).hasDict = false := by simp [placeD, formD, PyData.hasDict, PyData.hasDictAll]
theorem place_dx {H : Hp} {t r : Addr} {g : Pg} (h : H t = some (.tup [.str g.note, .str g.wh, .ref r])) (hr : PairAt H r g.raw) : Dx H (.ref t) (placeD g) := .tup h (.cons (.str _) (.cons (.str _) (.cons hr.dx .nil)))
theorem toldD_noDict (g : Pg) : (toldD g).hasDict = false := by simp [toldD, formD, PyData.hasDict, PyData.hasDictAll]
theorem told_dx {H : Hp} {l r f p t : Addr} {g : Pg} (h : H l = some (.lst [.str g.note, .str g.wh, .ref r, .ref f, .ref p, .str g.after, .ref t])) (h1 : PairAt H r g.raw) (h2 : PairAt H f g.form) (h3 : PairAt H p g.passed) (h4 : Dx H (.ref t) (placeD g)) :
    Dx H (.ref l) (toldD g) := .lst h (.cons (.str _) (.cons (.str _) (.cons h1.dx (.cons h2.dx (.cons h3.dx (.cons (.str _) (.cons h4 .nil)))))))
theorem lineD_noDict (ns : List Int) (z : Str) : (lineD ns z).hasDict = false := by
  have := intsD_noDict ns
  simp only [lineD, PyData.hasDict, PyData.hasDictAll, this, Bool.or_self]
def turnD (g : Pg) : PyData := .list [formD g.raw.swap, formD g.form.swap, formD g.passed.swap, intsD g.ars, .str g.wh]
theorem ints_eqv : ∀ ns : List Int, PyData.eqvAll (ns.map PyData.int) (ns.map PyData.int) = true
  | [] => by simp [PyData.eqvAll]
  | n :: r => by
    have := ints_eqv r
    simp [PyData.eqvAll, PyData.eqv, this]
theorem turnD_eqv (g : Pg) : PyData.eqv (turnD g) (turnD g) = true := by
  have := ints_eqv g.ars
  simp [turnD, intsD, formD, PyData.eqv, PyData.eqvAll, this]
theorem turnD_noDict (g : Pg) : (turnD g).hasDict = false := by
  have := intsD_noDict g.ars
  simp only [turnD, formD, PyData.hasDict, PyData.hasDictAll, this, Bool.or_self]
theorem turnD_shaped (g : Pg) (h2 : PyData.strOk g.wh = true) : SeqAt.shaped (turnD g) = true := by
  obtain ⟨a, b⟩ := ints_can g.ars
  show (PyData.canLay0 (.list _) && decide (PyData.depth (.list _) ≤ 64)) = true
  rw [Bool.and_eq_true_iff]
  exact ⟨by simp [formD, intsD, PyData.canLay0, PyData.canLayAll0, a, h2], decide_eq_true (by simp [formD, intsD, PyData.depth, PyData.depthAll, b])⟩
theorem ne_self (z : Str) : (!decide (V.str z = V.str z)) = false := by simp
theorem nm_of {z : Str} (h : z = "m" ∨ z = "t" ∨ z = "k" ∨ z = "idle" ∨ z = "other") : Nm z := by
  rcases h with rfl | rfl | rfl | rfl | rfl <;> exact ⟨by decide +kernel, by decide +kernel, by decide +kernel, by decide +kernel⟩
section
variable {P : Program} {w : World} {K : PySem.W.Frag} {mg : Str → Option Value} {base : Heap} {C CI : Addr}
theorem c_right (T : Txt K mg) (TP : PTxt K mg C) (C__law_pick : CalG P w K mg base 2 "_law_pick" ["_law_dice_here", "_law_items"] (spPick K)) (C__law_parts : CalG P w K mg base 3 "_law_parts" ["_law_dice_here"] spParts)
    (C__law_called : CalG P w K mg base 8 "_law_called" ["_law_note", "_law_parts_here", "_law_later"] (spCalled C)) (C__law_arities : CalG P w K mg base 1 "_law_arities" ["_law_where", "_law_raw", "_law_form", "_law_passed"] spLawArs)
    (C__law_page_text : CalG P w K mg base 2 "_law_page_text" ["_law_place", "_law_page"] spPageText)
    (P_note : PrpQ P w K mg base 1 C "note" (getSp C "_note")) (P_where : PrpQ P w K mg base 1 C "where" (getSp C "_where")) (P_raw : PrpQ P w K mg base 1 C "raw" (getSp C "_raw")) (P_form : PrpQ P w K mg base 1 C "form" (getSp C "_form"))
    (P_passed : PrpQ P w K mg base 1 C "passed" (getSp C "_passed")) (P_after : PrpQ P w K mg base 1 C "after" (getSp C "_after")) (P_line : PrpQ P w K mg base 1 C "line" (getSp C "_line")) (P_arities : PrpQ P w K mg base 1 C "arities" (getSp C "_arities"))
    (P_place : PrpQ P w K mg base 1 C "place" (spPlace C)) (M_mirrored : MthQ P w K mg base 8 C "mirrored" ["self"] (spMir C)) (CM_from_line : CmQ P w K mg base 8 C "from_line" ["cls", "line"] (spFromLine C))
    (EQ_Page : EqQ P w K mg base 1 C (spPageEq C)) (ST_Page : StrQ P w K mg base 1 C (spPageStr C))
    (D : DefAt K mg "_law_right" s__law_right ["_law_dice_here"]) : CalG P w K mg base 10 "_law_right" ["_law_dice_here"] spRight := by
  refine calOk D sc__law_right (fun xs H Q E h => ?_) (fun f cdv A out s H xs Q E hgd hr h => ?_)
  · obtain ⟨d, rfl, _⟩ := h
    rfl
  · obtain ⟨d, rfl, hd, k⟩ := h
    have nd := sc__law_right.nd
    refine ⟨_, (pss_cons (ps_par3 (i := 1) (j := 2) (l := 3) (by rfl) nd rfl rfl rfl (by decide) (by decide) (by decide) rfl rfl rfl (pa_cons (pe_k C__law_pick hgd hr (by decide) rfl (pa_cons (pv 0) (pa_cons (pe_lst (pa_cons pe_str (pa_cons pe_str (pa_cons pe_str pa_nil)))) pa_nil))) (pa_cons (pe_k C__law_parts hgd hr (by decide) rfl (pa_cons (pv 0) pa_nil)) (pa_cons (pe_k C__law_pick hgd hr (by decide) rfl (pa_cons (pv 0) (pa_cons (pe_lst (pa_cons pe_str (pa_cons pe_str pa_nil))) pa_nil))) pa_nil))) (by rfl))
      (pss_cons (ps_asg (pv 2) (pg_tup (by rfl) (pgs_cons (pg_name (i := 4) nd rfl (.inl rfl)) (pgs_cons (pg_name (i := 5) nd rfl (.inl rfl)) (pgs_cons (pg_name (i := 6) nd rfl (.inl rfl)) (pgs_cons (pg_name (i := 7) nd rfl (.inl rfl)) pgs_nil))))))
      (pss_cons (ps_par (i := 8) (j := 9) (by rfl) nd rfl rfl (by decide) rfl rfl (pa_cons (pe_k C__law_called hgd hr (by decide) rfl (pa_cons (pv 1) (pa_cons (pv 2) (pa_cons (pv 3) pa_nil)))) (pa_cons (pe_k C__law_arities hgd hr (by decide) rfl (pa_cons (pv 4) (pa_cons (pv 5) (pa_cons (pv 6) (pa_cons (pv 7) pa_nil))))) pa_nil)) (by rfl))
      (pss_cons (ps_set (i := 10) nd rfl (.inl rfl) (pe_and (pe_cmpR (op_neD hr.units) (pv 9) (pe_tup pa_nil) (nomark _)) (pe_and (pe_cmpR op_le pe_int (pe_callB (cr_min2T rfl hr.units) (by rfl) T.min (by decide +kernel) (pa_cons (pv 6) pa_nil)) (nomark _)) (pe_one (pe_cmpR op_le (pe_callB (cr_max2T rfl hr.units) (by rfl) T.max (by decide +kernel) (pa_cons (pv 6) pa_nil)) pe_int (nomark _))))))
      (pss_cons (ps_if (PW.pt (pw_or (pt_cmpR op_isN (pv 8) pe_non (nomark _)) (pw_or1 (pt_not (pt_val (pv 10)))))) (pss_one (ps_ret (pe_and (pe_cmpR op_isN (pv 8) pe_non (nomark _)) (pe_one (pe_not (pv 10)))))) pss_nil)
      (pss_cons (ps_set (i := 11) nd rfl (.inl rfl) (pe_k C__law_page_text hgd hr (by decide) rfl (pa_cons (pe_tup (pa_cons (pv 1) (pa_cons (pv 4) (pa_cons (pv 5) pa_nil)))) (pa_cons (pe_tup (pa_cons (pv 6) (pa_cons (pv 7) (pa_cons (pv 3) pa_nil)))) pa_nil))))
      (pss_cons (ps_set (i := 12) nd rfl (.inl rfl) (pe_lst (pa_cons (pe_pr P_note hr (by decide) (pv 8)) (pa_cons (pe_pr P_where hr (by decide) (pv 8)) (pa_cons (pe_pr P_raw hr (by decide) (pv 8)) (pa_cons (pe_pr P_form hr (by decide) (pv 8)) (pa_cons (pe_pr P_passed hr (by decide) (pv 8)) (pa_cons (pe_pr P_after hr (by decide) (pv 8)) (pa_cons (pe_pr P_place hr (by decide) (pv 8)) pa_nil)))))))))
      (pss_cons (ps_if (pt_cmpR op_ne (pe_callB (call_repr hgd hr.units) (by rfl) T.repr (by decide +kernel) (pa_cons (pv 12) pa_nil)) (pe_callB (call_repr hgd hr.units) (by rfl) T.repr (by decide +kernel) (pa_cons (pe_lst (pa_cons (pv 1) (pa_cons (pv 4) (pa_cons (pv 5) (pa_cons (pv 6) (pa_cons (pv 7) (pa_cons (pv 3) (pa_cons (pe_tup (pa_cons (pv 1) (pa_cons (pv 4) (pa_cons (pv 5) pa_nil)))) pa_nil)))))))) pa_nil)) (nomark _)) (pss_one (ps_ret pe_bl)) pss_nil)
      (pss_cons (ps_if (pt_cmpR op_ne (pe_callB (call_repr hgd hr.units) (by rfl) T.repr (by decide +kernel) (pa_cons (pe_lst (pa_cons (pe_pr P_arities hr (by decide) (pv 8)) (pa_cons (pe_pr P_line hr (by decide) (pv 8)) (pa_cons (pe_callTy (call_strQ ST_Page hr (by decide)) (by rfl) T.str (by decide +kernel) (pa_cons (pv 8) pa_nil)) pa_nil)))) pa_nil)) (pe_callB (call_repr hgd hr.units) (by rfl) T.repr (by decide +kernel) (pa_cons (pe_lst (pa_cons (pv 9) (pa_cons (pv 11) (pa_cons (pv 11) pa_nil)))) pa_nil)) (nomark _)) (pss_one (ps_ret pe_bl)) pss_nil)
      (pss_cons (ps_if (PW.pt (pw_or (pt_cmpR (op_neQ EQ_Page hr (by decide)) (pe_cmS CM_from_line px0 hr (by decide) (pe_gv rfl TP.g) (pa_cons (pv 11) pa_nil)) (pv 8) (nomark _)) (pw_or1 (pt_cmpR (op_neD hr.units) (pe_pr P_place hr (by decide) (pe_cmS CM_from_line px0 hr (by decide) (pe_gv rfl TP.g) (pa_cons (pv 11) pa_nil))) (pe_pr P_place hr (by decide) (pv 8)) (nomark _))))) (pss_one (ps_ret pe_bl)) pss_nil)
      (pss_cons (ps_set (i := 13) nd rfl (.inl rfl) (pe_mt0 M_mirrored hr (by decide) (pv 8)))
      (pss_cons (ps_set (i := 12) nd rfl (.inl rfl) (pe_lst (pa_cons (pe_pr P_raw hr (by decide) (pv 13)) (pa_cons (pe_pr P_form hr (by decide) (pv 13)) (pa_cons (pe_pr P_passed hr (by decide) (pv 13)) (pa_cons (pe_pr P_arities hr (by decide) (pv 13)) (pa_cons (pe_pr P_where hr (by decide) (pv 13)) pa_nil)))))))
      (pss_cons (ps_if (pt_cmpR (op_neD hr.units) (pv 12) (pe_lst (pa_cons (pe_tup (pa_cons (pe_ix ix_tup (pv 5) pe_int (fun _ _ => rfl)) (pa_cons (pe_ix ix_tup (pv 5) pe_int (fun _ _ => rfl)) pa_nil))) (pa_cons (pe_tup (pa_cons (pe_ix ix_tup (pv 6) pe_int (fun _ _ => rfl)) (pa_cons (pe_ix ix_tup (pv 6) pe_int (fun _ _ => rfl)) pa_nil))) (pa_cons (pe_tup (pa_cons (pe_ix ix_tup (pv 7) pe_int (fun _ _ => rfl)) (pa_cons (pe_ix ix_tup (pv 7) pe_int (fun _ _ => rfl)) pa_nil))) (pa_cons (pv 9) (pa_cons (pv 4) pa_nil)))))) (nomark _)) (pss_one (ps_ret pe_bl)) pss_nil)
      (pss_cons (ps_if (pt_cmpR (op_neQ EQ_Page hr (by decide)) (pe_mt0 M_mirrored hr (by decide) (pv 13)) (pv 8) (nomark _)) (pss_one (ps_ret pe_bl)) pss_nil)
      (pss_cons (ps_set (i := 14) nd rfl (.inl rfl) (pe_k C__law_called hgd hr (by decide) rfl (pa_cons (pv 1) (pa_cons (pv 2) (pa_cons pe_str pa_nil)))))
      (pss_one (ps_ret (pe_and (pe_cmpR (op_eqQ EQ_Page hr (by decide)) (pv 8) (pe_k C__law_called hgd hr (by decide) rfl (pa_cons (pv 1) (pa_cons (pv 2) (pa_cons (pv 3) pa_nil)))) (nomark _)) (pe_and (pe_cmpR (op_neQ EQ_Page hr (by decide)) (pv 8) (pv 14) (nomark _)) (pe_and (pe_not (pe_cmpR (op_eqQ EQ_Page hr (by decide)) (pv 8) (pv 11) (nomark _))) (pe_one (pe_cmpR (op_neQ EQ_Page hr (by decide)) (pv 8) pe_non (nomark _))))))))))))))))))))))), ?_⟩
    refine ⟨_, rfl, (by show 3 ≤ sizeLine; decide), fun l nl => ?_⟩
    have m0 := (Mv.refl hd).new (o := .lst [.str "m", .str "t", .str "k"]) nl
    refine ⟨d, l, _, rfl, m0.dice, SqL.of upd_same, hd.ne nl, by decide, by decide, fun i x H1 hi m1 _ => ?_⟩
    obtain ⟨note, rfl, hn⟩ : ∃ z : Str, x = .str z ∧ Nm z := by
      have hm := List.mem_of_getElem? hi
      simp only [List.mem_cons, List.not_mem_nil, or_false] at hm
      rcases hm with rfl | rfl | rfl <;> exact ⟨_, rfl, nm_of (by simp)⟩
    replace m1 := m0.trans m1
    refine ⟨_, rfl, d, rfl, m1.dice, fun t r f' p wh raw form passed H2 dr m2 pa => ?_⟩
    replace m2 := m1.trans m2
    refine ⟨_, rfl, (by show 2 ≤ sizeLine; decide), fun l2 nl2 => ?_⟩
    have m3 := (Mv.refl m2.dice).new (o := .lst [.str "m", .str "idle"]) nl2
    refine ⟨d, l2, _, rfl, m3.dice, SqL.of upd_same, m2.dice.ne nl2, by decide, by decide, fun i2 x2 H3 hi2 m4 _ => ?_⟩
    obtain ⟨later, rfl, hl, lo⟩ : ∃ z : Str, x2 = .str z ∧ Nm z ∧ z ≠ "other" := by
      have hm := List.mem_of_getElem? hi2
      simp only [List.mem_cons, List.not_mem_nil, or_false] at hm
      rcases hm with rfl | rfl <;> exact ⟨_, rfl, nm_of (by simp), by decide +kernel⟩
    replace m4 := m3.trans m4
    have pa3 := (pa.grow m4.same).grow hide_le
    replace m4 := m2.trans m4
    refine ⟨_, _, _, rfl, ?_⟩
    refine ⟨_, rfl, t, _, rfl, SqT.of pa3.tu, rfl, _, _, rfl, _, _, rfl, _, _, rfl, _, _, rfl, rfl, ?_⟩
    obtain ⟨g, eg⟩ : ∃ g : Pg, g = ⟨note, wh, raw, form, passed, later⟩ := ⟨_, rfl⟩
    have hw10 : wh.length ≤ 10 ∧ PyData.strOk wh = true ∧ nice (.str wh) = true := by
      rcases dr.w with e | e <;> rw [e] <;> exact ⟨by decide +kernel, by decide +kernel, by decide +kernel⟩
    have n10 := hn.le
    have l10 := hl.le
    have sm : g.Sm := by
      rw [eg]
      exact ⟨dr.smR, dr.f, dr.smP, by show note.length ≤ 100; omega, by show wh.length ≤ 100; omega, by show later.length ≤ 100; omega⟩
    obtain ⟨od, oa⟩ := ok_due (g := g) (by rw [eg]; exact dr) (by rw [eg]; exact hn.ok) (by rw [eg]; exact hl.ok)
    rw [eg] at od oa sm
    have due : ∀ {H4 : Hp} {ar : Addr} (R : V → Hp → Prop) (Q' : VK) (σ : L2.St), σ[9]? = some (some (.ref ar)) → σ[6]? = some (some (.ref f')) → H4 ar = some (.tup ((lawArs wh raw form passed).map V.int)) → PairAt H4 f' form →
        (∀ H5, Same H4 H5 → Q' (.bl ((⟨note, wh, raw, form, passed, later⟩ : Pg).okB)) H5) → (tAndV (tOp (rNeD K) (tVar 9) (tTup tNil)) (tAndV (tOp (rI0 fun i j => V.bl (decide (i ≤ j))) (tC (V.int 0)) (tCB (rBest min) (tCons (tVar 6) tNil)))
          (tOp (rI0 fun i j => V.bl (decide (i ≤ j))) (tCB (rBest max) (tCons (tVar 6) tNil)) (tC (V.int 7))))) σ H4 Q' := fun {H4 ar} R Q' σ e9 e6 har hF kk => by
      rw [od] at kk
      refine ⟨_, e9, (by show 0 ≤ sizeLine; decide), fun e ne => ?_⟩
      have s3 := same_new (H := H4) (o := .tup []) ne
      refine ⟨intsD (lawArs wh raw form passed), .tuple [], Dx.dp (.tup (s3 _ _ har) (ints_dx _)) (intsD_noDict _), Dx.dp (.tup upd_same .nil) (by simp [PyData.hasDict, PyData.hasDictAll]), intsD_shaped _, (by decide +kernel), ?_⟩
      rw [eqv_ints_nil]
      refine ⟨_, rfl, ite2 (fun q => ?_) (fun q => ?_)⟩
      · have q : (!(lawArs wh raw form passed).isEmpty) = true := q
        rw [q, Bool.true_and] at kk
        refine ⟨_, e6, f', _, _, rfl, hF.grow s3, _, _, rfl, rfl, _, rfl, ite2 (fun q1 => ?_) (fun q1 => ?_)⟩
        · have q1 : decide (0 ≤ min form.1 form.2) = true := q1
          rw [q1, Bool.true_and] at kk
          exact ⟨_, e6, f', _, _, rfl, hF.grow s3, _, _, rfl, rfl, kk _ s3⟩
        · have q1 : decide (0 ≤ min form.1 form.2) = false := Bool.eq_false_iff.mpr q1
          rw [q1, Bool.false_and] at kk
          exact kk _ s3
      · have q : (!(lawArs wh raw form passed).isEmpty) = false := Bool.eq_false_iff.mpr q
        rw [q, Bool.false_and] at kk
        exact kk _ s3
    cases hok : (⟨note, wh, raw, form, passed, later⟩ : Pg).okB with
    | false =>
      refine ⟨_, rfl, _, rfl, _, rfl, t, r, f', p, ⟨note, wh, raw, form, passed, later⟩, rfl, pa3, sm, fun z => (by rw [hok] at z; cases z), fun _ H4 s4 => ?_⟩
      have pa4 := pa3.grow s4
      refine ⟨_, rfl, _, rfl, _, rfl, _, rfl, wh, r, f', p, raw, form, passed, rfl, pa4.hr, pa4.hf, pa4.hp, dr.smR, dr.f, dr.smP, fun ar H5 s5 har => ⟨_, _, rfl, ?_⟩⟩
      refine go_nx ?_
      refine st_norm ([some (.ref d), some (.str note), some (.ref t), some (.str later), some (.str wh), some (.ref r), some (.ref f'), some (.ref p), some (.non), some (.ref ar), none, none, none, none, none]) rfl ?_
      refine a_set (fun v H' => v = .bl false ∧ Same H5 H') (fun Q' kQ => due (fun _ _ => True) Q' _ rfl rfl har (pa4.hf.grow s5) fun H6 s6 => kQ _ _ ⟨by rw [hok], s6⟩) ?_
      rintro _ H6 ⟨rfl, s6⟩
      refine st_norm ([some (.ref d), some (.str note), some (.ref t), some (.str later), some (.str wh), some (.ref r), some (.ref f'), some (.ref p), some (.non), some (.ref ar), some (.bl false), none, none, none, none]) rfl ?_
      refine a_if (fun b H' => b = true ∧ H6 = H') (fun Q' kQ => ?_) ?_ (fun _ h => nomatch h.1)
      · exact ⟨_, rfl, rfl, _, rfl, ite2 (fun _ => kQ _ _ ⟨rfl, rfl⟩) (fun q => absurd rfl q)⟩
      · rintro _ ⟨_, rfl⟩
        refine ⟨_, rfl, rfl, _, rfl, ite2 (fun _ => ?_) (fun q => absurd rfl q)⟩
        exact ⟨_, rfl, _, rfl, k H6 (((m4.ofSame s4).ofSame s5).ofSame s6)⟩
    | true =>
      have ea := oa hok
      refine ⟨_, rfl, _, rfl, _, rfl, t, r, f', p, ⟨note, wh, raw, form, passed, later⟩, rfl, pa3, sm, fun _ a H4 s4 pg => ?_, fun z => (by rw [hok] at z; cases z)⟩
      have pa4 := pa3.grow s4
      refine ⟨_, rfl, _, rfl, _, rfl, _, rfl, wh, r, f', p, raw, form, passed, rfl, pa4.hr, pa4.hf, pa4.hp, dr.smR, dr.f, dr.smP, fun ar H5 s5 har => ⟨_, _, rfl, ?_⟩⟩
      refine go_nx ?_
      refine st_norm ([some (.ref d), some (.str note), some (.ref t), some (.str later), some (.str wh), some (.ref r), some (.ref f'), some (.ref p), some (.ref a), some (.ref ar), none, none, none, none, none]) rfl ?_
      refine a_set (fun v H' => v = .bl true ∧ Same H5 H') (fun Q' kQ => due (fun _ _ => True) Q' _ rfl rfl har (pa4.hf.grow s5) fun H6 s6 => kQ _ _ ⟨by rw [hok], s6⟩) ?_
      rintro _ H6 ⟨rfl, s6⟩
      refine st_norm ([some (.ref d), some (.str note), some (.ref t), some (.str later), some (.str wh), some (.ref r), some (.ref f'), some (.ref p), some (.ref a), some (.ref ar), some (.bl true), none, none, none, none]) rfl ?_
      refine a_if (fun b H' => b = false ∧ H6 = H') (fun Q' kQ => ?_) (fun _ h => nomatch h.1) ?_
      · exact ⟨_, rfl, rfl, _, rfl, ite2 (fun q => V.noConfusion (of_decide_eq_true q)) (fun _ => ⟨_, rfl, _, rfl, kQ _ _ ⟨rfl, rfl⟩⟩)⟩
      rintro _ ⟨_, rfl⟩
      refine go_nx ?_
      replace pg := (pg.grow s5).grow s6
      replace pa4 := (pa4.grow s5).grow s6
      replace har := s6 _ _ har
      have mm := ((m4.ofSame s4).ofSame s5).ofSame s6
      have kind : ∃ G : Pg, G = ⟨note, wh, raw, form, passed, later⟩ := ⟨_, rfl⟩
      obtain ⟨G, eG⟩ := kind
      have ea' : G.ars = lawArs wh raw form passed := by rw [eG]; exact ea
      have okG : G.okB = true := by rw [eG]; exact hok
      have smG : G.Sm := by rw [eG]; exact sm
      have e1 : G.note = note := by rw [eG]
      have e2 : G.wh = wh := by rw [eG]
      have e3 : G.raw = raw := by rw [eG]
      have e4 : G.form = form := by rw [eG]
      have e5 : G.passed = passed := by rw [eG]
      have e6 : G.after = later := by rw [eG]
      rw [← eG] at pg
      clear od oa ea due eg hok sm
      subst e1 e2 e3 e4 e5 e6
      rw [← ea'] at har
      clear ea' eG
      -- the text of the page
      refine a_set (fun v H' => v = .str G.line ∧ Same H6 H') (fun Q' kQ => ?_) ?_
      · refine ⟨_, rfl, _, rfl, _, rfl, (by show 3 ≤ sizeLine; decide), fun t1 n1 => ⟨_, rfl, _, rfl, _, rfl, (by show 3 ≤ sizeLine; decide), fun t2 n2 => ?_⟩⟩
        have s7 := (same_new (H := H6) (o := .tup [.str G.note, .str G.wh, .ref r]) n1).trans (same_new (o := .tup [.ref f', .ref p, .str G.after]) n2)
        refine ⟨t1, t2, r, f', p, G, rfl, same_new n2 _ _ upd_same, upd_same, pa4.hr.grow s7, pa4.hf.grow s7, pa4.hp.grow s7, smG, fun H8 s8 => kQ _ _ ⟨rfl, s7.trans s8⟩⟩
      rintro _ H7 ⟨rfl, s7⟩
      refine st_norm ([some (.ref d), some (.str G.note), some (.ref t), some (.str G.after), some (.str G.wh), some (.ref r), some (.ref f'), some (.ref p), some (.ref a), some (.ref ar), some (.bl true), some (.str G.line), none, none, none]) rfl ?_
      replace pg := pg.grow s7
      replace pa4 := pa4.grow s7
      replace har := s7 _ _ har
      replace mm := mm.ofSame s7
      obtain ⟨dx, ar1, r1, f1, p1, g1, g2, g3, g4, g5⟩ := pg.ex
      have la : nice (.str G.line) = true := nice_line hn.ni hw10.2.2 hl.ni
      -- what the page tells
      refine a_set (fun v H' => ∃ l, v = .ref l ∧ Dx H' (.ref l) (toldD G) ∧ Same H7 H') (fun Q' kQ => ?_) ?_
      · refine ⟨_, rfl, a, dx, _, rfl, g1, a, dx, _, _, rfl, g1, pgF_note, _, rfl, a, dx, _, rfl, g1, a, dx, _, _, rfl, g1, pgF_wh, _, rfl, a, dx, _, rfl, g1, a, dx, _, _, rfl, g1, pgF_raw, _, rfl, a, dx, _, rfl, g1, a, dx, _, _, rfl, g1, pgF_form,
          _, rfl, a, dx, _, rfl, g1, a, dx, _, _, rfl, g1, pgF_passed, _, rfl, a, dx, _, rfl, g1, a, dx, _, _, rfl, g1, pgF_after, _, rfl, a, dx, _, rfl, g1, a, G, rfl, pg, fun t3 r3 H8 s8 ht3 hr3 => ?_⟩
        refine ⟨(by show 7 ≤ sizeLine; decide), fun l3 n3 => ?_⟩
        have s9 := same_new (H := H8) (o := .lst [.str G.note, .str G.wh, .ref r1, .ref f1, .ref p1, .str G.after, .ref t3]) n3
        have s89 := s8.trans s9
        exact kQ _ _ ⟨l3, rfl, told_dx upd_same (g3.grow s89) (g4.grow s89) (g5.grow s89) ((place_dx ht3 hr3).grow s9), s89⟩
      rintro _ H8 ⟨l3, rfl, ht8, s8⟩
      refine st_norm ([some (.ref d), some (.str G.note), some (.ref t), some (.str G.after), some (.str G.wh), some (.ref r), some (.ref f'), some (.ref p), some (.ref a), some (.ref ar), some (.bl true), some (.str G.line), some (.ref l3), none, none]) rfl ?_
      replace pa4 := pa4.grow s8
      refine a_if (fun b H' => b = false ∧ Same H8 H') (fun Q' kQ => ?_) (fun _ h => nomatch h.1) ?_
      · refine ⟨_, rfl, _, _, rfl, Dx.dp ht8 (toldD_noDict _), told_shw smG hn.ni hw10.2.2 hl.ni, ?_⟩
        refine ⟨_, rfl, _, rfl, _, rfl, _, rfl, _, rfl, _, rfl, _, rfl, _, rfl, _, rfl, (by show 3 ≤ sizeLine; decide), fun t4 n4 => ⟨(by show 7 ≤ sizeLine; decide), fun l4 nl4 => ?_⟩⟩
        have s9 := same_new (H := H8) (o := .tup [.str G.note, .str G.wh, .ref r]) n4
        have sA := same_new (o := .lst [.str G.note, .str G.wh, .ref r, .ref f', .ref p, .str G.after, .ref t4]) nl4
        have s9A := s9.trans sA
        have hpl : Dx (upd H8 t4 (.tup [.str G.note, .str G.wh, .ref r])) (.ref t4) (placeD G) := place_dx upd_same (pa4.hr.grow s9)
        refine ⟨_, _, rfl, Dx.dp (told_dx upd_same (pa4.hr.grow s9A) (pa4.hf.grow s9A) (pa4.hp.grow s9A) (hpl.grow sA)) (toldD_noDict _), told_shw smG hn.ni hw10.2.2 hl.ni, ?_⟩
        exact ⟨rfl, _, rfl, kQ _ _ ⟨ne_self _, s9A⟩⟩
      rintro H9 ⟨_, s9⟩
      have s89 := s8.trans s9
      replace pg := pg.grow s89
      replace pa4 := pa4.grow s9
      replace har := s89 _ _ har
      replace mm := mm.ofSame s89
      replace g1 := s89 _ _ g1
      replace g2 := s89 _ _ g2
      refine go_nx ?_
      refine a_if (fun b H' => b = false ∧ Same H9 H') (fun Q' kQ => ?_) (fun _ h => nomatch h.1) ?_
      · have few := ars_few G.wh G.raw G.form G.passed
        have ll := line_len smG
        have sh := line_shw (z := G.line) few.1 few.2 (by omega) la
        refine ⟨_, rfl, a, dx, _, rfl, g1, a, dx, _, _, rfl, g1, pgF_ars, _, rfl, a, dx, _, rfl, g1, a, dx, _, _, rfl, g1, pgF_line, _, rfl, a, dx, _, rfl, g1, a, G, rfl, pg, smG, _, rfl, (by show 3 ≤ sizeLine; decide), fun l5 n5 => ?_⟩
        have sA := same_new (H := H9) (o := .lst [.ref ar1, .str G.line, .str G.line]) n5
        refine ⟨_, _, rfl, Dx.dp (d := lineD G.ars G.line) (.lst upd_same (.cons (.tup (sA _ _ g2) (ints_dx _)) (.cons (.str _) (.cons (.str _) .nil)))) (lineD_noDict _ _), sh, ?_⟩
        refine ⟨_, rfl, _, rfl, _, rfl, (by show 3 ≤ sizeLine; decide), fun l6 n6 => ?_⟩
        have sB := same_new (o := .lst [.ref ar, .str G.line, .str G.line]) n6
        refine ⟨_, _, rfl, Dx.dp (d := lineD G.ars G.line) (.lst upd_same (.cons (.tup (sB _ _ (sA _ _ har)) (ints_dx _)) (.cons (.str _) (.cons (.str _) .nil)))) (lineD_noDict _ _), sh, ?_⟩
        exact ⟨rfl, _, rfl, kQ _ _ ⟨ne_self _, sA.trans sB⟩⟩
      rintro HA ⟨_, sA⟩
      replace pg := pg.grow sA
      replace pa4 := pa4.grow sA
      replace har := sA _ _ har
      replace mm := mm.ofSame sA
      replace g1 := sA _ _ g1
      refine go_nx ?_
      refine a_if (fun b H' => b = false ∧ Same HA H') (fun Q' kQ => ?_) (fun _ h => nomatch h.1) ?_
      · refine ⟨rfl, _, rfl, G, rfl, okG, smG, fun a2 HB sB pgB => ?_⟩
        obtain ⟨dxB, _, _, _, _, b1, _⟩ := pgB.ex
        refine ⟨_, rfl, a2, dxB, _, rfl, b1, .ins (sB _ _ g1), a2, _, G, rfl, pgB, .inl ⟨a, G, rfl, pg.grow sB, _, rfl, ?_⟩⟩
        rw [decide_eq_true rfl]
        refine ⟨_, rfl, ite2 (fun q => absurd q (by decide)) (fun _ => ?_)⟩
        refine ⟨rfl, _, rfl, G, rfl, okG, smG, fun a3 HC sC pgC => ?_⟩
        obtain ⟨dxC, _, _, _, _, c1, _⟩ := pgC.ex
        have sBC := sB.trans sC
        refine ⟨a3, dxC, _, rfl, c1, a3, G, rfl, pgC, fun t5 r5 HD sD ht5 hr5 => ?_⟩
        have sBD := sBC.trans sD
        refine ⟨_, rfl, a, dx, _, rfl, sBD _ _ g1, a, G, rfl, pg.grow sBD, fun t6 r6 HE sE ht6 hr6 => ?_⟩
        refine ⟨_, _, Dx.dp ((place_dx ht5 hr5).grow sE) (placeD_noDict _), Dx.dp (place_dx ht6 hr6) (placeD_noDict _), placeD_shaped G hn.so hw10.2.1, placeD_shaped G hn.so hw10.2.1, _, rfl, kQ _ _ ⟨?_, sBD.trans sE⟩⟩
        rw [placeD_eqv] <;> rfl
      rintro HB ⟨_, sB⟩
      replace pg := pg.grow sB
      replace pa4 := pa4.grow sB
      replace har := sB _ _ har
      replace mm := mm.ofSame sB
      replace g1 := sB _ _ g1
      refine go_nx ?_
      refine a_set (fun v H' => ∃ b, v = .ref b ∧ PageAt C H' b G.mir ∧ Same HB H') (fun Q' kQ => ?_) ?_
      · exact ⟨_, rfl, a, dx, _, rfl, g1, pgF_no, a, G, rfl, pg, okG, smG, fun b HC sC pgC => kQ _ _ ⟨b, rfl, pgC, sC⟩⟩
      rintro _ HC ⟨tb, rfl, pgT, sC⟩
      refine st_norm ([some (.ref d), some (.str G.note), some (.ref t), some (.str G.after), some (.str G.wh), some (.ref r), some (.ref f'), some (.ref p), some (.ref a), some (.ref ar), some (.bl true), some (.str G.line), some (.ref l3), some (.ref tb), none]) rfl ?_
      replace pg := pg.grow sC
      replace pa4 := pa4.grow sC
      replace har := sC _ _ har
      replace mm := mm.ofSame sC
      replace g1 := sC _ _ g1
      obtain ⟨dxT, arT, rT, fT, pT, t1, t2, t3, t4, t5⟩ := pgT.ex
      rw [Pg.mir_ars] at t2
      refine a_set (fun v H' => ∃ l, v = .ref l ∧ Dx H' (.ref l) (turnD G) ∧ Same HC H') (fun Q' kQ => ?_) ?_
      · refine ⟨_, rfl, tb, dxT, _, rfl, t1, tb, dxT, _, _, rfl, t1, pgF_raw, _, rfl, tb, dxT, _, rfl, t1, tb, dxT, _, _, rfl, t1, pgF_form, _, rfl, tb, dxT, _, rfl, t1, tb, dxT, _, _, rfl, t1, pgF_passed,
          _, rfl, tb, dxT, _, rfl, t1, tb, dxT, _, _, rfl, t1, pgF_ars, _, rfl, tb, dxT, _, rfl, t1, tb, dxT, _, _, rfl, t1, pgF_wh, (by show 5 ≤ sizeLine; decide), fun l7 n7 => ?_⟩
        have sD := same_new (H := HC) (o := .lst [.ref rT, .ref fT, .ref pT, .ref arT, .str G.wh]) n7
        exact kQ _ _ ⟨l7, rfl, .lst upd_same (.cons (t3.grow sD).dx (.cons (t4.grow sD).dx (.cons (t5.grow sD).dx (.cons (.tup (sD _ _ t2) (ints_dx _)) (.cons (.str _) .nil))))), sD⟩
      rintro _ HD ⟨l7, rfl, hl7, sD⟩
      refine st_norm ([some (.ref d), some (.str G.note), some (.ref t), some (.str G.after), some (.str G.wh), some (.ref r), some (.ref f'), some (.ref p), some (.ref a), some (.ref ar), some (.bl true), some (.str G.line), some (.ref l7), some (.ref tb), none]) rfl ?_
      replace pg := pg.grow sD
      replace pa4 := pa4.grow sD
      replace har := sD _ _ har
      replace mm := mm.ofSame sD
      replace g1 := sD _ _ g1
      replace pgT := pgT.grow sD
      replace t1 := sD _ _ t1
      refine a_if (fun b H' => b = false ∧ Same HD H') (fun Q' kQ => ?_) (fun _ h => nomatch h.1) ?_
      · refine ⟨_, rfl, _, rfl, r, _, _, _, rfl, rfl, SqT.of pa4.hr, atI_nat (j := 1) rfl, _, rfl, r, _, _, _, rfl, rfl, SqT.of pa4.hr, atI_nat (j := 0) rfl, (by show 2 ≤ sizeLine; decide), fun u1 v1 => ?_⟩
        have q1 := same_new (H := HD) (o := .tup [.int G.raw.2, .int G.raw.1]) v1
        refine ⟨_, rfl, f', _, _, _, rfl, rfl, SqT.of (pa4.hf.grow q1), atI_nat (j := 1) rfl, _, rfl, f', _, _, _, rfl, rfl, SqT.of (pa4.hf.grow q1), atI_nat (j := 0) rfl, (by show 2 ≤ sizeLine; decide), fun u2 v2 => ?_⟩
        have q2 := same_new (o := .tup [.int G.form.2, .int G.form.1]) v2
        have q12 := q1.trans q2
        refine ⟨_, rfl, p, _, _, _, rfl, rfl, SqT.of (pa4.hp.grow q12), atI_nat (j := 1) rfl, _, rfl, p, _, _, _, rfl, rfl, SqT.of (pa4.hp.grow q12), atI_nat (j := 0) rfl, (by show 2 ≤ sizeLine; decide), fun u3 v3 => ?_⟩
        have q3 := same_new (o := .tup [.int G.passed.2, .int G.passed.1]) v3
        refine ⟨_, rfl, _, rfl, (by show 5 ≤ sizeLine; decide), fun l8 n8 => ?_⟩
        have q4 := same_new (o := .lst [.ref u1, .ref u2, .ref u3, .ref ar, .str G.wh]) n8
        have q := (q12.trans q3).trans q4
        have w1 : PairAt (upd (upd (upd (upd HD u1 (.tup [.int G.raw.2, .int G.raw.1])) u2 (.tup [.int G.form.2, .int G.form.1])) u3 (.tup [.int G.passed.2, .int G.passed.1])) l8 (.lst [.ref u1, .ref u2, .ref u3, .ref ar, .str G.wh])) u1 G.raw.swap := q4 _ _ (q3 _ _ (q2 _ _ upd_same))
        have w2 : PairAt (upd (upd (upd (upd HD u1 (.tup [.int G.raw.2, .int G.raw.1])) u2 (.tup [.int G.form.2, .int G.form.1])) u3 (.tup [.int G.passed.2, .int G.passed.1])) l8 (.lst [.ref u1, .ref u2, .ref u3, .ref ar, .str G.wh])) u2 G.form.swap := q4 _ _ (q3 _ _ upd_same)
        have w3 : PairAt (upd (upd (upd (upd HD u1 (.tup [.int G.raw.2, .int G.raw.1])) u2 (.tup [.int G.form.2, .int G.form.1])) u3 (.tup [.int G.passed.2, .int G.passed.1])) l8 (.lst [.ref u1, .ref u2, .ref u3, .ref ar, .str G.wh])) u3 G.passed.swap := q4 _ _ upd_same
        refine ⟨turnD G, turnD G, Dx.dp (hl7.grow q) (turnD_noDict _), Dx.dp (.lst upd_same (.cons w1.dx (.cons w2.dx (.cons w3.dx (.cons (.tup (q _ _ har) (ints_dx _)) (.cons (.str _) .nil)))))) (turnD_noDict _), turnD_shaped G hw10.2.1, turnD_shaped G hw10.2.1, _, rfl, kQ _ _ ⟨?_, q⟩⟩
        rw [turnD_eqv] <;> rfl
      rintro HE ⟨_, sE⟩
      replace pg := pg.grow sE
      replace pa4 := pa4.grow sE
      replace mm := mm.ofSame sE
      replace g1 := sE _ _ g1
      replace pgT := pgT.grow sE
      replace t1 := sE _ _ t1
      refine go_nx ?_
      refine a_if (fun b H' => b = false ∧ Same HE H') (fun Q' kQ => ?_) (fun _ h => nomatch h.1) ?_
      · refine ⟨_, rfl, tb, dxT, _, rfl, t1, pgF_no, tb, G.mir, rfl, pgT, by rw [G.mir_ok]; exact okG, smG.mir, fun b HF sF pgF' => ?_⟩
        obtain ⟨dxF, _, _, _, _, b1, _⟩ := pgF'.ex
        refine ⟨_, rfl, b, dxF, _, rfl, b1, .ins (sF _ _ g1), b, _, G, rfl, pgF', .inl ⟨a, G, rfl, pg.grow sF, _, rfl, ?_⟩⟩
        rw [decide_eq_true rfl]
        exact ⟨_, rfl, kQ _ _ ⟨rfl, sF⟩⟩
      rintro HF ⟨_, sF⟩
      replace pg := pg.grow sF
      replace pa4 := pa4.grow sF
      replace mm := mm.ofSame sF
      replace g1 := sF _ _ g1
      refine go_nx ?_
      have no : Nm ("other" : Str) := nm_of (by simp)
      have okO : ({ G with after := ("other" : Str) } : Pg).okB = true := by
        have := okG
        unfold Pg.okB Pg.ars at this ⊢
        rw [Bool.and_eq_true, Bool.and_eq_true] at this
        rw [this.1, no.ok, this.2.2] <;> rfl
      refine a_set (fun v H' => ∃ b, v = .ref b ∧ PageAt C H' b { G with after := ("other" : Str) } ∧ Same HF H') (fun Q' kQ => ?_) ?_
      · refine ⟨_, rfl, _, rfl, t, r, f', p, { G with after := ("other" : Str) }, rfl, pa4, ⟨smG.r, smG.f, smG.p, smG.n, smG.w, by show ("other" : Str).length ≤ 100; decide +kernel⟩, fun _ b HG sG pgG => kQ _ _ ⟨b, rfl, pgG, sG⟩, fun z => (by rw [okO] at z; cases z)⟩
      rintro _ HG ⟨ob, rfl, pgO, sG⟩
      refine st_norm ([some (.ref d), some (.str G.note), some (.ref t), some (.str G.after), some (.str G.wh), some (.ref r), some (.ref f'), some (.ref p), some (.ref a), some (.ref ar), some (.bl true), some (.str G.line), some (.ref l7), some (.ref tb), some (.ref ob)]) rfl ?_
      replace pg := pg.grow sG
      replace pa4 := pa4.grow sG
      replace mm := mm.ofSame sG
      replace g1 := sG _ _ g1
      refine ⟨_, rfl, ?_⟩
      refine ⟨_, rfl, _, rfl, _, rfl, t, r, f', p, G, rfl, pa4, smG, fun _ b HH sH pgH => ?_, fun z => (by rw [okG] at z; cases z)⟩
      obtain ⟨dxH, _, _, _, _, b1, _⟩ := pgH.ex
      refine ⟨a, dx, _, rfl, sH _ _ g1, .ins b1, a, _, G, rfl, pg.grow sH, .inl ⟨b, G, rfl, pgH, ?_⟩⟩
      rw [decide_eq_true rfl]
      refine ⟨_, rfl, iteT ?_⟩
      replace pgO := pgO.grow sH
      obtain ⟨dxO, _, _, _, _, o1, _⟩ := pgO.ex
      refine ⟨_, rfl, _, rfl, a, dx, _, rfl, sH _ _ g1, .ins o1, a, _, G, rfl, pg.grow sH, .inl ⟨ob, { G with after := ("other" : Str) }, rfl, pgO, ?_⟩⟩
      rw [decide_eq_false (fun e => lo (line_after e))]
      refine ⟨_, rfl, _, rfl, iteT ?_⟩
      refine ⟨_, rfl, _, rfl, a, dx, _, rfl, sH _ _ g1, .str _, a, _, G, rfl, pg.grow sH, .inr (.inl ⟨_, rfl, ?_⟩)⟩
      refine ⟨_, rfl, _, rfl, iteT ?_⟩
      refine ⟨_, rfl, a, dx, _, rfl, sH _ _ g1, .non, a, _, G, rfl, pg.grow sH, .inr (.inr ⟨rfl, ?_⟩)⟩
      exact ⟨_, rfl, k _ (mm.ofSame sH)⟩
end
end G

set_option Elab.async false
set_option linter.all false
set_option maxRecDepth 100000
set_option maxHeartbeats 4000000
namespace G
open PySem PySem.Spec PyProof.Rows L2
theorem Mv.out {d : Addr} {H H' : Hp} {o : HO} (n : H d = none) (m : Mv d (upd H d o) H') : Same H H' := fun b u e => by
  have nb : b ≠ d := ne_of_none e n
  exact m.get nb (by rw [upd_ne nb]; exact e)
/-! ## the law -/
def spLaw (K : PySem.W.Frag) : Sp := fun vs H Q _ => ∃ (a : Addr) (ns : List Int), vs = [.ref a] ∧ SqL K H a (ns.map V.int) ∧ ns.length ≤ 63 ∧ ∀ H', Q (.bl true) H'
def pg0 : Pg := ⟨"m", "last", (4, 0), (2, 2), (0, 0), "m"⟩
def pg1 : Pg := ⟨"m", "inner", (4, 1), (2, 1), (1, 0), "m"⟩
theorem pg0_line : pg0.line = "page m last 4.0 to 2.2 pass 0.0 then m" := by decide +kernel
theorem pg0_ok : pg0.okB = true := by decide +kernel
theorem pg1_ok : pg1.okB = true := by decide +kernel
theorem pg0_ars : pg0.ars = [2, 3] := by decide +kernel
theorem pg1_ars : pg1.ars = [2] := by decide +kernel
theorem pg0_sm : pg0.Sm := ⟨⟨by decide, by decide, by decide, by decide⟩, ⟨by decide, by decide, by decide, by decide⟩, ⟨by decide, by decide, by decide, by decide⟩, by decide +kernel, by decide +kernel, by decide +kernel⟩
theorem pg1_sm : pg1.Sm := ⟨⟨by decide, by decide, by decide, by decide⟩, ⟨by decide, by decide, by decide, by decide⟩, ⟨by decide, by decide, by decide, by decide⟩, by decide +kernel, by decide +kernel, by decide +kernel⟩
def endD : PyData := .list [intsD [2, 3], placeD pg0, intsD [2]]
section
variable {P : Program} {w : World} {K : PySem.W.Frag} {mg : Str → Option Value} {C CI aS : Addr}
theorem c_law {fa : Addr} (T : Txt K mg) (TS : TxtW K mg aS) (TP : PTxt K mg C) (IV : InvP K mg CI) (hne : PySem.W.findIn K (.ref C) "__ne__" = some (some (.builtin "object.__ne__"))) (hf : mg "law" = some (.ref fa))
    (D_is_integer : DefAt K mg "is_integer" s_is_integer ["value"])
    (D_is_name : DefAt K mg "is_name" s_is_name ["value"])
    (D_integer_of : DefAt K mg "integer_of" s_integer_of ["text"])
    (D_words_of : DefAt K mg "words_of" s_words_of ["line"])
    (D_is_pair : DefAt K mg "is_pair" s_is_pair ["value"])
    (D_is_pair_within : DefAt K mg "is_pair_within" s_is_pair_within ["value", "least", "greatest"])
    (D_is_form : DefAt K mg "is_form" s_is_form ["value"])
    (D_write_pair : DefAt K mg "write_pair" s_write_pair ["pair"])
    (D_pair_of : DefAt K mg "pair_of" s_pair_of ["text"])
    (D_mirrored_pair : DefAt K mg "mirrored_pair" s_mirrored_pair ["pair"])
    (D_is_passed : DefAt K mg "is_passed" s_is_passed ["value"])
    (D_is_where : DefAt K mg "is_where" s_is_where ["value"])
    (D_is_raw : DefAt K mg "is_raw" s_is_raw ["value"])
    (D__arities_for : DefAt K mg "_arities_for" s__arities_for ["where", "raw", "form", "passed"])
    (D__fits : DefAt K mg "_fits" s__fits ["arity", "where", "raw", "form", "passed"])
    (D__law_dice : DefAt K mg "_law_dice" s__law_dice ["_law_script", "_law_spot"])
    (D__law_roll : DefAt K mg "_law_roll" s__law_roll ["_law_dice_here", "_law_total"])
    (D__law_pick : DefAt K mg "_law_pick" s__law_pick ["_law_dice_here", "_law_items"])
    (D__law_pair_text : DefAt K mg "_law_pair_text" s__law_pair_text ["_law_pair"])
    (D__law_page_text : DefAt K mg "_law_page_text" s__law_page_text ["_law_place", "_law_page"])
    (D__law_arities : DefAt K mg "_law_arities" s__law_arities ["_law_where", "_law_raw", "_law_form", "_law_passed"])
    (D__law_parts : DefAt K mg "_law_parts" s__law_parts ["_law_dice_here"])
    (D__law_called : DefAt K mg "_law_called" s__law_called ["_law_note", "_law_parts_here", "_law_later"])
    (D__law_right : DefAt K mg "_law_right" s__law_right ["_law_dice_here"])
    (D_law : DefAt K mg "law" s_law ["_law_script"])
    (I_init : IniAt K C "Page.__init__" s_Page_init ["self", "note", "where", "raw", "form", "passed", "after"])
    (I_from_line : CmAt K C "from_line" "Page.from_line" s_Page_from_line ["cls", "line"])
    (I_note : PrpAt K C "note" "Page.note" s_Page_note)
    (I_where : PrpAt K C "where" "Page.where" s_Page_where)
    (I_raw : PrpAt K C "raw" "Page.raw" s_Page_raw)
    (I_form : PrpAt K C "form" "Page.form" s_Page_form)
    (I_passed : PrpAt K C "passed" "Page.passed" s_Page_passed)
    (I_after : PrpAt K C "after" "Page.after" s_Page_after)
    (I_line : PrpAt K C "line" "Page.line" s_Page_line)
    (I_place : PrpAt K C "place" "Page.place" s_Page_place)
    (I_arities : PrpAt K C "arities" "Page.arities" s_Page_arities)
    (I_mirrored : MetAt K C "mirrored" "Page.mirrored" s_Page_mirrored ["self"])
    (I_eq : MetAt K C "__eq__" "Page.__eq__" s_Page_eq ["self", "other"])
    (I_str : MetAt K C "__str__" "Page.__str__" s_Page_str ["self"]) :
    ∃ fd : FuncData, (∀ (s : Shared) (u : Value), BindsTo s fd ⟨[u], []⟩ [("_law_script", u)]) ∧
      ∀ base : Heap, K.In base → base.Ns mainGlobals mg → FnG P w K mg base CX0 12 fa fd ["_law_script"] (spLaw K) := by
  refine lawOk hf D_law sc_law (fun xs H Q E h => ?_) (fun base hK hN f cdv A out s H xs Q E hgd hr h => ?_)
  · obtain ⟨a, ns, rfl, _⟩ := h
    rfl
  · obtain ⟨a, ns, rfl, hS, hlen, k⟩ := h
    have nd := sc_law.nd
    have C_is_integer : CalQ false P w K mg base 1 "is_integer" ["value"] (spJ intB) := c_is_integer T D_is_integer
    have C_is_name : CalQ false P w K mg base 1 "is_name" ["value"] (spIsName K) := c_is_name T D_is_name
    have C_integer_of : CalQ false P w K mg base 1 "integer_of" ["text"] spWhole := c_integer_of T D_integer_of
    have C_words_of : CalQ false P w K mg base 1 "words_of" ["line"] spWords := c_words_of T D_words_of
    have C_is_pair : CalQ false P w K mg base 2 "is_pair" ["value"] (spJ pairB) := c_is_pair T C_is_integer D_is_pair
    have C_is_pair_within : CalQ false P w K mg base 3 "is_pair_within" ["value", "least", "greatest"] spPairWithin := c_is_pair_within T C_is_pair D_is_pair_within
    have C_is_form : CalQ false P w K mg base 4 "is_form" ["value"] (spJ formB) := c_is_form T C_is_pair_within D_is_form
    have C_write_pair : CalQ false P w K mg base 3 "write_pair" ["pair"] spWritePair := c_write_pair T C_is_pair D_write_pair
    have C_pair_of : CalQ false P w K mg base 3 "pair_of" ["text"] spPairOf := c_pair_of T C_integer_of C_is_pair D_pair_of
    have C_mirrored_pair : CalQ false P w K mg base 1 "mirrored_pair" ["pair"] spSwapP := c_mirrored_pair T D_mirrored_pair
    have C_is_passed : CalQ false P w K mg base 4 "is_passed" ["value"] (spJ passB) := c_is_passed T C_is_pair_within D_is_passed
    have C_is_where : CalQ false P w K mg base 1 "is_where" ["value"] spWhere := c_is_where TS D_is_where
    have C_is_raw : CalQ false P w K mg base 4 "is_raw" ["value"] (spJ rawB) := c_is_raw T C_is_pair_within D_is_raw
    have C__fits : CalQ false P w K mg base 1 "_fits" ["arity", "where", "raw", "form", "passed"] spFits := c_fits T D__fits
    have C__arities_for : CalQ false P w K mg base 5 "_arities_for" ["where", "raw", "form", "passed"] spArs := c_arities_for T C_is_where C_is_raw C_is_form C_is_passed C__fits D__arities_for
    have MK_Page : MakQ P w K mg base 6 "Page" C ["self", "note", "where", "raw", "form", "passed", "after"] (spInit C CI) := x_init T TP IV.x C__arities_for C_is_name C_write_pair I_init
    have CM_from_line : CmQ P w K mg base 8 C "from_line" ["cls", "line"] (spFromLine C) := m_from_line T TP IV.x C_words_of C_pair_of MK_Page I_from_line
    have P_note : PrpQ P w K mg base 1 C "note" (getSp C "_note") := p_note TP I_note
    have P_where : PrpQ P w K mg base 1 C "where" (getSp C "_where") := p_where TP I_where
    have P_raw : PrpQ P w K mg base 1 C "raw" (getSp C "_raw") := p_raw TP I_raw
    have P_form : PrpQ P w K mg base 1 C "form" (getSp C "_form") := p_form TP I_form
    have P_passed : PrpQ P w K mg base 1 C "passed" (getSp C "_passed") := p_passed TP I_passed
    have P_after : PrpQ P w K mg base 1 C "after" (getSp C "_after") := p_after TP I_after
    have P_line : PrpQ P w K mg base 1 C "line" (getSp C "_line") := p_line TP I_line
    have P_place : PrpQ P w K mg base 1 C "place" (spPlace C) := p_place TP I_place
    have P_arities : PrpQ P w K mg base 1 C "arities" (getSp C "_arities") := p_arities TP I_arities
    have M_mirrored : MthQ P w K mg base 8 C "mirrored" ["self"] (spMir C) := m_mirrored T TP C_mirrored_pair MK_Page I_mirrored
    have EQ_Page : EqQ P w K mg base 1 C (spPageEq C) := m_eq T TP hne I_eq
    have ST_Page : StrQ P w K mg base 1 C (spPageStr C) := m_str T TP I_str
    have C__law_dice : CalG P w K mg base 1 "_law_dice" ["_law_script", "_law_spot"] (spDice K) := c_dice T D__law_dice
    have C__law_roll : CalG P w K mg base 1 "_law_roll" ["_law_dice_here", "_law_total"] spRoll := c_roll T D__law_roll
    have C__law_pick : CalG P w K mg base 2 "_law_pick" ["_law_dice_here", "_law_items"] (spPick K) := c_pick T C__law_roll D__law_pick
    have C__law_pair_text : CalG P w K mg base 1 "_law_pair_text" ["_law_pair"] spPairText := c_pair_text T D__law_pair_text
    have C__law_page_text : CalG P w K mg base 2 "_law_page_text" ["_law_place", "_law_page"] spPageText := c_page_text T C__law_pair_text D__law_page_text
    have C__law_arities : CalG P w K mg base 1 "_law_arities" ["_law_where", "_law_raw", "_law_form", "_law_passed"] spLawArs := c_law_ars T D__law_arities
    have C__law_parts : CalG P w K mg base 3 "_law_parts" ["_law_dice_here"] spParts := c_parts T C__law_roll C__law_pick D__law_parts
    have C__law_called : CalG P w K mg base 8 "_law_called" ["_law_note", "_law_parts_here", "_law_later"] (spCalled C) := c_called T TP IV MK_Page D__law_called
    have C__law_right : CalG P w K mg base 10 "_law_right" ["_law_dice_here"] spRight := c_right T TP C__law_pick C__law_parts C__law_called C__law_arities C__law_page_text P_note P_where P_raw P_form P_passed P_after P_line P_arities P_place M_mirrored CM_from_line EQ_Page ST_Page D__law_right
    refine ⟨_, (pss_cons (ps_for PassesOwn.never rfl (pi_range1 rfl T.range (pa_cons (pe_callB (call_max2 rfl) (by rfl) T.max (by decide +kernel) (pa_cons pe_int (pa_cons (pe_callB (call_min2 rfl) (by rfl) T.min (by decide +kernel) (pa_cons pe_int (pa_cons (pe_callB call_len_seq (by rfl) T.len (by decide +kernel) (pa_cons (pv 0) pa_nil)) pa_nil))) pa_nil))) pa_nil)) (pg_name (i := 1) nd rfl (.inl rfl)) (pss_cons (ps_set (i := 2) nd rfl (.inl rfl) (pe_k C__law_dice hgd hr (by decide) rfl (pa_cons (pv 0) (pa_cons (pv 1) pa_nil))))
        (pss_one (ps_for PassesOwn.never rfl (pi_range1 rfl T.range (pa_cons pe_int pa_nil)) (pg_name (i := 3) nd rfl (.inl rfl)) (pss_one (ps_if (pt_not (pt_val (pe_k C__law_right hgd hr (by decide) rfl (pa_cons (pv 2) pa_nil)))) (pss_one (ps_ret pe_bl)) pss_nil))))))
      (pss_cons (ps_set (i := 4) nd rfl (.inl rfl) (pe_cmS CM_from_line px0 hr (by decide) (pe_gv rfl TP.g) (pa_cons pe_str pa_nil)))
      (pss_cons (ps_set (i := 5) nd rfl (.inl rfl) (pe_mkS MK_Page px0 hr (by decide) rfl (pa_cons pe_str (pa_cons pe_str (pa_cons (pe_tup (pa_cons pe_int (pa_cons pe_int pa_nil))) (pa_cons (pe_tup (pa_cons pe_int (pa_cons pe_int pa_nil))) (pa_cons (pe_tup (pa_cons pe_int (pa_cons pe_int pa_nil))) (pa_cons pe_str pa_nil))))))))
      (pss_one (ps_ret (pe_cmpR (op_eqD hr.units) (pe_lst (pa_cons (pe_pr P_arities hr (by decide) (pv 4)) (pa_cons (pe_pr P_place hr (by decide) (pv 4)) (pa_cons (pe_pr P_arities hr (by decide) (pv 5)) pa_nil)))) (pe_lst (pa_cons (pe_tup (pa_cons pe_int (pa_cons pe_int pa_nil))) (pa_cons (pe_tup (pa_cons pe_str (pa_cons pe_str (pa_cons (pe_tup (pa_cons pe_int (pa_cons pe_int pa_nil))) pa_nil)))) (pa_cons (pe_tup (pa_cons pe_int pa_nil)) pa_nil)))) (nomark _))))))), ?_⟩
    refine ⟨_, rfl, _, _, rfl, .inl hS, _, _, rfl, _, _, rfl, _, rfl, ?_, ?_, ?_⟩
    · rw [List.length_map]; split <;> split <;> omega
    · rw [List.length_map]; split <;> split <;> omega
    refine for_range (fun i σ H' => ∃ v1 v2 v3 v4 v5, σ = [some (.ref a), v1, v2, v3, v4, v5] ∧ Same H H') ?_ ?_ ?_
    · exact ⟨_, _, _, _, _, rfl, Same.refl _⟩
    · rintro i σ H0 hi ⟨v1, v2, v3, v4, v5, rfl, s0⟩
      refine a_set (fun v H' => ∃ d, v = .ref d ∧ DiceAt H' d ∧ ∀ H2, Mv d H' H2 → Same H0 H2) (fun Q' kQ => ?_) ?_
      · refine ⟨_, rfl, _, rfl, a, ns, i, (by show [V.ref a, V.int (0 + (i : Int))] = _; rw [Int.zero_add]), s0.seq hS, Nat.le_trans hlen (by decide), fun d l0 t0 c0 nd0 => ?_⟩
        exact kQ _ _ ⟨d, rfl, ⟨_, _, _, upd_same⟩, fun H2 m => Mv.out nd0 m⟩
      rintro _ HD ⟨d, rfl, dd, mz⟩
      refine ⟨6, rfl, by decide, by decide, for_range (fun j σ H' => ∃ w1 w3, σ = [some (.ref a), w1, some (.ref d), w3, v4, v5] ∧ Mv d HD H') ?_ ?_ ?_⟩
      · exact ⟨_, _, rfl, Mv.refl dd⟩
      · rintro j σ H1 hj ⟨w1, w3, rfl, m1⟩
        refine a_if1 (fun b H' => b = false ∧ Mv d H1 H') (fun Q' kQ => ?_) (fun H' h => nomatch h.1) (fun H2 h => ⟨_, _, rfl, m1.trans h.2⟩)
        exact ⟨_, rfl, d, rfl, m1.dice, fun H2 m2 => ⟨true, rfl, kQ _ _ ⟨rfl, m2⟩⟩⟩
      · rintro σ H1 ⟨w1, w3, rfl, m1⟩
        exact ⟨_, _, _, _, _, rfl, s0.trans (mz _ m1)⟩
    · rintro σ H0 ⟨v1, v2, v3, v4, v5, rfl, s0⟩
      refine go_nx ?_
      refine a_set (fun v H' => ∃ p, v = .ref p ∧ PageAt C H' p pg0) (fun Q' kQ => ?_) ?_
      · exact ⟨rfl, pg0, (by rw [pg0_line]), pg0_ok, pg0_sm, fun p H1 s1 h1 => kQ _ _ ⟨p, rfl, h1⟩⟩
      rintro _ H1 ⟨p, rfl, hp⟩
      refine st_norm ([some (.ref a), v1, v2, v3, some (.ref p), v5]) rfl ?_
      refine a_set (fun v H' => ∃ o, v = .ref o ∧ PageAt C H' o pg1 ∧ Same H1 H') (fun Q' kQ => ?_) ?_
      · refine ⟨(by show 2 ≤ sizeLine; decide), fun t1 n1 => ⟨(by show 2 ≤ sizeLine; decide), fun t2 n2 => ⟨(by show 2 ≤ sizeLine; decide), fun t3 n3 => fun x dy nx ny nyx => ?_⟩⟩⟩
        have q1 := same_new (H := H1) (o := .tup [.int 4, .int 1]) n1
        have q2 := same_new (o := .tup [.int 2, .int 1]) n2
        have q3 := same_new (o := .tup [.int 1, .int 0]) n3
        have q4 : Same (upd (upd (upd H1 t1 (.tup [.int 4, .int 1])) t2 (.tup [.int 2, .int 1])) t3 (.tup [.int 1, .int 0])) (upd (upd (upd (upd (upd H1 t1 (.tup [.int 4, .int 1])) t2 (.tup [.int 2, .int 1])) t3 (.tup [.int 1, .int 0])) dy (.own x)) x (.ins C dy [])) := (same_new ny).trans (same_new (by rw [upd_ne (Ne.symm nyx)]; exact nx))
        have q := ((q1.trans q2).trans q3).trans q4
        have xn : H1 x = none := ((q1.trans q2).trans q3).free nx
        refine ⟨x, dy, t1, t2, t3, pg1, rfl, upd_same, q4 _ _ (q3 _ _ (q2 _ _ upd_same)), q4 _ _ (q3 _ _ upd_same), q4 _ _ upd_same, pg1_sm, fun _ H7 o7 h7 => ⟨rfl, kQ _ _ ⟨x, rfl, h7, fun b o e => o7 b o (fun e2 => by rw [e2, xn] at e; cases e) (q _ _ e)⟩⟩, fun z => by rw [pg1_ok] at z; cases z⟩
      rintro _ H2 ⟨o, rfl, ho, s2⟩
      refine st_norm ([some (.ref a), v1, v2, v3, some (.ref p), some (.ref o)]) rfl ?_
      replace hp := hp.grow s2
      obtain ⟨dx, ar, r, f', p', g1, g2, g3, g4, g5⟩ := hp.ex
      obtain ⟨dx2, ar2, r2, f2, p2, h1, h2, h3, h4, h5⟩ := ho.ex
      rw [pg0_ars] at g2
      rw [pg1_ars] at h2
      refine a_ret (fun v _ => v = .bl true) (fun Q' kQ => ?_) (fun v H2 e => by rw [e]; exact k H2)
      refine ⟨_, rfl, p, dx, _, rfl, g1, p, dx, _, _, rfl, g1, pgF_ars, _, rfl, p, dx, _, rfl, g1, p, pg0, rfl, hp, fun t3 r3 H3 s3 ht3 hr3 => ?_⟩
      refine ⟨_, rfl, o, dx2, _, rfl, s3 _ _ h1, o, dx2, _, _, rfl, s3 _ _ h1, pgF_ars, (by show 3 ≤ sizeLine; decide), fun l1 n1 => ?_⟩
      have u1 := same_new (H := H3) (o := .lst [.ref ar, .ref t3, .ref ar2]) n1
      have d1 : Dx (upd H3 l1 (.lst [.ref ar, .ref t3, .ref ar2])) (.ref l1) endD := .lst upd_same (.cons (.tup (u1 _ _ (s3 _ _ g2)) (ints_dx _)) (.cons ((place_dx ht3 hr3).grow u1) (.cons (.tup (u1 _ _ (s3 _ _ h2)) (ints_dx _)) .nil)))
      refine ⟨(by show 2 ≤ sizeLine; decide), fun q1 m1 => ⟨(by show 2 ≤ sizeLine; decide), fun q2 m2 => ⟨(by show 3 ≤ sizeLine; decide), fun q3 m3 => ⟨(by show 1 ≤ sizeLine; decide), fun q4 m4 => ⟨(by show 3 ≤ sizeLine; decide), fun l2 n2 => ?_⟩⟩⟩⟩⟩
      have w1 := same_new (o := .tup [.int 2, .int 3]) m1
      have w2 := same_new (o := .tup [.int 4, .int 0]) m2
      have w3 := same_new (o := .tup [.str "m", .str "last", .ref q2]) m3
      have w4 := same_new (o := .tup [.int 2]) m4
      have w5 := same_new (o := .lst [.ref q1, .ref q3, .ref q4]) n2
      have hq2 := w3 _ _ (upd_same (H := (upd (upd H3 l1 (.lst [.ref ar, .ref t3, .ref ar2])) q1 (.tup [.int 2, .int 3]))) (a := q2) (o := .tup [.int 4, .int 0]))
      refine ⟨endD, endD, Dx.dp (((((d1.grow w1).grow w2).grow w3).grow w4).grow w5) (by decide +kernel), Dx.dp (.lst upd_same (.cons (.tup (w5 _ _ (w4 _ _ (w3 _ _ (w2 _ _ upd_same)))) (.cons (.int 2) (.cons (.int 3) .nil))) (.cons (.tup (w5 _ _ (w4 _ _ upd_same)) (.cons (.str _) (.cons (.str _) (.cons (.tup (w5 _ _ (w4 _ _ hq2)) (.cons (.int 4) (.cons (.int 0) .nil))) .nil)))) (.cons (.tup (w5 _ _ upd_same) (.cons (.int 2) .nil)) .nil)))) (by decide +kernel), (by decide +kernel), (by decide +kernel), kQ _ _ (congrArg V.bl (by decide +kernel))⟩
end
end G

set_option Elab.async false
set_option linter.all false
namespace G
open PySem PySem.Spec PyProof.Rows L2
theorem walk_fingerbooks_k14_pages_told {q : Program} {loose : List Str} {XP : (Str → Option Value) → Heap → Prop} {YP : World → Heap → Prop} {d : DefRec} {K : Params → PySem.W.Frag}
    (hdf : d.params.defaults = []) (hY : ∀ (w : World) (h : Heap), YP w h → (K w.params).In h)
    (F : ∀ (w : World) (mg : Str → Option Value) (fa : Addr) (h : Heap), (K w.params).In h → h.Ns mainGlobals mg → mg d.name = some (.ref fa) →
      ∃ fd : FuncData, (∀ (s : Shared) (u : Value), BindsTo s fd ⟨[u], []⟩ [("_law_script", u)]) ∧
        ∀ base : Heap, (K w.params).In base → base.Ns mainGlobals mg → FnG PySem.Challenge.rw_fingerbooks_k14_pages_told.prog w (K w.params) mg base CX0 12 fa fd ["_law_script"] (spLaw (K w.params))) :
    PySem.W.WalkO q loose XP YP PySem.Challenge.rw_fingerbooks_k14_pages_told.row.toRowW d [] (fun f vs => PySem.call f vs) :=
  endG (n := 63) (k := 12) (sp := fun K => spLaw K) rfl (by decide) hdf ⟨rfl, by decide, by decide⟩ hY F (fun K H a ns hl hS => ⟨a, ns, rfl, hS, hl, fun _ => rfl⟩)
theorem TxtW.made {K : PySem.W.Frag} {mg : Str → Option Value} {aS : Addr} {o : Obj} {t1 t2 : Tok} {n : Nat} (g : mg "WHERE" = some (.ref aS)) (l : K.lookup aS = some o) (c : o.cls = .type "tuple") (d : o.dict = none) (e : o.data = .seq #[.str "inner" t1, .str "last" t2] n) : TxtW K mg aS :=
  ⟨⟨_, g, rfl⟩, o, t1, t2, n, l, c, d, e⟩
theorem PTxt.made {K : PySem.W.Frag} {mg : Str → Option Value} {C : Addr} (g : mg "Page" = some (.ref C)) (cl : Cls K C) (n1 : PySem.W.findIn K (.ref C) "_arities" = some none) (n2 : PySem.W.findIn K (.ref C) "_note" = some none) (n3 : PySem.W.findIn K (.ref C) "_where" = some none) (n4 : PySem.W.findIn K (.ref C) "_raw" = some none) (n5 : PySem.W.findIn K (.ref C) "_form" = some none) (n6 : PySem.W.findIn K (.ref C) "_passed" = some none) (n7 : PySem.W.findIn K (.ref C) "_after" = some none) (n8 : PySem.W.findIn K (.ref C) "_line" = some none)
    (ca : PySem.W.findIn K (.ref C) "__class__" = some (some (.builtin "object.__class__"))) (cn : PySem.W.specialIn K (.builtin "object.__class__") "__get__" = some (some (.builtin "getset_descriptor.__get__"))) (ck : PySem.W.takesIn K (.builtin "object.__class__") = some true)
    (cm : PySem.W.mroIn K C (.type "object") = some true) (kP : PySem.W.kitOne K (.ref C) (.ref C) = some true) (kS : PySem.W.kitOne K (.type "str") (.ref C) = some false) (kN : PySem.W.kitOne K (.type "NoneType") (.ref C) = some false) : PTxt K mg C :=
  ⟨cl, ⟨_, g, rfl⟩, g, n1, n2, n3, n4, n5, n6, n7, n8, ca, cn, ck, cm, kP, kS, kN⟩
end G
open PySem PySem.W PyProof.Rows in
set_option maxRecDepth 100000 in
set_option maxHeartbeats 0 in
theorem PySem.Challenge.cw_fingerbooks_k14_pages_told_holds : PySem.Challenge.rw_fingerbooks_k14_pages_told.Holds := by
  w_on; o_law; k_head; (case hw => w_witness2)
  k_fill
  refine G.walk_fingerbooks_k14_pages_told rfl (fun w h Y => PySem.W.kIn_of Y) ?F
  case F =>
    intro w mg fa h KX gl hmg
    refine' G.c_law ⟨PySem.W.mg_none_of KX gl ?z1, PySem.W.mg_none_of KX gl ?z2, PySem.W.mg_none_of KX gl ?z3, PySem.W.mg_none_of KX gl ?z4, PySem.W.mg_none_of KX gl ?z5, PySem.W.mg_none_of KX gl ?z6, PySem.W.mg_none_of KX gl ?z7, PySem.W.mg_none_of KX gl ?z8, PySem.W.mg_none_of KX gl ?z9, PySem.W.mg_none_of KX gl ?z10, PySem.W.mg_none_of KX gl ?z11, PySem.W.mg_none_of KX gl ?z12, ⟨_, PySem.W.mg_of KX gl ?z13, ?z14⟩, ⟨_, PySem.W.mg_of KX gl ?z15, ?z16⟩, ⟨_, PySem.W.mg_of KX gl ?z17, ?z18⟩, ⟨_, PySem.W.mg_of KX gl ?z19, ?z20⟩, ⟨_, PySem.W.mg_of KX gl ?z21, ?z22⟩⟩ (G.TxtW.made (PySem.W.mg_of KX gl ?z23) ?z24 ?z25 ?z26 ?z27) (G.PTxt.made (PySem.W.mg_of KX gl ?z28) ⟨?z29, ?z30, ?z31, ?z32⟩ ?z33 ?z34 ?z35 ?z36 ?z37 ?z38 ?z39 ?z40 ?z41 ?z42 ?z43 ?z44 ?z45 ?z46 ?z47) ⟨⟨PySem.W.mg_of KX gl ?z48, ?z49, ?z50, ?z51, ?z52⟩, ?z53⟩ ?z54 hmg (G.defAt KX gl ?z59 ?z55 ?z56 ?z57 ?z58) (G.defAt KX gl ?z64 ?z60 ?z61 ?z62 ?z63) (G.defAt KX gl ?z69 ?z65 ?z66 ?z67 ?z68) (G.defAt KX gl ?z74 ?z70 ?z71 ?z72 ?z73) (G.defAt KX gl ?z79 ?z75 ?z76 ?z77 ?z78) (G.defAt KX gl ?z84 ?z80 ?z81 ?z82 ?z83) (G.defAt KX gl ?z89 ?z85 ?z86 ?z87 ?z88) (G.defAt KX gl ?z94 ?z90 ?z91 ?z92 ?z93) (G.defAt KX gl ?z99 ?z95 ?z96 ?z97 ?z98) (G.defAt KX gl ?z104 ?z100 ?z101 ?z102 ?z103) (G.defAt KX gl ?z109 ?z105 ?z106 ?z107 ?z108) (G.defAt KX gl ?z114 ?z110 ?z111 ?z112 ?z113) (G.defAt KX gl ?z119 ?z115 ?z116 ?z117 ?z118) (G.defAt KX gl ?z124 ?z120 ?z121 ?z122 ?z123) (G.defAt KX gl ?z129 ?z125 ?z126 ?z127 ?z128) (G.defAt KX gl ?z134 ?z130 ?z131 ?z132 ?z133) (G.defAt KX gl ?z139 ?z135 ?z136 ?z137 ?z138) (G.defAt KX gl ?z144 ?z140 ?z141 ?z142 ?z143) (G.defAt KX gl ?z149 ?z145 ?z146 ?z147 ?z148) (G.defAt KX gl ?z154 ?z150 ?z151 ?z152 ?z153) (G.defAt KX gl ?z159 ?z155 ?z156 ?z157 ?z158) (G.defAt KX gl ?z164 ?z160 ?z161 ?z162 ?z163) (G.defAt KX gl ?z169 ?z165 ?z166 ?z167 ?z168) (G.defAt KX gl ?z174 ?z170 ?z171 ?z172 ?z173) (G.defAt KX gl ?z179 ?z175 ?z176 ?z177 ?z178) (G.iniAt ?z180 ?z181 ?z182 ?z183 ?z184 ?z185 ?z186 ?z187) (G.cmAt (mc := .type "type") ?z188 ?z189 ?z190 ?z191 ?z192 ?z193 ?z194 ?z195 ?z196) (G.prpAt ?z197 ?z198 ?z199 ?z200 ?z201 ?z202 ?z203 ?z204) (G.prpAt ?z205 ?z206 ?z207 ?z208 ?z209 ?z210 ?z211 ?z212) (G.prpAt ?z213 ?z214 ?z215 ?z216 ?z217 ?z218 ?z219 ?z220) (G.prpAt ?z221 ?z222 ?z223 ?z224 ?z225 ?z226 ?z227 ?z228) (G.prpAt ?z229 ?z230 ?z231 ?z232 ?z233 ?z234 ?z235 ?z236) (G.prpAt ?z237 ?z238 ?z239 ?z240 ?z241 ?z242 ?z243 ?z244) (G.prpAt ?z245 ?z246 ?z247 ?z248 ?z249 ?z250 ?z251 ?z252) (G.prpAt ?z253 ?z254 ?z255 ?z256 ?z257 ?z258 ?z259 ?z260) (G.prpAt ?z261 ?z262 ?z263 ?z264 ?z265 ?z266 ?z267 ?z268) (G.metAt ?z269 ?z270 ?z271 ?z272 ?z273 ?z274) (G.metAt ?z275 ?z276 ?z277 ?z278 ?z279 ?z280) (G.metAt ?z281 ?z282 ?z283 ?z284 ?z285 ?z286)
    (case z1 => k_is)
    (case z2 => k_is)
    (case z3 => k_is)
    (case z4 => k_is)
    (case z5 => k_is)
    (case z6 => k_is)
    (case z7 => k_is)
    (case z8 => k_is)
    (case z9 => k_is)
    (case z10 => k_is)
    (case z11 => k_is)
    (case z12 => k_is)
    (case z13 => k_is)
    (case z14 => exact ⟨_, rfl⟩)
    (case z15 => k_is)
    (case z16 => exact ⟨_, rfl⟩)
    (case z17 => k_is)
    (case z18 => exact ⟨_, rfl⟩)
    (case z19 => k_is)
    (case z20 => exact ⟨_, rfl⟩)
    (case z21 => k_is)
    (case z22 => exact ⟨_, rfl⟩)
    (case z23 => k_is)
    (case z24 => k_is)
    (case z25 => rfl)
    (case z26 => rfl)
    (case z27 => rfl)
    (case z28 => k_is)
    (case z29 => k_is)
    (case z30 => k_is)
    (case z31 => k_is)
    (case z32 => k_is)
    (case z33 => first | k_is | kernel_rfl)
    (case z34 => first | k_is | kernel_rfl)
    (case z35 => first | k_is | kernel_rfl)
    (case z36 => first | k_is | kernel_rfl)
    (case z37 => first | k_is | kernel_rfl)
    (case z38 => first | k_is | kernel_rfl)
    (case z39 => first | k_is | kernel_rfl)
    (case z40 => first | k_is | kernel_rfl)
    (case z41 => first | k_is | kernel_rfl)
    (case z42 => first | k_is | kernel_rfl)
    (case z43 => first | k_is | kernel_rfl)
    (case z44 => first | k_is | kernel_rfl)
    (case z45 => first | k_is | kernel_rfl)
    (case z46 => first | k_is | kernel_rfl)
    (case z47 => first | k_is | kernel_rfl)
    (case z48 => k_is)
    (case z49 => k_exc)
    (case z50 => k_is)
    (case z51 => k_is)
    (case z52 => k_is)
    (case z53 => first | k_is | kernel_rfl)
    (case z54 => k_is)
    (case z55 => k_is)
    (case z56 => k_is)
    (case z57 => k_is)
    (case z58 => k_is)
    (case z59 => exact fun us hl => match us, hl with | [_], _ => rfl)
    (case z60 => k_is)
    (case z61 => k_is)
    (case z62 => k_is)
    (case z63 => k_is)
    (case z64 => exact fun us hl => match us, hl with | [_], _ => rfl)
    (case z65 => k_is)
    (case z66 => k_is)
    (case z67 => k_is)
    (case z68 => k_is)
    (case z69 => exact fun us hl => match us, hl with | [_], _ => rfl)
    (case z70 => k_is)
    (case z71 => k_is)
    (case z72 => k_is)
    (case z73 => k_is)
    (case z74 => exact fun us hl => match us, hl with | [_], _ => rfl)
    (case z75 => k_is)
    (case z76 => k_is)
    (case z77 => k_is)
    (case z78 => k_is)
    (case z79 => exact fun us hl => match us, hl with | [_], _ => rfl)
    (case z80 => k_is)
    (case z81 => k_is)
    (case z82 => k_is)
    (case z83 => k_is)
    (case z84 => exact fun us hl => match us, hl with | [_, _, _], _ => rfl)
    (case z85 => k_is)
    (case z86 => k_is)
    (case z87 => k_is)
    (case z88 => k_is)
    (case z89 => exact fun us hl => match us, hl with | [_], _ => rfl)
    (case z90 => k_is)
    (case z91 => k_is)
    (case z92 => k_is)
    (case z93 => k_is)
    (case z94 => exact fun us hl => match us, hl with | [_], _ => rfl)
    (case z95 => k_is)
    (case z96 => k_is)
    (case z97 => k_is)
    (case z98 => k_is)
    (case z99 => exact fun us hl => match us, hl with | [_], _ => rfl)
    (case z100 => k_is)
    (case z101 => k_is)
    (case z102 => k_is)
    (case z103 => k_is)
    (case z104 => exact fun us hl => match us, hl with | [_], _ => rfl)
    (case z105 => k_is)
    (case z106 => k_is)
    (case z107 => k_is)
    (case z108 => k_is)
    (case z109 => exact fun us hl => match us, hl with | [_], _ => rfl)
    (case z110 => k_is)
    (case z111 => k_is)
    (case z112 => k_is)
    (case z113 => k_is)
    (case z114 => exact fun us hl => match us, hl with | [_], _ => rfl)
    (case z115 => k_is)
    (case z116 => k_is)
    (case z117 => k_is)
    (case z118 => k_is)
    (case z119 => exact fun us hl => match us, hl with | [_], _ => rfl)
    (case z120 => k_is)
    (case z121 => k_is)
    (case z122 => k_is)
    (case z123 => k_is)
    (case z124 => exact fun us hl => match us, hl with | [_, _, _, _], _ => rfl)
    (case z125 => k_is)
    (case z126 => k_is)
    (case z127 => k_is)
    (case z128 => k_is)
    (case z129 => exact fun us hl => match us, hl with | [_, _, _, _, _], _ => rfl)
    (case z130 => k_is)
    (case z131 => k_is)
    (case z132 => k_is)
    (case z133 => k_is)
    (case z134 => exact fun us hl => match us, hl with | [_, _], _ => rfl)
    (case z135 => k_is)
    (case z136 => k_is)
    (case z137 => k_is)
    (case z138 => k_is)
    (case z139 => exact fun us hl => match us, hl with | [_, _], _ => rfl)
    (case z140 => k_is)
    (case z141 => k_is)
    (case z142 => k_is)
    (case z143 => k_is)
    (case z144 => exact fun us hl => match us, hl with | [_, _], _ => rfl)
    (case z145 => k_is)
    (case z146 => k_is)
    (case z147 => k_is)
    (case z148 => k_is)
    (case z149 => exact fun us hl => match us, hl with | [_], _ => rfl)
    (case z150 => k_is)
    (case z151 => k_is)
    (case z152 => k_is)
    (case z153 => k_is)
    (case z154 => exact fun us hl => match us, hl with | [_, _], _ => rfl)
    (case z155 => k_is)
    (case z156 => k_is)
    (case z157 => k_is)
    (case z158 => k_is)
    (case z159 => exact fun us hl => match us, hl with | [_, _, _, _], _ => rfl)
    (case z160 => k_is)
    (case z161 => k_is)
    (case z162 => k_is)
    (case z163 => k_is)
    (case z164 => exact fun us hl => match us, hl with | [_], _ => rfl)
    (case z165 => k_is)
    (case z166 => k_is)
    (case z167 => k_is)
    (case z168 => k_is)
    (case z169 => exact fun us hl => match us, hl with | [_, _, _], _ => rfl)
    (case z170 => k_is)
    (case z171 => k_is)
    (case z172 => k_is)
    (case z173 => k_is)
    (case z174 => exact fun us hl => match us, hl with | [_], _ => rfl)
    (case z175 => k_is)
    (case z176 => k_is)
    (case z177 => k_is)
    (case z178 => k_is)
    (case z179 => exact fun us hl => match us, hl with | [_], _ => rfl)
    (case z180 => first | k_is | kernel_rfl)
    (case z181 => first | k_is | kernel_rfl)
    (case z182 => first | k_is | kernel_rfl)
    (case z183 => first | k_is | kernel_rfl)
    (case z184 => first | k_is | kernel_rfl)
    (case z185 => first | k_is | kernel_rfl)
    (case z186 => first | k_is | kernel_rfl)
    (case z187 => exact fun us hl => match us, hl with | [_, _, _, _, _, _, _], _ => rfl)
    (case z188 => k_is)
    (case z189 => k_is)
    (case z190 => k_is)
    (case z191 => k_is)
    (case z192 => k_is)
    (case z193 => k_is)
    (case z194 => k_is)
    (case z195 => k_is)
    (case z196 => exact fun us hl => match us, hl with | [_, _], _ => rfl)
    (case z197 => first | k_is | kernel_rfl)
    (case z198 => first | k_is | kernel_rfl)
    (case z199 => first | k_is | kernel_rfl)
    (case z200 => first | k_is | kernel_rfl)
    (case z201 => first | k_is | kernel_rfl)
    (case z202 => first | k_is | kernel_rfl)
    (case z203 => first | k_is | kernel_rfl)
    (case z204 => exact fun us hl => match us, hl with | [_], _ => rfl)
    (case z205 => first | k_is | kernel_rfl)
    (case z206 => first | k_is | kernel_rfl)
    (case z207 => first | k_is | kernel_rfl)
    (case z208 => first | k_is | kernel_rfl)
    (case z209 => first | k_is | kernel_rfl)
    (case z210 => first | k_is | kernel_rfl)
    (case z211 => first | k_is | kernel_rfl)
    (case z212 => exact fun us hl => match us, hl with | [_], _ => rfl)
    (case z213 => first | k_is | kernel_rfl)
    (case z214 => first | k_is | kernel_rfl)
    (case z215 => first | k_is | kernel_rfl)
    (case z216 => first | k_is | kernel_rfl)
    (case z217 => first | k_is | kernel_rfl)
    (case z218 => first | k_is | kernel_rfl)
    (case z219 => first | k_is | kernel_rfl)
    (case z220 => exact fun us hl => match us, hl with | [_], _ => rfl)
    (case z221 => first | k_is | kernel_rfl)
    (case z222 => first | k_is | kernel_rfl)
    (case z223 => first | k_is | kernel_rfl)
    (case z224 => first | k_is | kernel_rfl)
    (case z225 => first | k_is | kernel_rfl)
    (case z226 => first | k_is | kernel_rfl)
    (case z227 => first | k_is | kernel_rfl)
    (case z228 => exact fun us hl => match us, hl with | [_], _ => rfl)
    (case z229 => first | k_is | kernel_rfl)
    (case z230 => first | k_is | kernel_rfl)
    (case z231 => first | k_is | kernel_rfl)
    (case z232 => first | k_is | kernel_rfl)
    (case z233 => first | k_is | kernel_rfl)
    (case z234 => first | k_is | kernel_rfl)
    (case z235 => first | k_is | kernel_rfl)
    (case z236 => exact fun us hl => match us, hl with | [_], _ => rfl)
    (case z237 => first | k_is | kernel_rfl)
    (case z238 => first | k_is | kernel_rfl)
    (case z239 => first | k_is | kernel_rfl)
    (case z240 => first | k_is | kernel_rfl)
    (case z241 => first | k_is | kernel_rfl)
    (case z242 => first | k_is | kernel_rfl)
    (case z243 => first | k_is | kernel_rfl)
    (case z244 => exact fun us hl => match us, hl with | [_], _ => rfl)
    (case z245 => first | k_is | kernel_rfl)
    (case z246 => first | k_is | kernel_rfl)
    (case z247 => first | k_is | kernel_rfl)
    (case z248 => first | k_is | kernel_rfl)
    (case z249 => first | k_is | kernel_rfl)
    (case z250 => first | k_is | kernel_rfl)
    (case z251 => first | k_is | kernel_rfl)
    (case z252 => exact fun us hl => match us, hl with | [_], _ => rfl)
    (case z253 => first | k_is | kernel_rfl)
    (case z254 => first | k_is | kernel_rfl)
    (case z255 => first | k_is | kernel_rfl)
    (case z256 => first | k_is | kernel_rfl)
    (case z257 => first | k_is | kernel_rfl)
    (case z258 => first | k_is | kernel_rfl)
    (case z259 => first | k_is | kernel_rfl)
    (case z260 => exact fun us hl => match us, hl with | [_], _ => rfl)
    (case z261 => first | k_is | kernel_rfl)
    (case z262 => first | k_is | kernel_rfl)
    (case z263 => first | k_is | kernel_rfl)
    (case z264 => first | k_is | kernel_rfl)
    (case z265 => first | k_is | kernel_rfl)
    (case z266 => first | k_is | kernel_rfl)
    (case z267 => first | k_is | kernel_rfl)
    (case z268 => exact fun us hl => match us, hl with | [_], _ => rfl)
    (case z269 => first | k_is | kernel_rfl)
    (case z270 => first | k_is | kernel_rfl)
    (case z271 => first | k_is | kernel_rfl)
    (case z272 => first | k_is | kernel_rfl)
    (case z273 => first | k_is | kernel_rfl)
    (case z274 => exact fun us hl => match us, hl with | [_], _ => rfl)
    (case z275 => first | k_is | kernel_rfl)
    (case z276 => first | k_is | kernel_rfl)
    (case z277 => first | k_is | kernel_rfl)
    (case z278 => first | k_is | kernel_rfl)
    (case z279 => first | k_is | kernel_rfl)
    (case z280 => exact fun us hl => match us, hl with | [_, _], _ => rfl)
    (case z281 => first | k_is | kernel_rfl)
    (case z282 => first | k_is | kernel_rfl)
    (case z283 => first | k_is | kernel_rfl)
    (case z284 => first | k_is | kernel_rfl)
    (case z285 => first | k_is | kernel_rfl)
    (case z286 => exact fun us hl => match us, hl with | [_], _ => rfl)

