import PyProof.Rows.All
import Wide.All
import OpenK.AllK
import Wide.FinOn
import PyProof.ReprReads
import PyProof.ReprText
import PyProof.ReprLen
import PyProof.ReprBulk
import PyProof.ReprRoads
import HandS.ForMost
import HandS.IsInst
import HandS.Wide
import HandS.StrMore
import HandS.Codes
import HandS.Walk
import PySem.Challenge.RW_fingerbooks_k00_integers_and_names
set_option Elab.async false
set_option linter.all false
set_option maxRecDepth 100000
set_option maxHeartbeats 2000000
namespace G
open PySem PySem.Spec PyProof.Rows L2

/-! ## Promises that hold where no text of an object is being written (guards empty) -/
structure FnG (P : Program) (w : World) (K : PySem.W.Frag) (mg : Str → Option Value) (base : Heap)
    (CX : CXT) (k : Nat) (f : Addr) (fd : FuncData) (ps : List Str) (sp : Sp) : Prop where
  len : ∀ xs H Q E, sp xs H Q E → xs.length = ps.length
  go : ∀ (A : Around) (out : List Env) (s : Shared) (H : Hp) (args : Args) (us : List Value) (xs : List V) (Q : VK) (E : XK),
    A.guards = some [] → Room k A → Env0 P w K mg base A out s H → BindsTo s fd args (ps.zip us) → Vals xs us → sp xs H Q E →
    codeAny (model P w) A (.call (.ref f) args) (CR CX out P w H s Q E) s

theorem FnG.ofOk {P w K mg base CX k f fd ps sp} (F : FnOk P w K mg base CX k f fd ps sp) : FnG P w K mg base CX k f fd ps sp :=
  ⟨F.len, fun A out s H args us xs Q E _ => F.run A out s H args us xs Q E⟩
theorem FnG.mono {P w K mg base CX j k f fd ps sp} (F : FnG P w K mg base CX j f fd ps sp) (h : j ≤ k) : FnG P w K mg base CX k f fd ps sp :=
  ⟨F.len, fun A out s H args us xs Q E hg hr => F.go A out s H args us xs Q E hg (hr.mono h)⟩

section
variable {X : Cx} {CX : CXT} {k : Nat} {f : Addr} {fd : FuncData} {ps : List Str} {sp : Sp} {dvs : List V} {ds : List Value} {E : XK}
theorem runG {pins : List (Addr × Obj)} {σ : L2.St} {H : Hp} {s : Shared} {Q : VK} {us : List Value} {xs : List V}
    (F : FnG X.prog X.w X.K X.mg X.base CX k f fd ps sp) (hgd : X.A.guards = some []) (hr : Room k X.A)
    (hb : Binds X.K fd ps ds) (hd : Vals dvs ds) (hx : Passes CX X E) (I : Inv X pins σ H s) (r : Vals xs us) (h : sp (xs ++ dvs) H Q E) :
    wpAny (model X.prog X.w) X.A (call (.ref f) us) (EP X pins σ Q) X.xe s := by
  have both : Vals (xs ++ dvs) (us ++ ds) := r.append hd
  have sz : (us ++ ds).length = ps.length := both.length.symm.trans (F.len _ _ _ _ h)
  have body := F.go X.A X.stack s H ⟨us, []⟩ (us ++ ds) (xs ++ dvs) Q E hgd hr I.env0 (hb s us I.kIn sz) both h
  refine wpAny_call (codeAny_mono body fun res t hq => ?_)
  match res, hq with
  | .error e, hq => exact hx pins σ H s e t I hq
  | .ok (.ret u), hq => exact I.after hq
  | .ok .next, hq => exact hq.elim
  | .ok .brk, hq => exact hq.elim
  | .ok .cont, hq => exact hq.elim

theorem pe_g {x : Str} {p pos : Pos} {e : Expr} {es : List Expr} {t : TA} (F : FnG X.prog X.w X.K X.mg X.base CX k f fd ps sp)
    (hgd : X.A.guards = some []) (hr : Room k X.A) (hg : Gl X x) (hm : X.mg x = some (.ref f)) (hk : PySem.W.keepIn X.K (.ref f) = true)
    (hb : Binds X.K fd ps ds) (hd : Vals dvs ds) (hx : Passes CX X E) (ha : PA X (e :: es) t)
    (hdb : (x == ("__debug__" : Str)) = false := by decide)
    (he : starEach (e :: es) X.env = (false, eval e X.env) :: starEach es X.env := by rfl)
    (hpl : (backTo pos (starEach es X.env)).any (·.1) = false := by rfl) :
    PE X (.Call (.Name x p) (e :: es) [] pos) (tCall sp dvs E t) :=
  ⟨fun pins s σ H Q I h => wpAny_Call_Name_kw (ld_glob I hg hm
    (PySem.W.callWith_K (h₀ := X.base) I.ok.mod.kin hk
      (thn (ha.run pos pins s σ H _ I h) fun us s1 ⟨xs, H1, I1, r, q⟩ => ⟨I1.kIn, runG F hgd hr hb hd hx I1 r q⟩) he hpl) hdb)⟩
theorem pe_g0 {x : Str} {p pos : Pos} (F : FnG X.prog X.w X.K X.mg X.base CX k f fd ps sp)
    (hgd : X.A.guards = some []) (hr : Room k X.A) (hg : Gl X x) (hm : X.mg x = some (.ref f)) (hk : PySem.W.keepIn X.K (.ref f) = true)
    (hb : Binds X.K fd ps ds) (hd : Vals dvs ds) (hx : Passes CX X E) (hdb : (x == ("__debug__" : Str)) = false := by decide) :
    PE X (.Call (.Name x p) [] [] pos) (tCall sp dvs E tNil) :=
  ⟨fun pins s σ H Q I h => wpAny_Call_Name_kw (ld_glob I hg hm (PySem.W.callWith_K0 I.kIn hk (runG (us := []) F hgd hr hb hd hx I .nil h)) hdb)⟩
end

/-- a def by its body, guards known -/
theorem okG {P : Program} {w : World} {K : PySem.W.Frag} {mg : Str → Option Value} {base : Heap} {x qual : Str} {st : Stmt} {f : Addr} {fd : FuncData}
    {N ps : List Str} {k : Nat} {sp : Sp} (F : Fun K x qual st f fd) (S : FnScope N ps (defScope st)) (len : ∀ xs H Q E, sp xs H Q E → xs.length = ps.length)
    (hbody : ∀ (cdv : Value) (A : Around) (out : List Env) (s : Shared) (H : Hp) (xs : List V) (Q : VK) (E : XK), A.guards = some [] →
      Room k (A.deeper (envOfC qual (defScope st) s.heap.objs.size f cdv)) → sp xs H Q E →
      ∃ t, PSs (cxOf CX0 P w K mg base N qual (defScope st) f cdv A out s H E).nox (defBody st) t ∧
        t { nx := fun _ H' => Q .non H', rt := Q } (start N xs) H) :
    FnG P w K mg base CX0 (k + 1) f fd ps sp := by
  obtain ⟨oc, od, kV, doc, pm, an, cdv, ct, osl, rfl, lk, hcd⟩ := F.ex
  constructor
  · exact len
  intro A out s H args us xs Q E gA hr e0 hb r hsp
  have old : ∀ b o, base.get? b = some o → s.heap.get? b = some o := fun b o q => (e0.bs b o q).1
  have KX : K.In s.heap := e0.mod.kin.keeps old
  have lim : s.heap.NoLimit := e0.mod.nolimit.keeps old
  refine codeAny_call_function hr.depth (KX _ _ lk) rfl S.co S.gen rfl (PySem.W.codeRec_of KX hcd) (hb _ _ _ _ ?_)
  refine wpAny_newFunctionEnv_cells S.kind (fun y hy => ?_) fun env he s1 x1 => ?_
  · have q := S.par y.1 (List.of_mem_zip (a := y.1) (b := y.2) hy).1
    exact q.elim .inl fun q => .inr ⟨q, PySem.W.cellsFrom_some _ _ _ (.inl q)⟩
  · subst he
    refine ⟨lim.keeps x1.toInCall.keep, codeAny_func ?_⟩
    obtain ⟨t, ht, hq⟩ := hbody cdv A out s H xs Q E gA (hr.deeper _) hsp
    have I := inv_start (CX := CX0) (P := P) (w := w) (K := K) (mg := mg) (base := base) (N := N) (ps := ps) (E := E) S hr.hd e0 (len _ _ _ _ hsp) r x1
    refine wpAny_mono (ht.nox.run [] s1 (start N xs) H _ I hq) (fun fl s2 hs => ?_) fun _ _ z => z
    match fl, hs with
    | .ret u, ⟨v, σ', H', J, rv, q⟩ => exact ⟨v, H', J.os, J.bare, J.base, J.hok, rv, q⟩
    | .next, ⟨σ', H', J, q⟩ => exact ⟨V.non, H', J.os, J.bare, J.base, J.hok, rfl, q⟩
    | .brk, ⟨_, _, _, q⟩ => exact q.elim
    | .cont, ⟨_, _, _, q⟩ => exact q.elim

/-! ## the end of a row -/
theorem endG {l : PySem.W.OpenLaw} {n k : Nat} {q : Program} {loose : List Str} {XP : (Str → Option Value) → Heap → Prop} {YP : World → Heap → Prop} {d : DefRec}
    {K : Params → PySem.W.Frag} {sp : PySem.W.Frag → Sp} {x : Str}
    (hn : l.most = some n) (hn2 : n ≤ sizeLine) (hdf : d.params.defaults = []) (hr : Room k callerA)
    (hY : ∀ (w : World) (h : Heap), YP w h → (K w.params).In h)
    (F : ∀ (w : World) (mg : Str → Option Value) (fa : Addr) (h : Heap), (K w.params).In h → h.Ns mainGlobals mg → mg d.name = some (.ref fa) →
      ∃ fd : FuncData, (∀ (s : Shared) (u : Value), BindsTo s fd ⟨[u], []⟩ [(x, u)]) ∧
        ∀ base : Heap, (K w.params).In base → base.Ns mainGlobals mg → FnG l.prog w (K w.params) mg base CX0 k fa fd [x] (sp (K w.params)))
    (hsp : ∀ (K : PySem.W.Frag) (H : Hp) (a : Addr) (ns : List Int), ns.length ≤ n → SqL K H a (ns.map V.int) →
      sp K [.ref a] H (fun v _ => v = .bl true) fun _ _ _ => False) :
    PySem.W.WalkO q loose XP YP l.row.toRowW d [] (fun f vs => PySem.call f vs) := by
  refine Att.attach_call hn hdf fun w s0 s1 mg mb fa o pm cd doc a vs ns gr Y ho hd hcd hmg ha hi hl hgn => ?_
  have KX := hY w _ Y
  obtain ⟨fd, hbind, F⟩ := F w mg fa _ KX gr.T.g hmg
  have rv := vals_ints hi
  have lenV := hi.length
  have nsz : ns.length ≤ sizeLine := Nat.le_trans hl hn2
  -- the tracked heap T: nothing, or the script alone
  have main : ∀ T : Hp, (∀ b, T b = none ∨ ∃ ob xs, T b = some (.frz ob (.lst xs))) → SqL (K w.params) T a (ns.map V.int) → HOk l.prog w T s1.heap →
      (∀ b, T b ≠ none → b = a) → (T a ≠ none → (K w.params).lookup a = none) →
      codeAny (model l.prog w) callerA (.call (.ref fa) ⟨[.ref a], []⟩)
        (fun r t => r = .ok (.ret (.bool true)) ∧ OldK s1.heap t.heap ∧ t.os = s1.os ∧ AllBare t.gens) s1 := by
    intro T only hS hok only_a notK
    have keepD : ∀ {b : Addr} {ob : Obj}, s1.heap.get? b = some ob → (∃ es ep, ob.data = .dict es ep) → (hidT s1.heap T).get? b = some ob := by
      intro b ob e ⟨es, ep, ed⟩
      refine hidT_get e ?_
      match q : T b with
      | none => rfl
      | some u =>
        have hb : b = a := only_a b (by rw [q]; exact Option.some_ne_none _)
        subst hb
        rw [ha] at e
        cases e
        cases (show Data.seq vs.toArray _ = Data.dict es ep from ed)
    have nsT : ∀ {b : Addr} {m : Str → Option Value}, s1.heap.Ns b m → (hidT s1.heap T).Ns b m := by
      rintro b m ⟨ob, es, ep, e, ed, r⟩
      exact ⟨ob, es, ep, keepD e ⟨es, ep, ed⟩, ed, r⟩
    have inT : (K w.params).In (hidT s1.heap T) := by
      intro b ob e
      refine hidT_get (KX b ob e) ?_
      match q : T b with
      | none => rfl
      | some u =>
        have hb : b = a := only_a b (by rw [q]; exact Option.some_ne_none _)
        subst hb
        rw [notK (by rw [q]; exact Option.some_ne_none _)] at e
        cases e
    have nolim : (hidT s1.heap T).NoLimit := by
      obtain ⟨mc, h1, h2⟩ := gr.T.nolimit
      exact ⟨mc, nsT h1, h2⟩
    have md : Mod (K w.params) mg (hidT s1.heap T) := ⟨inT, nsT gr.T.g, ⟨mb, nsT gr.T.b, gr.T.builtins⟩, nolim⟩
    have e0 : Env0 l.prog w (K w.params) mg (hidT s1.heap T) callerA [] s1 T := by
      refine ⟨rfl, md, fun b ob e => of_hidT e, Nat.le_of_eq (hidT_size _ _), trivial, fun b hb => ?_, hok, .of_eq hgn⟩
      cases (show b ∈ ([] : List Addr) from hb)
    have run := (F _ inT (nsT gr.T.g)).go callerA [] s1 T ⟨[.ref a], []⟩ [.ref a] [.ref a] _ _ rfl hr e0 (hbind s1 (.ref a)) (.cons rfl .nil) (hsp (K w.params) T a ns hl hS)
    refine codeAny_mono run fun res t hq => ?_
    match res, hq with
    | .error e, hq => exact hq.elim
    | .ok .next, hq => exact hq.elim
    | .ok .brk, hq => exact hq.elim
    | .ok .cont, hq => exact hq.elim
    | .ok (.ret u), ⟨v, T', os, bare, un, hok', rr, qq⟩ =>
      obtain rfl : v = .bl true := qq
      obtain rfl : u = Value.bool true := rr
      refine ⟨rfl, OldK.of_keep fun b ob e => ?_, os, bare⟩
      match q : T b with
      | none => exact un.keep b ob e q (fun z => nomatch (show b ∈ ([] : List Addr) from z)) (fun z => nomatch z)
      | some u =>
        rcases only b with z | ⟨fo, xs, z⟩
        · rw [q] at z
          cases z
        · obtain ⟨e1, _⟩ := hok b _ z
          obtain ⟨e2, _⟩ := hok' b _ (un.frzs b fo _ z)
          rw [e] at e1
          cases e1
          exact e2
  match hk : (K w.params).lookup a with
  | some ob =>
    have e := KX a ob hk
    rw [ha] at e
    cases e
    refine main (fun _ => none) (fun _ => .inl rfl) (.inr ⟨_, vs.toArray, _, hk, rfl, rfl, rfl, ?_, ?_⟩) (fun b u z => nomatch (show (none : Option HO) = some u from z)) (fun b z => absurd rfl z) (fun z => absurd rfl z)
    · rw [List.size_toArray, lenV]
      exact nsz
    · simpa using rv
  | none =>
    have atA : ∀ b, b = a → (if b = a then some (HO.frz { cls := .type "list", data := .seq vs.toArray } (.lst (ns.map V.int))) else none) = some (HO.frz { cls := .type "list", data := .seq vs.toArray } (.lst (ns.map V.int))) := fun b hb => if_pos hb
    have offA : ∀ b, b ≠ a → (if b = a then some (HO.frz { cls := .type "list", data := .seq vs.toArray } (.lst (ns.map V.int))) else none) = none := fun b hb => if_neg hb
    refine main (fun b => if b = a then some (.frz { cls := .type "list", data := .seq vs.toArray } (.lst (ns.map V.int))) else none) (fun b => ?_) (.inl (.inr ⟨{ cls := .type "list", data := .seq vs.toArray }, atA a rfl⟩)) (fun b u z => ?_) (fun b z => ?_) fun _ => hk
    · by_cases hb : b = a
      · exact .inr ⟨_, _, atA b hb⟩
      · exact .inl (offA b hb)
    · by_cases hb : b = a
      · have z2 := (atA b hb).symm.trans z
        cases z2
        subst hb
        exact ⟨ha, by rw [List.length_map]; exact nsz, vs, _, rv, ha⟩
      · have z2 := (offA b hb).symm.trans z
        cases z2
    · by_cases hb : b = a
      · exact hb
      · exact absurd (offA b hb) z

/-! ## repr of data -/
mutual
/-- data whose text is written: no dict, numbers and texts of bounded size -/
def nice : PyData → Bool
  | .none | .bool _ => true
  | .int i => decide (i.natAbs.log2 < 1200)
  | .str x => x.cps.toList.all fun c => decide (c < 16 ^ 8)
  | .list xs | .tuple xs => niceAll xs
  | .dict _ => false
def niceAll : List PyData → Bool
  | [] => true
  | x :: xs => nice x && niceAll xs
end
structure Shw (d : PyData) : Prop where
  noDict : d.hasDict = false
  able : d.showable = true
  deep : d.depth ≤ 60
  fits : d.shown.length ≤ sizeLine
mutual
theorem nice_facts : ∀ d : PyData, nice d = true → d.hasDict = false ∧ d.showable = true ∧ d.leavesShort 1201 = true
  | .none, _ => by simp [PyData.hasDict, PyData.showable, PyData.leavesShort]
  | .bool _, _ => by simp [PyData.hasDict, PyData.showable, PyData.leavesShort]
  | .int i, h => by
    have h2 : i.natAbs.log2 < 1200 := by simpa [nice] using h
    have h3 := int_text_length_le (a := i) (by decide) h2
    have h4 : (PyData.shown (.int i)).length ≤ 1201 := by
      rw [PyData.shown_int]
      rw [PySem.ofString_length]
      exact h3
    refine ⟨by simp [PyData.hasDict], ?_, ?_⟩
    · simp only [PyData.showable]
      exact decide_eq_true (by omega)
    · simp only [PyData.leavesShort]
      exact decide_eq_true h4
  | .str x, h => by
    refine ⟨by simp [PyData.hasDict], by simp [PyData.showable], ?_⟩
    simpa only [PyData.leavesShort, nice] using h
  | .list xs, h => by
    have q := nice_factsAll xs (by simpa only [nice] using h)
    exact ⟨by simpa only [PyData.hasDict] using q.1, by simpa only [PyData.showable] using q.2.1, by simpa only [PyData.leavesShort] using q.2.2⟩
  | .tuple xs, h => by
    have q := nice_factsAll xs (by simpa only [nice] using h)
    exact ⟨by simpa only [PyData.hasDict] using q.1, by simpa only [PyData.showable] using q.2.1, by simpa only [PyData.leavesShort] using q.2.2⟩
  | .dict _, h => by simp [nice] at h
theorem nice_factsAll : ∀ ds : List PyData, niceAll ds = true → PyData.hasDictAll ds = false ∧ PyData.showableAll ds = true ∧ PyData.leavesShortAll 1201 ds = true
  | [], _ => by simp [PyData.hasDictAll, PyData.showableAll, PyData.leavesShortAll]
  | x :: xs, h => by
    have h' : nice x = true ∧ niceAll xs = true := by simpa [niceAll] using h
    obtain ⟨a1, a2, a3⟩ := nice_facts x h'.1
    obtain ⟨b1, b2, b3⟩ := nice_factsAll xs h'.2
    simp only [PyData.hasDictAll, PyData.showableAll, PyData.leavesShortAll, a1, a2, a3, b1, b2, b3, Bool.or_self, Bool.and_self, and_self]
end
theorem shw {d : PyData} (h : nice d = true) (hd : d.depth ≤ 60) (hb : d.bulk ≤ 10000) : Shw d := by
  obtain ⟨a1, a2, a3⟩ := nice_facts d h
  refine ⟨a1, a2, hd, ?_⟩
  have q := PyData.shown_le_bulk 1201 (by decide) d a3
  have e2 : 16777216 ≤ sizeLine := by decide
  omega
section
variable {X : Cx}
def rRepr (K : PySem.W.Frag) : List V → Hp → VK → Prop := fun xs H Q => ∃ (x : V) (d : PyData), xs = [x] ∧ Dp K H x d ∧ Shw d ∧ Q (.str d.shown) H
theorem call_repr (hgd : X.A.guards = some []) (hu : X.A.units + 64 < cLine) : CallR X (.builtin "repr") (rRepr X.K) := by
  intro pins s σ H xs us Q I r h
  obtain ⟨x, d, rfl, hd, ⟨hn, hs, hp, hz⟩, q⟩ := h
  obtain ⟨u, rfl, ru⟩ := vals1 r
  obtain ⟨as, rd⟩ := Dp.reads I d x u hd ru
  have fin : ∀ h' t tk, (∀ b o, s.heap.get? b = some o → h'.get? b = some o) → EP X pins σ Q (.str d.shown t) { s with heap := h', toks := tk } :=
    fun h' t tk kp => ⟨.str d.shown, H, I.kept kp, ⟨t, rfl⟩, q⟩
  cases hd with
  | lst hl ha =>
    cases (show u = Value.ref _ from ru)
    exact repr_of_reads' rd hs (PyData.noDict_hsm hn) hgd (by omega) (fun _ _ e => e) fin hz
  | tup hl ha =>
    cases (show u = Value.ref _ from ru)
    exact repr_of_reads' rd hs (PyData.noDict_hsm hn) hgd (by omega) (fun _ _ e => e) fin hz
  | int i =>
    obtain ⟨t, rfl⟩ := (show ∃ t, u = Value.int i t from ru)
    have e : (PyData.int i).shown = ((toString i : String) : Str) := PyData.shown_int i
    rw [e] at q
    exact PySem.P.repr_of_int (by simpa [PyData.showable] using hs) ⟨.str _, H, I.tok _, ⟨_, rfl⟩, q⟩
  | non =>
    cases (show u = Value.none from ru)
    rw [PyData.shown_none] at q
    exact PySem.P.repr_of_none ⟨.str _, H, I.tok _, ⟨_, rfl⟩, q⟩
  | bl b =>
    cases (show u = Value.bool b from ru)
    rw [PyData.shown_bool] at q
    refine PySem.P.repr_of_bool ⟨.str _, H, I.tok _, ⟨_, rfl⟩, ?_⟩
    cases b <;> exact q
  | str x =>
    obtain ⟨t, rfl⟩ := (show ∃ t, u = Value.str x t from ru)
    rw [PyData.shown_str] at q hz
    exact PySem.P.repr_of_str ⟨.str _, H, I.tok _, ⟨_, rfl⟩, q⟩ hz
end
/-! ## Defs of the text as constants -/
structure DefAt (K : PySem.W.Frag) (mg : Str → Option Value) (x : Str) (st : Stmt) (ps : List Str) : Prop where
  ex : ∃ f fd, Fun K x x st f fd ∧ mg x = some (.ref f) ∧ ∀ us : List Value, us.length = ps.length → bindArgs fd ⟨us, []⟩ = pure (ps.zip us)
theorem defAt {K : PySem.W.Frag} {h : Heap} {mg : Str → Option Value} {x : Str} {st : Stmt} {ps : List Str} {f : Addr} {oc : Value} {od an : Option Addr} {osl : Array (Option Value)}
    {kV doc pm cdv ct : Value} (KX : K.In h) (gl : h.Ns mainGlobals mg)
    (hb : ∀ us : List Value, us.length = ps.length → bindArgs (PySem.W.fnOf x x (defArgs st) (defBody st) (defScope st) .none kV doc pm an cdv ct) ⟨us, []⟩ = pure (ps.zip us))
    (a : PySem.W.nsIn K mainGlobals x = some (some (.ref f)))
    (l : K.lookup f = some ⟨oc, od, .func (PySem.W.fnOf x x (defArgs st) (defBody st) (defScope st) .none kV doc pm an cdv ct), osl⟩)
    (c : PySem.W.codeIn K cdv x = true) (k : PySem.W.keepIn K (.ref f) = true) : DefAt K mg x st ps :=
  ⟨f, _, fun_mk l c k, PySem.W.mg_of KX gl a, hb⟩
structure CalG (P : Program) (w : World) (K : PySem.W.Frag) (mg : Str → Option Value) (base : Heap) (k : Nat) (x : Str) (ps : List Str) (sp : Sp) : Prop where
  ex : ∃ f fd, FnG P w K mg base CX0 k f fd ps sp ∧ mg x = some (.ref f) ∧ PySem.W.keepIn K (.ref f) = true ∧ Binds K fd ps []
theorem calOk {P : Program} {w : World} {K : PySem.W.Frag} {mg : Str → Option Value} {base : Heap} {x : Str} {st : Stmt} {N ps : List Str} {k : Nat} {sp : Sp}
    (D : DefAt K mg x st ps) (S : FnScope N ps (defScope st)) (len : ∀ xs H Q E, sp xs H Q E → xs.length = ps.length)
    (hbody : ∀ (f : Addr) (cdv : Value) (A : Around) (out : List Env) (s : Shared) (H : Hp) (xs : List V) (Q : VK) (E : XK), A.guards = some [] →
      Room k (A.deeper (envOfC x (defScope st) s.heap.objs.size f cdv)) → sp xs H Q E →
      ∃ t, PSs (cxOf CX0 P w K mg base N x (defScope st) f cdv A out s H E).nox (defBody st) t ∧
        t { nx := fun _ H' => Q .non H', rt := Q } (start N xs) H) : CalG P w K mg base (k + 1) x ps sp := by
  obtain ⟨f, fd, F, m, b⟩ := D.ex
  exact ⟨f, fd, okG F S len (hbody f), m, F.kp, Binds.all b⟩
section
variable {X : Cx} {k j : Nat} {ps : List Str} {sp : Sp} {x : Str} {p pos : Pos} {e : Expr} {es : List Expr} {t : TA}
theorem pe_k (c : CalG X.prog X.w X.K X.mg X.base k x ps sp) (hgd : X.A.guards = some []) (hr : Room j X.A) (hk : k ≤ j) (hg : Gl X x) (ha : PA X (e :: es) t)
    (hdb : (x == ("__debug__" : Str)) = false := by decide)
    (he : starEach (e :: es) X.env = (false, eval e X.env) :: starEach es X.env := by rfl)
    (hpl : (backTo pos (starEach es X.env)).any (·.1) = false := by rfl) :
    PE X (.Call (.Name x p) (e :: es) [] pos) (tCall sp [] E0 t) := by
  obtain ⟨f, fd, F, m, kp, b⟩ := c.ex
  exact pe_g F hgd (hr.mono hk) hg m kp b .nil pass0 ha hdb he hpl
theorem pe_k0 (c : CalG X.prog X.w X.K X.mg X.base k x ps sp) (hgd : X.A.guards = some []) (hr : Room j X.A) (hk : k ≤ j) (hg : Gl X x)
    (hdb : (x == ("__debug__" : Str)) = false := by decide) : PE X (.Call (.Name x p) [] [] pos) (tCall sp [] E0 tNil) := by
  obtain ⟨f, fd, F, m, kp, b⟩ := c.ex
  exact pe_g0 F hgd (hr.mono hk) hg m kp b .nil pass0 hdb
end
/-- the law's own def, at the address that the row names -/
theorem lawOk {P : Program} {w : World} {K : PySem.W.Frag} {mg : Str → Option Value} {x y : Str} {st : Stmt} {N : List Str} {k : Nat} {sp : Sp} {fa : Addr}
    (hf : mg x = some (.ref fa)) (D : DefAt K mg x st [y]) (S : FnScope N [y] (defScope st)) (len : ∀ xs H Q E, sp xs H Q E → xs.length = [y].length)
    (hbody : ∀ base : Heap, K.In base → base.Ns mainGlobals mg → ∀ (f : Addr) (cdv : Value) (A : Around) (out : List Env) (s : Shared) (H : Hp) (xs : List V) (Q : VK) (E : XK), A.guards = some [] →
      Room k (A.deeper (envOfC x (defScope st) s.heap.objs.size f cdv)) → sp xs H Q E →
      ∃ t, PSs (cxOf CX0 P w K mg base N x (defScope st) f cdv A out s H E).nox (defBody st) t ∧
        t { nx := fun _ H' => Q .non H', rt := Q } (start N xs) H) :
    ∃ fd : FuncData, (∀ (s : Shared) (u : Value), BindsTo s fd ⟨[u], []⟩ [(y, u)]) ∧
      ∀ base : Heap, K.In base → base.Ns mainGlobals mg → FnG P w K mg base CX0 (k + 1) fa fd [y] sp := by
  obtain ⟨f, fd, F, m, b⟩ := D.ex
  obtain rfl : f = fa := by
    rw [m] at hf
    cases hf
    rfl
  exact ⟨fd, fun s u => .of_eq (b [u] rfl), fun base h1 h2 => okG F S len (hbody base h1 h2 f)⟩

section
variable {X : Cx} {x : Str} {pos : Pos}
theorem pe_gv {v : V} (hg : Gl X x) (h : ∃ u, X.mg x = some u ∧ RelV v u) (hd : (x == ("__debug__" : Str)) = false := by decide) : PE X (.Name x pos) (tC v) :=
  let ⟨_, hm, r⟩ := h
  pe_glob hg hm r hd
theorem pe_ty (n : String) (hg : Gl X x) (hm : X.mg x = none) (hv : bootBuiltins x = some (.type n)) (hn : x ≠ "__name__" := by decide) (hd : (x == ("__debug__" : Str)) = false := by decide) : PE X (.Name x pos) (tC (.ty n)) :=
  pe_bltn hg hm hv rfl hn hd
end
/-! ## Heaps: what is new, what is rolled -/
theorem same_new {H : Hp} {p : Addr} {o : HO} (h : H p = none) : Same H (upd H p o) := fun b u e => by
  rw [upd_ne (ne_of_none e h)]
  exact e
mutual
theorem Dp.grow {K : PySem.W.Frag} {H H' : Hp} (s : Same H H') : ∀ {x : V} {d : PyData}, Dp K H x d → Dp K H' x d
  | _, _, .non => .non
  | _, _, .bl b => .bl b
  | _, _, .int i => .int i
  | _, _, .str x => .str x
  | _, _, .lst h a => .lst (s.seq h) (DpAll.grow s a)
  | _, _, .tup h a => .tup (by
      rcases h with (h | ⟨o, h⟩) | h
      · exact .inl (.inl (s _ _ h))
      · exact .inl (.inr ⟨o, s _ _ h⟩)
      · exact .inr h) (DpAll.grow s a)
theorem DpAll.grow {K : PySem.W.Frag} {H H' : Hp} (s : Same H H') : ∀ {xs : List V} {ds : List PyData}, DpAll K H xs ds → DpAll K H' xs ds
  | _, _, .nil => .nil
  | _, _, .cons a b => .cons (Dp.grow s a) (DpAll.grow s b)
end
/-- the heap without what stands at d -/
def hide (d : Addr) (H : Hp) : Hp := fun b => if b = d then none else H b
theorem hide_ne {d b : Addr} {H : Hp} (h : b ≠ d) : hide d H b = H b := if_neg h
theorem hide_at {d : Addr} {H : Hp} : hide d H d = none := if_pos rfl
theorem hide_le {d : Addr} {H : Hp} : Same (hide d H) H := fun b o e => by
  by_cases h : b = d
  · subst h
    rw [hide_at] at e
    cases e
  · rw [hide_ne h] at e
    exact e
/-- the dice at d: three numbers -/
def DiceAt (H : Hp) (d : Addr) : Prop := ∃ l s c : Int, H d = some (.lst [.int l, .int s, .int c])
/-- from H to H': the dice at d may have been rolled, what else stood stands -/
structure Mv (d : Addr) (H H' : Hp) : Prop where
  same : Same (hide d H) (hide d H')
  dice : DiceAt H' d
theorem Mv.refl {d : Addr} {H : Hp} (h : DiceAt H d) : Mv d H H := ⟨Same.refl _, h⟩
theorem Mv.trans {d : Addr} {H H1 H2 : Hp} (a : Mv d H H1) (b : Mv d H1 H2) : Mv d H H2 := ⟨a.same.trans b.same, b.dice⟩
theorem Mv.get {d : Addr} {H H' : Hp} (a : Mv d H H') {b : Addr} {o : HO} (n : b ≠ d) (h : H b = some o) : H' b = some o := by
  have := a.same b o (by rw [hide_ne n]; exact h)
  rw [hide_ne n] at this
  exact this
theorem Mv.free {d : Addr} {H H' : Hp} (a : Mv d H H') {p : Addr} (h : H' p = none) : H p = none := by
  by_cases e : p = d
  · subst e
    obtain ⟨l, s, c, q⟩ := a.dice
    rw [q] at h
    cases h
  · match q : H p with
    | none => rfl
    | some o =>
      rw [a.get e q] at h
      cases h
theorem DiceAt.ne {d p : Addr} {H : Hp} (h : DiceAt H d) (n : H p = none) : p ≠ d := fun e => by
  obtain ⟨l, s, c, q⟩ := h
  rw [e, q] at n
  cases n
theorem hide_new {d p : Addr} {H : Hp} {o : HO} (n : p ≠ d) : hide d (upd H p o) = upd (hide d H) p o := by
  funext b
  by_cases h1 : b = d
  · subst h1
    rw [hide_at, upd_ne n.symm, hide_at]
  · rw [hide_ne h1]
    by_cases h2 : b = p
    · subst h2
      rw [upd_same, upd_same]
    · rw [upd_ne h2, upd_ne h2, hide_ne h1]
theorem Mv.new {d p : Addr} {H H' : Hp} {o : HO} (a : Mv d H H') (n : H' p = none) : Mv d H (upd H' p o) := by
  have ne := a.dice.ne n
  refine ⟨fun b u e => ?_, ?_⟩
  · rw [hide_new ne]
    refine same_new ?_ b u (a.same b u e)
    rw [hide_ne ne]
    exact n
  · obtain ⟨l, s, c, q⟩ := a.dice
    exact ⟨l, s, c, by rw [upd_ne ne.symm]; exact q⟩
/-- an own list (new since H) changed -/
theorem Mv.set {d p : Addr} {H H' : Hp} {o : HO} (a : Mv d H H') (n : H p = none) (ne : p ≠ d) : Mv d H (upd H' p o) := by
  refine ⟨fun b u e => ?_, ?_⟩
  · rw [hide_new ne]
    have nb : b ≠ p := fun q => by
      rw [q, hide_ne ne, n] at e
      cases e
    rw [upd_ne nb]
    exact a.same b u e
  · obtain ⟨l, s, c, q⟩ := a.dice
    exact ⟨l, s, c, by rw [upd_ne ne.symm]; exact q⟩
theorem same_new2 {H : Hp} {p : Addr} {o u : HO} (h : H p = none) : Same H (upd (upd H p o) p u) := by
  rw [upd_upd]
  exact same_new h
theorem Mv.new2 {d p : Addr} {H H' : Hp} {o u : HO} (a : Mv d H H') (n : H' p = none) : Mv d H (upd (upd H' p o) p u) := by
  rw [upd_upd]
  exact a.new n
theorem Mv.rolled {d : Addr} {H H' : Hp} {l s c : Int} (a : Mv d H H') : Mv d H (upd H' d (.lst [.int l, .int s, .int c])) := by
  refine ⟨fun b u e => ?_, l, s, c, upd_same⟩
  have q := a.same b u e
  by_cases h : b = d
  · subst h
    rw [hide_at] at q
    cases q
  · rw [hide_ne h] at q ⊢
    rw [upd_ne h]
    exact q
theorem Mv.sql {K : PySem.W.Frag} {d a : Addr} {H H' : Hp} {xs : List V} (m : Mv d H H') (n : a ≠ d) (h : SqL K H a xs) : SqL K H' a xs := by
  rcases h with (h | ⟨o, h⟩) | h
  · exact .inl (.inl (m.get n h))
  · exact .inl (.inr ⟨o, m.get n h⟩)
  · exact .inr h
theorem Mv.dp {K : PySem.W.Frag} {d : Addr} {H H' : Hp} {x : V} {dat : PyData} (m : Mv d H H') (h : Dp K (hide d H) x dat) : Dp K (hide d H') x dat := Dp.grow m.same h
theorem Dp.seen {K : PySem.W.Frag} {d : Addr} {H : Hp} {x : V} {dat : PyData} (h : Dp K (hide d H) x dat) : Dp K H x dat := Dp.grow hide_le h

theorem mul60 : CMulW (10 ^ Int.toNat 60) (10 ^ Int.toNat 60) := by
  unfold CMulW
  decide +kernel
theorem pos60 : (0 : Int) < 10 ^ Int.toNat 60 * 10 ^ Int.toNat 60 := by decide +kernel
theorem mul45 : CMulW (10 ^ Int.toNat 45) (10 ^ Int.toNat 45) := by
  unfold CMulW
  decide +kernel
/-! ## the promises of the dice -/
def spDice (K : PySem.W.Frag) : Sp := fun vs H Q _ => ∃ (a : Addr) (ns : List Int) (i : Nat), vs = [.ref a, .int (i : Int)] ∧ SqL K H a (ns.map V.int) ∧ ns.length ≤ 1000 ∧
  ∀ (p : Addr) (l s c : Int), H p = none → Q (.ref p) (upd H p (.lst [.int l, .int s, .int c]))
def spRoll : Sp := fun vs H Q _ => ∃ (d : Addr) (t : Int), vs = [.ref d, .int t] ∧ DiceAt H d ∧ 0 < t ∧ t.natAbs.log2 < 9000 ∧
  ∀ (r : Int) (H' : Hp), 0 ≤ r → r < t → Mv d H H' → (∀ b, H b = none → H' b = none) → Q (.int r) H'
def spPick (K : PySem.W.Frag) : Sp := fun vs H Q _ => ∃ (d a : Addr) (xs : List V), vs = [.ref d, .ref a] ∧ DiceAt H d ∧ SqL K H a xs ∧ a ≠ d ∧ 0 < xs.length ∧ xs.length ≤ 1000 ∧
  ∀ (i : Nat) (x : V) (H' : Hp), xs[i]? = some x → Mv d H H' → (∀ b, H b = none → H' b = none) → Q x H'
theorem DpAll.map {K : PySem.W.Frag} {H : Hp} {α : Type} (f : α → V) (g : α → PyData) : ∀ (xs : List α), (∀ x ∈ xs, Dp K H (f x) (g x)) → DpAll K H (xs.map f) (xs.map g)
  | [], _ => .nil
  | x :: r, h => .cons (h x List.mem_cons_self) (DpAll.map f g r fun y hy => h y (List.mem_cons_of_mem _ hy))
theorem canAll {α : Type} (g : α → PyData) : ∀ (xs : List α), (∀ x ∈ xs, (g x).canLay0 = true) → PyData.canLayAll0 (xs.map g) = true
  | [], _ => by simp [PyData.canLayAll0]
  | x :: r, h => by
    simp only [List.map_cons, PyData.canLayAll0, h x List.mem_cons_self, canAll g r fun y hy => h y (List.mem_cons_of_mem _ hy), Bool.and_self]
theorem depthAll0 {α : Type} (n : Nat) (g : α → PyData) : ∀ (xs : List α), (∀ x ∈ xs, (g x).depth ≤ n) → PyData.depthAll (xs.map g) ≤ n
  | [], _ => by simp [PyData.depthAll]
  | x :: r, h => by
    have h1 := h x List.mem_cons_self
    have h2 := depthAll0 n g r fun y hy => h y (List.mem_cons_of_mem _ hy)
    simp only [List.map_cons, PyData.depthAll]
    omega

/-! ## readings by statements: what an expression's reading hands on is said in one place -/
section
variable {te : TE} {tt : TT} {i : Nat} {t1 t2 rest : TS} {D : Ends} {σ : L2.St} {H : Hp}
theorem go_nx {t : TS} {r : VK} {b c : L2.St → Hp → Prop} (h : t D σ H) : Ends.nx ⟨t D, r, b, c⟩ σ H := h
theorem a_set (R : V → Hp → Prop) (h : ∀ Q' : VK, (∀ v H', R v H' → Q' v H') → te σ H Q') (k : ∀ v H', R v H' → rest D (σ.set i (some v)) H') :
    tSeq (tAsg te (gName i)) rest D σ H := h _ k
theorem a_set1 (R : V → Hp → Prop) (h : ∀ Q' : VK, (∀ v H', R v H' → Q' v H') → te σ H Q') (k : ∀ v H', R v H' → D.nx (σ.set i (some v)) H') :
    tAsg te (gName i) D σ H := h _ k
theorem a_ret (R : V → Hp → Prop) (h : ∀ Q' : VK, (∀ v H', R v H' → Q' v H') → te σ H Q') (k : ∀ v H', R v H' → D.rt v H') : tRet te D σ H := h _ k
theorem a_if (R : Bool → Hp → Prop) (h : ∀ Q' : Bool → Hp → Prop, (∀ b H', R b H' → Q' b H') → tt σ H Q') (k1 : ∀ H', R true H' → t1 { D with nx := rest D } σ H') (k2 : ∀ H', R false H' → t2 { D with nx := rest D } σ H') :
    tSeq (tIfS tt t1 t2) rest D σ H := h _ fun b H' r => by
  cases b with
  | true => exact iteT (k1 H' r)
  | false => exact iteF (k2 H' r)
theorem a_if1 (R : Bool → Hp → Prop) (h : ∀ Q' : Bool → Hp → Prop, (∀ b H', R b H' → Q' b H') → tt σ H Q') (k1 : ∀ H', R true H' → t1 D σ H') (k2 : ∀ H', R false H' → t2 D σ H') :
    tIfS tt t1 t2 D σ H := h _ fun b H' r => by
  cases b with
  | true => exact iteT (k1 H' r)
  | false => exact iteF (k2 H' r)
end
end G

set_option Elab.async false
set_option linter.all false
set_option maxRecDepth 100000
set_option maxHeartbeats 2000000
namespace G
open PySem PySem.Spec PyProof.Rows L2
def top (i : Nat) : Stmt := PySem.Challenge.pw_fingerbooks_k00_integers_and_names.main.body.getD i (.Pass ⟨0, 0, 0, 0⟩)
abbrev s_is_integer : Stmt := top 4
abbrev N_is_integer : List Str := ["value"]
theorem sc_is_integer : FnScope N_is_integer ["value"] (defScope s_is_integer) := ⟨rfl, rfl, rfl, by decide +kernel, rfl, by decide +kernel, by decide +kernel⟩
abbrev s_is_count : Stmt := top 5
abbrev N_is_count : List Str := ["value"]
theorem sc_is_count : FnScope N_is_count ["value"] (defScope s_is_count) := ⟨rfl, rfl, rfl, by decide +kernel, rfl, by decide +kernel, by decide +kernel⟩
abbrev s_is_name : Stmt := top 6
abbrev N_is_name : List Str := ["value"]
theorem sc_is_name : FnScope N_is_name ["value"] (defScope s_is_name) := ⟨rfl, rfl, rfl, by decide +kernel, rfl, by decide +kernel, by decide +kernel⟩
abbrev s__law_dice : Stmt := top 8
abbrev N__law_dice : List Str := ["_law_script", "_law_spot", "_law_cell", "_law_left"]
theorem sc__law_dice : FnScope N__law_dice ["_law_script", "_law_spot"] (defScope s__law_dice) := ⟨rfl, rfl, rfl, by decide +kernel, rfl, by decide +kernel, by decide +kernel⟩
abbrev s__law_roll : Stmt := top 9
abbrev N__law_roll : List Str := ["_law_dice_here", "_law_total", "_law_found", "_law_one", "_law_two"]
theorem sc__law_roll : FnScope N__law_roll ["_law_dice_here", "_law_total"] (defScope s__law_roll) := ⟨rfl, rfl, rfl, by decide +kernel, rfl, by decide +kernel, by decide +kernel⟩
abbrev s__law_pick : Stmt := top 10
abbrev N__law_pick : List Str := ["_law_dice_here", "_law_items"]
theorem sc__law_pick : FnScope N__law_pick ["_law_dice_here", "_law_items"] (defScope s__law_pick) := ⟨rfl, rfl, rfl, by decide +kernel, rfl, by decide +kernel, by decide +kernel⟩
abbrev s__law_number : Stmt := top 11
abbrev N__law_number : List Str := ["_law_dice_here", "_law_near", "_law_number_here"]
theorem sc__law_number : FnScope N__law_number ["_law_dice_here"] (defScope s__law_number) := ⟨rfl, rfl, rfl, by decide +kernel, rfl, by decide +kernel, by decide +kernel⟩
abbrev s__law_word : Stmt := top 12
abbrev N__law_word : List Str := ["_law_dice_here", "_law_signs", "_law_turn"]
theorem sc__law_word : FnScope N__law_word ["_law_dice_here"] (defScope s__law_word) := ⟨rfl, rfl, rfl, by decide +kernel, rfl, by decide +kernel, by decide +kernel⟩
abbrev s_law : Stmt := top 13
abbrev N_law : List Str := ["_law_script", "_law_spot", "_law_dice_here", "_law_turn", "_law_number_here", "_law_word_here", "_law_is_short", "_law_is_fine", "_law_told", "_law_odd", "_law_sign"]
theorem sc_law : FnScope N_law ["_law_script"] (defScope s_law) := ⟨rfl, rfl, rfl, by decide +kernel, rfl, by decide +kernel, by decide +kernel⟩
abbrev BIG : Int := 1000000000000000000000000000000000000000000000000000000000000
structure Txt (K : PySem.W.Frag) (mg : Str → Option Value) : Prop where
  isinstance : mg "isinstance" = none
  int : mg "int" = none
  bool : mg "bool" = none
  str : mg "str" = none
  len : mg "len" = none
  max : mg "max" = none
  min : mg "min" = none
  abs : mg "abs" = none
  range : mg "range" = none
  repr : mg "repr" = none
  g_TOO_GREAT : ∃ u, mg "_TOO_GREAT" = some u ∧ RelV (.int BIG) u
  gMAX_LETTERS : ∃ u, mg "MAX_LETTERS" = some u ∧ RelV (.int 8) u
  gMAX_FIGURES : ∃ u, mg "MAX_FIGURES" = some u ∧ RelV (.int 60) u
/-! ## the dice -/
section
variable {P : Program} {w : World} {K : PySem.W.Frag} {mg : Str → Option Value} {base : Heap}
theorem c_dice (T : Txt K mg) (D : DefAt K mg "_law_dice" s__law_dice ["_law_script", "_law_spot"]) : CalG P w K mg base 1 "_law_dice" ["_law_script", "_law_spot"] (spDice K) := by
  refine calOk D sc__law_dice (fun xs H Q E h => ?_) (fun f cdv A out s H xs Q E hgd hr h => ?_)
  · obtain ⟨a, ns, i, rfl, _⟩ := h
    rfl
  · obtain ⟨a, ns, i, rfl, hS, hz, k⟩ := h
    have nd := sc__law_dice.nd
    refine ⟨_, (pss_cons (ps_set (i := 2) nd rfl (.inl rfl) (pe_ifExp (pt_cmpR op_lt (pv 1) (pe_callB call_len_seq (by rfl) T.len (by decide +kernel) (pa_cons (pv 0) pa_nil)) (nomark _)) (pe_callTy call_int1 (by rfl) T.int (by decide +kernel) (pa_cons (pe_ix ix_list (pv 0) (pv 1) (fun _ _ => rfl)) pa_nil)) (pe_op op_add (pe_op op_mul pe_int (pv 1)) pe_int)))
      (pss_cons (ps_set (i := 3) nd rfl (.inl rfl) (pe_op op_mod (pe_callB (call_max2 rfl) (by rfl) T.max (by decide +kernel) (pa_cons pe_int (pa_cons (pe_op op_sub (pe_callB call_abs (by rfl) T.abs (by decide +kernel) (pa_cons (pv 2) pa_nil)) (pe_op op_pow pe_int pe_int)) pa_nil))) (pe_op op_mulW (pe_op op_pow pe_int pe_int) (pe_op op_pow pe_int pe_int))))
      (pss_one (ps_ret (pe_lst (pa_cons (pv 3) (pa_cons (pe_op op_add (pe_op op_add (pe_op op_add (pe_op op_mul (pe_op op_mod (pe_callB call_abs (by rfl) T.abs (by decide +kernel) (pa_cons (pv 2) pa_nil)) pe_int) pe_int) (pe_op op_mul pe_int (pv 1))) (pe_op op_mul pe_int (pe_callTy call_int1 (by rfl) T.int (by decide +kernel) (pa_cons (pe_cmpR op_lt (pv 2) pe_int (nomark _)) pa_nil)))) pe_int) (pa_cons pe_int pa_nil)))))))), ?_⟩
    refine ⟨_, rfl, _, rfl, _, _, rfl, .inl hS, _, _, rfl, rfl, _, rfl, ite2 (fun hi => ?_) (fun hi => ?_)⟩
    · have hlt : i < ns.length := by
        have := of_decide_eq_true hi
        rw [List.length_map] at this
        omega
      have hat : (ns.map V.int)[i]? = some (.int ns[i]) := by
        rw [List.getElem?_map, List.getElem?_eq_getElem hlt]
        rfl
      refine ⟨_, rfl, _, rfl, _, _, _, _, rfl, rfl, hS, atI_nat hat, .inl ⟨_, rfl, ?_⟩⟩
      refine ⟨_, rfl, _, rfl, _, _, rfl, rfl, ⟨by decide, by decide, by decide⟩, _, _, rfl, rfl, _, _, rfl, _, _, rfl, rfl, ⟨by decide, by decide, by decide⟩, _, _, rfl, rfl, ⟨by decide, by decide, by decide⟩, _, _, rfl, rfl, mul60, _, _, rfl, rfl, pos60, ?_⟩
      refine ⟨_, rfl, _, rfl, _, rfl, _, _, rfl, rfl, (by show (0 : Int) < 1152921504606846961; decide), _, _, rfl, rfl, .inr ⟨by decide, by decide⟩, _, rfl, _, _, rfl, rfl, .inl ⟨by decide, by decide⟩, _, _, rfl, rfl, _, rfl, _, _, rfl, rfl, .inr ⟨_, rfl, _, _, rfl, rfl, .inl ⟨by decide, by decide⟩, _, _, rfl, rfl, _, _, rfl, rfl, (by show 3 ≤ sizeLine; decide), fun p1 n1 => ?_⟩⟩
      exact k _ _ _ _ n1
    · refine ⟨_, rfl, _, _, rfl, rfl, .inl ⟨by decide, by decide⟩, _, _, rfl, rfl, ?_⟩
      refine ⟨_, rfl, _, rfl, _, _, rfl, rfl, ⟨by decide, by decide, by decide⟩, _, _, rfl, rfl, _, _, rfl, _, _, rfl, rfl, ⟨by decide, by decide, by decide⟩, _, _, rfl, rfl, ⟨by decide, by decide, by decide⟩, _, _, rfl, rfl, mul60, _, _, rfl, rfl, pos60, ?_⟩
      refine ⟨_, rfl, _, rfl, _, rfl, _, _, rfl, rfl, (by show (0 : Int) < 1152921504606846961; decide), _, _, rfl, rfl, .inr ⟨by decide, by decide⟩, _, rfl, _, _, rfl, rfl, .inl ⟨by decide, by decide⟩, _, _, rfl, rfl, _, rfl, _, _, rfl, rfl, .inr ⟨_, rfl, _, _, rfl, rfl, .inl ⟨by decide, by decide⟩, _, _, rfl, rfl, _, _, rfl, rfl, (by show 3 ≤ sizeLine; decide), fun p1 n1 => ?_⟩⟩
      exact k _ _ _ _ n1
theorem c_roll (T : Txt K mg) (D : DefAt K mg "_law_roll" s__law_roll ["_law_dice_here", "_law_total"]) : CalG P w K mg base 1 "_law_roll" ["_law_dice_here", "_law_total"] spRoll := by
  refine calOk D sc__law_roll (fun xs H Q E h => ?_) (fun f cdv A out s H xs Q E hgd hr h => ?_)
  · obtain ⟨d, t, rfl, _⟩ := h
    rfl
  · obtain ⟨d, t, rfl, ⟨l, sd, c, hd⟩, ht, hlog, k⟩ := h
    have nd := sc__law_roll.nd
    have fr : ∀ (u : HO) (b : Addr), H b = none → upd H d u b = none := fun u b e => by
      rw [upd_ne (fun q => by rw [q, hd] at e; cases e)]
      exact e
    refine ⟨_, (pss_cons (ps_if (pt_cmpR op_gt (pe_ix ix_list (pv 0) pe_int (fun _ _ => rfl)) pe_int (nomark _)) (pss_cons (ps_set (i := 2) nd rfl (.inl rfl) (pe_op op_mod (pe_callTy call_int1 (by rfl) T.int (by decide +kernel) (pa_cons (pe_ix ix_list (pv 0) pe_int (fun _ _ => rfl)) pa_nil)) (pv 1)))
        (pss_cons (ps_asg (pe_op op_fdivW (pe_ix ix_list (pv 0) pe_int (fun _ _ => rfl)) (pv 1)) (pg_sub (pv 0) pe_int set_list))
        (pss_one (ps_ret (pv 2))))) pss_nil)
      (pss_cons (ps_asg (pe_op op_add (pe_ix ix_list (pv 0) pe_int (fun _ _ => rfl)) pe_int) (pg_sub (pv 0) pe_int set_list))
      (pss_cons (ps_set (i := 3) nd rfl (.inl rfl) (pe_op op_mod (pe_callTy call_int1 (by rfl) T.int (by decide +kernel) (pa_cons (pe_op op_add (pe_ix ix_list (pv 0) pe_int (fun _ _ => rfl)) (pe_op op_mul pe_int (pe_ix ix_list (pv 0) pe_int (fun _ _ => rfl)))) pa_nil)) pe_int))
      (pss_cons (ps_set (i := 4) nd rfl (.inl rfl) (pe_op op_add (pe_op op_mul (pe_op op_mod (pe_callTy call_int1 (by rfl) T.int (by decide +kernel) (pa_cons (pe_op op_add (pe_op op_mulW (pv 3) (pv 3)) (pe_op op_mul pe_int (pe_ix ix_list (pv 0) pe_int (fun _ _ => rfl)))) pa_nil)) pe_int) pe_int) (pv 3)))
      (pss_one (ps_ret (pe_op op_mod (pe_callTy call_int1 (by rfl) T.int (by decide +kernel) (pa_cons (pe_op op_fdivW (pv 4) pe_int) pa_nil)) (pv 1)))))))), ?_⟩
    refine ⟨_, rfl, _, _, _, _, rfl, rfl, SqL.of hd, atI_nat (j := 0) rfl, _, _, rfl, rfl, _, rfl, ite2 (fun hl => ?_) (fun hl => ?_)⟩
    · refine ⟨_, rfl, _, _, _, _, rfl, rfl, SqL.of hd, atI_nat (j := 0) rfl, .inl ⟨_, rfl, _, rfl, _, _, rfl, rfl, ht, ?_⟩⟩
      refine ⟨_, rfl, _, _, _, _, rfl, rfl, SqL.of hd, atI_nat (j := 0) rfl, _, rfl, _, _, rfl, rfl, ⟨ht, hlog⟩, _, rfl, _, _, _, 0, rfl, rfl, hd, rfl, ?_⟩
      refine ⟨_, rfl, ?_⟩
      exact k _ _ (Int.emod_nonneg _ (by omega)) (Int.emod_lt_of_pos _ ht) (Mv.refl ⟨l, sd, c, hd⟩).rolled (fr _)
    · refine ⟨_, rfl, _, _, _, _, rfl, rfl, SqL.of hd, atI_nat (j := 2) rfl, _, _, rfl, rfl, _, rfl, _, _, _, 2, rfl, rfl, hd, rfl, ?_⟩
      have h1 : upd H d (.lst [.int l, .int sd, .int (c + 1)]) d = some (.lst [.int l, .int sd, .int (c + 1)]) := upd_same
      refine ⟨_, rfl, _, _, _, _, rfl, rfl, SqL.of h1, atI_nat (j := 1) rfl, _, rfl, _, _, _, _, rfl, rfl, SqL.of h1, atI_nat (j := 2) rfl, _, _, rfl, rfl, .inl ⟨by decide, by decide⟩, _, _, rfl, rfl, .inl ⟨_, rfl, _, _, rfl, rfl, (by show (0 : Int) < 2305843009213693669; decide), ?_⟩⟩
      have hb := Int.emod_lt_of_pos (sd + 32452843 * (c + 1)) (show (0 : Int) < 2305843009213693669 by decide)
      have hn := Int.emod_nonneg (sd + 32452843 * (c + 1)) (show (2305843009213693669 : Int) ≠ 0 by decide)
      have hs : ((sd + 32452843 * (c + 1)) % 2305843009213693669).natAbs < 2 ^ 62 := by
        have e : (2 : Nat) ^ 62 = 4611686018427387904 := by decide
        omega
      refine ⟨_, rfl, _, rfl, _, _, rfl, rfl, wide_mul hs hs (by decide) (by decide) (by decide), _, rfl, _, _, _, _, rfl, rfl, SqL.of h1, atI_nat (j := 2) rfl, _, _, rfl, rfl, .inl ⟨by decide, by decide⟩, _, _, rfl, rfl, .inl ⟨_, rfl, _, _, rfl, rfl, (by show (0 : Int) < 1152921504606846869; decide), _, _, rfl, rfl, .inr ⟨by decide, by decide⟩, _, rfl, _, _, rfl, rfl, ?_⟩⟩
      refine ⟨_, rfl, _, _, rfl, rfl, ⟨by decide, by decide +kernel⟩, .inl ⟨_, rfl, _, rfl, _, _, rfl, rfl, ht, ?_⟩⟩
      exact k _ _ (Int.emod_nonneg _ (by omega)) (Int.emod_lt_of_pos _ ht) (Mv.refl ⟨l, sd, c, hd⟩).rolled (fr _)
theorem c_pick (T : Txt K mg) (C__law_roll : CalG P w K mg base 1 "_law_roll" ["_law_dice_here", "_law_total"] spRoll) (D : DefAt K mg "_law_pick" s__law_pick ["_law_dice_here", "_law_items"]) : CalG P w K mg base 2 "_law_pick" ["_law_dice_here", "_law_items"] (spPick K) := by
  refine calOk D sc__law_pick (fun xs H Q E h => ?_) (fun f cdv A out s H xs Q E hgd hr h => ?_)
  · obtain ⟨d, a, ys, rfl, _⟩ := h
    rfl
  · obtain ⟨d, a, ys, rfl, hd, hS, ne, h0, hz, k⟩ := h
    have nd := sc__law_pick.nd
    refine ⟨_, (pss_one (ps_ret (pe_ix ix_list (pv 1) (pe_k C__law_roll hgd hr (by decide) rfl (pa_cons (pv 0) (pa_cons (pe_callB call_len_seq (by rfl) T.len (by decide +kernel) (pa_cons (pv 1) pa_nil)) pa_nil))) (fun _ _ => rfl)))), ?_⟩
    have small : ((ys.length : Nat) : Int).natAbs.log2 < 9000 := by
      have e : ((ys.length : Nat) : Int).natAbs = ys.length := Int.natAbs_natCast _
      rw [e]
      exact Nat.lt_of_le_of_lt (Nat.log2_le_self _) (by omega)
    refine ⟨_, rfl, _, rfl, _, rfl, _, _, rfl, .inl hS, _, _, rfl, hd, (by omega), small, fun r1 H1 a1 b1 m1 f1 => ?_⟩
    obtain ⟨i, rfl⟩ : ∃ i : Nat, r1 = (i : Int) := ⟨r1.toNat, by omega⟩
    have hi : i < ys.length := by omega
    refine ⟨_, _, _, _, rfl, rfl, m1.sql ne hS, atI_nat (List.getElem?_eq_getElem hi), k _ _ _ (List.getElem?_eq_getElem hi) m1 f1⟩
end

/-! ## is_integer -/
def smallB (i : Int) : Bool := decide (-BIG < i) && decide (i < BIG)
def spIsInt (K : PySem.W.Frag) : Sp := fun vs H Q _ =>
  (∃ i : Int, vs = [.int i] ∧ Q (.bl (smallB i)) H) ∨ (∃ b : Bool, vs = [.bl b] ∧ Q (.bl false) H) ∨
  (∃ (x : V) (n : String), vs = [x] ∧ TyX K H x (.type n) ∧ kitB n "int" = some false ∧ Q (.bl false) H)
section
variable {P : Program} {w : World} {K : PySem.W.Frag} {mg : Str → Option Value} {base : Heap}
theorem c_is_integer (T : Txt K mg) (D : DefAt K mg "is_integer" s_is_integer ["value"]) : CalG P w K mg base 1 "is_integer" ["value"] (spIsInt K) := by
  refine calOk D sc_is_integer (fun xs H Q E h => ?_) (fun f cdv A out s H xs Q E hgd hr h => ?_)
  · rcases h with ⟨i, rfl, _⟩ | ⟨b, rfl, _⟩ | ⟨x, n, rfl, _⟩ <;> rfl
  · have nd := sc_is_integer.nd
    refine ⟨_, (pss_one (ps_ret (pe_and (pe_callB call_isi (by rfl) T.isinstance (by decide +kernel) (pa_cons (pv 0) (pa_cons (pe_ty "int" rfl T.int (by decide +kernel)) pa_nil))) (pe_and (pe_not (pe_callB call_isi (by rfl) T.isinstance (by decide +kernel) (pa_cons (pv 0) (pa_cons (pe_ty "bool" rfl T.bool (by decide +kernel)) pa_nil)))) (pe_one (pe_chain op_lt op_lt (pe_un un_neg (pe_gv rfl T.g_TOO_GREAT)) (pv 0) (pe_gv rfl T.g_TOO_GREAT))))))), ?_⟩
    rcases h with ⟨i, rfl, k⟩ | ⟨b, rfl, k⟩ | ⟨x, n, rfl, ty, hb, k⟩
    · refine ⟨_, rfl, _, _, _, _, true, rfl, .ty _, .base (.int i), kit_ty (by decide +kernel), true, rfl, iteT ?_⟩
      refine ⟨_, rfl, _, _, _, _, false, rfl, .ty _, .base (.int i), kit_ty (by decide +kernel), false, rfl, true, rfl, iteT ?_⟩
      refine ⟨_, rfl, _, rfl, _, _, rfl, rfl, _, rfl, ite2 (fun h1 => ?_) (fun h1 => ?_)⟩
      · refine ⟨_, _, rfl, rfl, ?_⟩
        have e : smallB i = decide (i < BIG) := by
          unfold smallB
          rw [h1]
          rfl
        rw [e] at k
        exact k
      · have e : smallB i = false := by
          unfold smallB
          rw [Bool.eq_false_iff.mpr h1]
          rfl
        rw [e] at k
        exact k
    · refine ⟨_, rfl, _, _, _, _, true, rfl, .ty _, .base (.bl b), kit_ty (by decide +kernel), true, rfl, iteT ?_⟩
      refine ⟨_, rfl, _, _, _, _, true, rfl, .ty _, .base (.bl b), kit_ty (by decide +kernel), true, rfl, false, rfl, iteF ?_⟩
      exact k
    · refine ⟨_, rfl, _, _, _, _, false, rfl, .ty _, ty, kit_ty hb, false, rfl, iteF ?_⟩
      exact k
end
def spIsCount (K : PySem.W.Frag) : Sp := fun vs H Q _ =>
  (∃ i : Int, vs = [.int i] ∧ Q (.bl (smallB i && decide (0 ≤ i))) H) ∨ (∃ b : Bool, vs = [.bl b] ∧ Q (.bl false) H) ∨
  (∃ (x : V) (n : String), vs = [x] ∧ TyX K H x (.type n) ∧ kitB n "int" = some false ∧ Q (.bl false) H)
section
variable {P : Program} {w : World} {K : PySem.W.Frag} {mg : Str → Option Value} {base : Heap}
theorem c_is_count (T : Txt K mg) (C_is_integer : CalG P w K mg base 1 "is_integer" ["value"] (spIsInt K)) (D : DefAt K mg "is_count" s_is_count ["value"]) :
    CalG P w K mg base 2 "is_count" ["value"] (spIsCount K) := by
  refine calOk D sc_is_count (fun xs H Q E h => ?_) (fun f cdv A out s H xs Q E hgd hr h => ?_)
  · rcases h with ⟨i, rfl, _⟩ | ⟨b, rfl, _⟩ | ⟨x, n, rfl, _⟩ <;> rfl
  · have nd := sc_is_count.nd
    refine ⟨_, (pss_one (ps_ret (pe_and (pe_k C_is_integer hgd hr (by decide) rfl (pa_cons (pv 0) pa_nil)) (pe_one (pe_cmpR op_ge (pv 0) pe_int (nomark _)))))), ?_⟩
    rcases h with ⟨i, rfl, k⟩ | ⟨b, rfl, k⟩ | ⟨x, n, rfl, ty, hb, k⟩
    · refine ⟨_, rfl, .inl ⟨_, rfl, _, rfl, ite2 (fun h1 => ?_) (fun h1 => ?_)⟩⟩
      · refine ⟨_, rfl, _, _, rfl, rfl, ?_⟩
        rw [h1] at k
        exact k
      · rw [Bool.eq_false_iff.mpr h1] at k
        exact k
    · exact ⟨_, rfl, .inr (.inl ⟨_, rfl, _, rfl, iteF k⟩)⟩
    · exact ⟨_, rfl, .inr (.inr ⟨_, _, rfl, ty, hb, _, rfl, iteF k⟩)⟩
end
/-! ## is_name -/
def nameB (z : Str) : Bool := decide (1 ≤ (z.length : Int)) && (decide ((z.length : Int) ≤ 8) && (Txt.isascii z && (Txt.isalpha z && Txt.islower z)))
def spIsName (K : PySem.W.Frag) : Sp := fun vs H Q _ =>
  (∃ z : Str, vs = [.str z] ∧ z.length ≤ sizeLine ∧ Q (.bl (nameB z)) H) ∨
  (∃ (x : V) (n : String), vs = [x] ∧ TyX K H x (.type n) ∧ kitB n "str" = some false ∧ Q (.bl false) H)
section
variable {P : Program} {w : World} {K : PySem.W.Frag} {mg : Str → Option Value} {base : Heap}
theorem c_is_name (T : Txt K mg) (D : DefAt K mg "is_name" s_is_name ["value"]) : CalG P w K mg base 1 "is_name" ["value"] (spIsName K) := by
  refine calOk D sc_is_name (fun xs H Q E h => ?_) (fun f cdv A out s H xs Q E hgd hr h => ?_)
  · rcases h with ⟨z, rfl, _⟩ | ⟨x, n, rfl, _⟩ <;> rfl
  · have nd := sc_is_name.nd
    refine ⟨_, (pss_cons (ps_if (PW.pt (pw_or (pt_not (pt_val (pe_callB call_isi (by rfl) T.isinstance (by decide +kernel) (pa_cons (pv 0) (pa_cons (pe_ty "str" rfl T.str (by decide +kernel)) pa_nil))))) (pw_or1 (pt_not (pt_chain op_le op_le pe_int (pe_callB call_len_str (by rfl) T.len (by decide +kernel) (pa_cons (pv 0) pa_nil)) (pe_gv rfl T.gMAX_LETTERS)))))) (pss_one (ps_ret pe_bl)) pss_nil)
      (pss_one (ps_ret (pe_and (pe_bm0 PySem.F.plainAttrs_str PySem.F.slot_str_isascii PySem.F.type_str_isascii mt_isascii (pv 0)) (pe_and (pe_bm0 PySem.F.plainAttrs_str PySem.F.slot_str_isalpha PySem.F.type_str_isalpha mt_isalpha (pv 0)) (pe_one (pe_bm0 PySem.F.plainAttrs_str PySem.F.slot_str_islower PySem.F.type_str_islower mt_islower (pv 0)))))))), ?_⟩
    rcases h with ⟨z, rfl, hz, k⟩ | ⟨x, n, rfl, ty, hb, k⟩
    · refine ⟨_, rfl, _, _, _, _, true, rfl, .ty _, .base (.str z), kit_ty (by decide +kernel), true, rfl, iteF ?_⟩
      refine ⟨_, rfl, _, rfl, hz, _, _, rfl, rfl, _, rfl, ite2 (fun h1 => ?_) (fun h1 => ?_)⟩
      · refine ⟨_, _, rfl, rfl, _, rfl, ite2 (fun h2 => ?_) (fun h2 => ?_)⟩
        · have h2' : ¬ decide ((z.length : Int) ≤ 8) = true := fun q => by
            rw [q] at h2
            cases h2
          have e : nameB z = false := by
            unfold nameB
            rw [Bool.eq_false_iff.mpr h2', Bool.false_and, Bool.and_false]
          rw [e] at k
          exact k
        · have h2' : decide ((z.length : Int) ≤ 8) = true := by
            cases q : decide ((z.length : Int) ≤ 8) with
            | true => rfl
            | false => exact absurd (show (!decide ((z.length : Int) ≤ 8)) = true by rw [q]; rfl) h2
          have e : nameB z = (Txt.isascii z && (Txt.isalpha z && Txt.islower z)) := by
            unfold nameB
            rw [h1, h2', Bool.true_and, Bool.true_and]
          rw [e] at k
          refine ⟨_, rfl, rfl, _, rfl, rfl, True.intro, _, rfl, ite2 (fun h3 => ?_) (fun h3 => ?_)⟩
          · rw [h3] at k
            refine ⟨_, rfl, rfl, _, rfl, rfl, True.intro, _, rfl, ite2 (fun h4 => ?_) (fun h4 => ?_)⟩
            · rw [h4] at k
              exact ⟨_, rfl, rfl, _, rfl, rfl, True.intro, k⟩
            · rw [Bool.eq_false_iff.mpr h4] at k
              exact k
          · rw [Bool.eq_false_iff.mpr h3] at k
            exact k
      · have e : nameB z = false := by
          unfold nameB
          rw [Bool.eq_false_iff.mpr h1, Bool.false_and]
        rw [e] at k
        exact ⟨_, rfl, iteT k⟩
    · refine ⟨_, rfl, _, _, _, _, false, rfl, .ty _, ty, kit_ty hb, false, rfl, iteT ?_⟩
      exact k
end
/-! ## numbers and words -/
def spNumber : Sp := fun vs H Q _ => ∃ d : Addr, vs = [.ref d] ∧ DiceAt H d ∧ ∀ (n : Int) (H' : Hp), n.natAbs < 2 ^ 310 → Mv d H H' → Q (.int n) H'
section
variable {P : Program} {w : World} {K : PySem.W.Frag} {mg : Str → Option Value} {base : Heap}
theorem c_number (T : Txt K mg) (C__law_roll : CalG P w K mg base 1 "_law_roll" ["_law_dice_here", "_law_total"] spRoll)
    (C__law_pick : CalG P w K mg base 2 "_law_pick" ["_law_dice_here", "_law_items"] (spPick K)) (D : DefAt K mg "_law_number" s__law_number ["_law_dice_here"]) :
    CalG P w K mg base 3 "_law_number" ["_law_dice_here"] spNumber := by
  refine calOk D sc__law_number (fun xs H Q E h => ?_) (fun f cdv A out s H xs Q E hgd hr h => ?_)
  · obtain ⟨d, rfl, _⟩ := h
    rfl
  · obtain ⟨d, rfl, hd, k⟩ := h
    have nd := sc__law_number.nd
    refine ⟨_, (pss_cons (ps_set (i := 1) nd rfl (.inl rfl) (pe_lst (pa_cons pe_int (pa_cons pe_int (pa_cons (pe_op op_pow pe_int pe_int) (pa_cons (pe_op op_pow pe_int pe_int) (pa_cons (pe_op op_pow pe_int pe_int) (pa_cons (pe_op op_pow pe_int pe_int) (pa_cons (pe_op op_pow pe_int pe_int) (pa_cons (pe_op op_mulW (pe_op op_pow pe_int pe_int) (pe_op op_pow pe_int pe_int)) pa_nil))))))))))
      (pss_cons (ps_set (i := 2) nd rfl (.inl rfl) (pe_op op_sub (pe_op op_add (pe_k C__law_pick hgd hr (by decide) rfl (pa_cons (pv 0) (pa_cons (pv 1) pa_nil))) (pe_k C__law_roll hgd hr (by decide) rfl (pa_cons (pv 0) (pa_cons pe_int pa_nil)))) pe_int))
      (pss_one (ps_ret (pe_ifExp (pt_cmpR op_eq (pe_k C__law_roll hgd hr (by decide) rfl (pa_cons (pv 0) (pa_cons pe_int pa_nil))) pe_int (nomark _)) (pe_op op_sub pe_int (pv 2)) (pv 2)))))), ?_⟩
    refine ⟨_, _, rfl, rfl, ⟨by decide, by decide, by decide⟩, _, _, rfl, rfl, ⟨by decide, by decide, by decide⟩, _, _, rfl, rfl, ⟨by decide, by decide, by decide⟩, _, _, rfl, rfl, ⟨by decide, by decide, by decide⟩, _, _, rfl, rfl, ⟨by decide, by decide, by decide⟩, _, _, rfl, rfl, ⟨by decide, by decide, by decide⟩, _, _, rfl, rfl, ⟨by decide, by decide, by decide⟩, _, _, rfl, rfl, mul45, (by show 8 ≤ sizeLine; decide), fun p1 n1 => ?_⟩
    have ne := hd.ne n1
    have m0 : Mv d H (upd H p1 (.lst [.int 0, .int 1, .int (10 ^ Int.toNat 20), .int (10 ^ Int.toNat 59), .int (10 ^ Int.toNat 60), .int (10 ^ Int.toNat 60), .int (10 ^ Int.toNat 61), .int (10 ^ Int.toNat 45 * 10 ^ Int.toNat 45)])) := (Mv.refl hd).new n1
    refine ⟨_, rfl, _, rfl, _, _, _, rfl, m0.dice, SqL.of upd_same, ne, (by show 0 < 8; decide), (by show 8 ≤ 1000; decide), fun i2 x2 H2 e2 m2 f2 => ?_⟩
    obtain ⟨j, rfl, hj⟩ : ∃ j : Int, x2 = .int j ∧ 0 ≤ j ∧ j ≤ 10 ^ 90 := by
      match i2, e2 with
      | 0, e => cases e; exact ⟨_, rfl, by decide +kernel, by decide +kernel⟩
      | 1, e => cases e; exact ⟨_, rfl, by decide +kernel, by decide +kernel⟩
      | 2, e => cases e; exact ⟨_, rfl, by decide +kernel, by decide +kernel⟩
      | 3, e => cases e; exact ⟨_, rfl, by decide +kernel, by decide +kernel⟩
      | 4, e => cases e; exact ⟨_, rfl, by decide +kernel, by decide +kernel⟩
      | 5, e => cases e; exact ⟨_, rfl, by decide +kernel, by decide +kernel⟩
      | 6, e => cases e; exact ⟨_, rfl, by decide +kernel, by decide +kernel⟩
      | 7, e => cases e; exact ⟨_, rfl, by decide +kernel, by decide +kernel⟩
      | n + 8, e => cases e
    have l5 : Nat.log2 5 < 9000 := by decide +kernel
    have l2 : Nat.log2 2 < 9000 := by decide +kernel
    refine ⟨_, rfl, _, _, rfl, m2.dice, (by decide), l5, fun r3 H3 a3 b3 m3 f3 => ⟨_, _, rfl, rfl, _, _, rfl, rfl, ?_⟩⟩
    have big : (10 : Int) ^ 90 + 10 < 2 ^ 310 := by decide +kernel
    refine ⟨_, rfl, _, _, rfl, m3.dice, (by decide), l2, fun r4 H4 a4 b4 m4 f4 => ⟨rfl, _, rfl, ite2 (fun h4 => ?_) (fun h4 => ?_)⟩⟩
    · exact ⟨_, rfl, _, _, rfl, rfl, k _ _ (by omega) (((m0.trans m2).trans m3).trans m4)⟩
    · exact ⟨_, rfl, k _ _ (by omega) (((m0.trans m2).trans m3).trans m4)⟩
end


def spWord : Sp := fun vs H Q _ => ∃ d : Addr, vs = [.ref d] ∧ DiceAt H d ∧ ∀ (z : Str) (H' : Hp), z.length ≤ 10 → (∀ c ∈ z.cps.toList, c < 128) → Mv d H H' → Q (.str z) H'
theorem signs128 : ∀ c ∈ ("abcdefghijklmnopqrstuvwxyzabcdefghijklmnopqrstuvwxyzA0 _." : Str).cps.toList, c < 128 := by decide +kernel
theorem signs57 : ("abcdefghijklmnopqrstuvwxyzabcdefghijklmnopqrstuvwxyzA0 _." : Str).cps.toList.length = 57 := by decide +kernel
open TL in
theorem ones_join (ys : List Str) (h : ∀ y ∈ ys, y.length = 1 ∧ ∀ c ∈ y.cps.toList, c < 128) : (ys.map (·.length)).sum = ys.length ∧ (Txt.join "" ys).length = ys.length ∧ ∀ c ∈ (Txt.join "" ys).cps.toList, c < 128 := by
  have key : ∀ ys : List Str, (∀ y ∈ ys, y.length = 1 ∧ ∀ c ∈ y.cps.toList, c < 128) → ((ys.map (·.length)).sum = ys.length ∧ (joinL [] (ys.map tl)).length = ys.length ∧ ∀ c ∈ joinL [] (ys.map tl), c < 128) := by
    intro ys
    induction ys with
    | nil => exact fun _ => ⟨rfl, rfl, fun _ z => nomatch z⟩
    | cons y r ih =>
      intro h
      obtain ⟨i1, i2, i3⟩ := ih fun z hz => h z (List.mem_cons_of_mem _ hz)
      obtain ⟨h1, h2⟩ := h y List.mem_cons_self
      have hy : (tl y).length = 1 := h1
      cases r with
      | nil => exact ⟨by rw [List.map_cons, List.sum_cons, h1]; rfl, hy, h2⟩
      | cons z r =>
        refine ⟨by rw [List.map_cons, List.sum_cons, h1, i1, List.length_cons, List.length_cons, List.length_cons]; omega, ?_, fun c hc => ?_⟩
        · show (tl y ++ ([] ++ joinL [] ((z :: r).map tl))).length = _
          rw [List.length_append, List.nil_append, i2, hy, List.length_cons, List.length_cons, List.length_cons]
          omega
        · have hc2 : c ∈ tl y ++ ([] ++ joinL [] ((z :: r).map tl)) := hc
          rw [List.nil_append] at hc2
          rcases List.mem_append.mp hc2 with q | q
          · exact h2 c q
          · exact i3 c q
  obtain ⟨k1, k2, k3⟩ := key ys h
  have e : tl (Txt.join "" ys) = joinL [] (ys.map tl) := by
    rw [join_eq]
    exact tl_join "" ys
  refine ⟨k1, ?_, fun c hc => k3 c ?_⟩
  · show (tl (Txt.join "" ys)).length = _
    rw [e]
    exact k2
  · rw [← e]
    exact hc
section
variable {P : Program} {w : World} {K : PySem.W.Frag} {mg : Str → Option Value} {base : Heap}
theorem c_word (T : Txt K mg) (C__law_roll : CalG P w K mg base 1 "_law_roll" ["_law_dice_here", "_law_total"] spRoll) (D : DefAt K mg "_law_word" s__law_word ["_law_dice_here"]) :
    CalG P w K mg base 2 "_law_word" ["_law_dice_here"] spWord := by
  refine calOk D sc__law_word (fun xs H Q E h => ?_) (fun f cdv A out s H xs Q E hgd hr h => ?_)
  · obtain ⟨d, rfl, _⟩ := h
    rfl
  · obtain ⟨d, rfl, hd, k⟩ := h
    have nd := sc__law_word.nd
    refine ⟨_, (pss_cons (ps_set (i := 1) nd rfl (.inr rfl) pe_str)
      (pss_one (ps_ret (pe_join pe_str (pe_lc (own := [("_law_turn", 2)]) (g := gName 2) (by rfl) nd (pi_range1 rfl T.range (pa_cons (pe_k C__law_roll hgd hr (by decide) rfl (pa_cons (pv 0) (pa_cons pe_int pa_nil))) pa_nil)) (blkOk_by (own := [("_law_turn", 2)]) (N := N__law_word) (sc := defScope s__law_word) (by decide +kernel)) (fun _ _ _ _ _ => pg_name (i := 2) nd rfl (.inl rfl)) (fun _ _ _ _ _ => pts_nil) (fun _ _ _ _ _ => pe_ix ix_str (pv 1) (pe_k C__law_roll hgd hr (by decide) rfl (pa_cons (pv 0) (pa_cons pe_int pa_nil))) (fun _ _ => rfl))))))), ?_⟩
    have l11 : Nat.log2 11 < 9000 := by decide +kernel
    have l57 : Nat.log2 57 < 9000 := by decide +kernel
    refine ⟨⟨_, rfl⟩, _, rfl, d, 11, rfl, hd, (by decide), l11, fun r1 H1 a1 b1 m1 f1 => ?_⟩
    refine ⟨_, rfl, (by omega), (by omega), fun Dl nD => ?_⟩
    have neD := m1.dice.ne nD
    refine lc_range (fun i H' => ∃ ys : List Str, Mv d H H' ∧ H' Dl = some (.lst (ys.map V.str)) ∧ ys.length = i ∧ (∀ y ∈ ys, y.length = 1 ∧ ∀ c ∈ y.cps.toList, c < 128)) ?_ ?_ ?_
    · exact ⟨[], m1.new nD, upd_same, rfl, fun _ z => nomatch z⟩
    · rintro i H2 hi ⟨ys, m2, hD, hl, hy⟩
      refine ⟨rfl, ?_⟩
      refine ⟨_, rfl, _, rfl, d, 57, rfl, m2.dice, (by decide), l57, fun r3 H3 a3 b3 m3 f3 => ?_⟩
      obtain ⟨j, rfl⟩ : ∃ j : Nat, r3 = (j : Int) := ⟨r3.toNat, by omega⟩
      have hj : j < ("abcdefghijklmnopqrstuvwxyzabcdefghijklmnopqrstuvwxyzA0 _." : Str).cps.toList.length := by rw [signs57]; omega
      obtain ⟨ch, hch⟩ : ∃ ch, ("abcdefghijklmnopqrstuvwxyzabcdefghijklmnopqrstuvwxyzA0 _." : Str).cps.toList[j]? = some ch := ⟨_, List.getElem?_eq_getElem hj⟩
      refine ⟨_, _, _, rfl, rfl, (by decide +kernel), atI_nat hch, ys.map V.str, m3.get neD hD, ?_, ?_⟩
      · rw [List.length_map]
        exact small1000 (by omega)
      · refine ⟨ys ++ [⟨#[ch]⟩], ?_, ?_, ?_, ?_⟩
        · exact (m2.trans m3).set (m1.free nD) neD
        · rw [upd_same, List.map_append]
          rfl
        · rw [List.length_append, hl]
          rfl
        · intro y hy2
          rcases List.mem_append.mp hy2 with q | q
          · exact hy y q
          · rw [List.mem_singleton.mp q]
            refine ⟨rfl, fun c hc => ?_⟩
            rw [List.mem_singleton.mp hc]
            exact signs128 _ (List.mem_of_getElem? hch)
    · rintro H2 ⟨ys, m2, hD, hl, hy⟩
      obtain ⟨e1, e2, e3⟩ := ones_join ys hy
      refine ⟨_, _, ys, rfl, rfl, .inl (SqL.of hD), ?_, ?_⟩
      · rw [e1]
        have : ys.length ≤ 11 := by omega
        show ys.length + ys.length * 0 ≤ 16777216
        omega
      · exact k _ _ (by rw [e2]; omega) e3 m2
end

/-! ## what the law reckons -/
def lowB (c : Nat) : Bool := decide (97 ≤ c) && decide (c ≤ 122)
def fineB (z : Str) : Bool := decide ((0 : Int) < (z.length : Int)) && (decide ((z.length : Int) < 9) && z.cps.toList.all lowB)
theorem ascii_facts : ∀ c < 128, (Unicode.isAlpha c = (lowB c || Unicode.isUpper c)) ∧ (Unicode.isLower c = lowB c) ∧ (Unicode.isTitle c = false) ∧ (lowB c && Unicode.isUpper c) = false := by decide +kernel
theorem name_fine (z : Str) (h : ∀ c ∈ z.cps.toList, c < 128) : nameB z = fineB z := by
  have e1 : decide (1 ≤ (z.length : Int)) = decide ((0 : Int) < (z.length : Int)) := by
    by_cases q : (0 : Int) < (z.length : Int)
    · rw [decide_eq_true q, decide_eq_true (by omega)]
    · rw [decide_eq_false q, decide_eq_false (by omega)]
  have e2 : decide ((z.length : Int) ≤ 8) = decide ((z.length : Int) < 9) := by
    by_cases q : (z.length : Int) < 9
    · rw [decide_eq_true q, decide_eq_true (by omega)]
    · rw [decide_eq_false q, decide_eq_false (by omega)]
  unfold nameB fineB
  rw [e1, e2]
  by_cases q : (0 : Int) < (z.length : Int)
  · congr 2
    have hl : z.length = z.cps.toList.length := by simp [Str.length]
    have a1 : Txt.isascii z = z.cps.toList.all fun c => decide (c < 128) := by
      unfold Txt.isascii
      rw [Array.all_toList]
    have a2 : Txt.isalpha z = (decide (z.length > 0) && z.cps.toList.all Unicode.isAlpha) := by
      unfold Txt.isalpha
      rw [Array.all_toList]
    have a3 : Txt.islower z = (z.cps.toList.any Unicode.isLower && !z.cps.toList.any fun c => Unicode.isUpper c || Unicode.isTitle c) := by
      unfold Txt.islower
      rw [Array.any_toList, Array.any_toList]
    rw [a1, a2, a3]
    have hp : 0 < z.cps.toList.length := by omega
    rw [decide_eq_true (show z.length > 0 by omega), Bool.true_and]
    generalize z.cps.toList = l at h hp
    have key : ∀ l : List Nat, (∀ c ∈ l, c < 128) → (l.all fun c => decide (c < 128)) = true ∧
        (l.all Unicode.isAlpha && !l.any fun c => Unicode.isUpper c || Unicode.isTitle c) = l.all lowB ∧ (l.all lowB = true → 0 < l.length → l.any Unicode.isLower = true) := by
      intro l
      induction l with
      | nil => exact fun _ => ⟨rfl, rfl, fun _ z => nomatch z⟩
      | cons c r ih =>
        intro h
        obtain ⟨i1, i2, i3⟩ := ih fun x hx => h x (List.mem_cons_of_mem _ hx)
        have hc := h c List.mem_cons_self
        obtain ⟨f1, f2, f3, f4⟩ := ascii_facts c hc
        refine ⟨?_, ?_, fun ha _ => ?_⟩
        · rw [List.all_cons, i1, decide_eq_true hc]
          rfl
        · rw [List.all_cons, List.any_cons, List.all_cons, ← i2, f1, f3, Bool.or_false]
          cases h1 : lowB c <;> cases h2 : Unicode.isUpper c <;> cases h3 : r.all Unicode.isAlpha <;> cases h4 : (r.any fun c => Unicode.isUpper c || Unicode.isTitle c) <;> simp_all
        · rw [List.any_cons, f2]
          rw [List.all_cons] at ha
          rw [(Bool.and_eq_true_iff.mp ha).1]
          rfl
    obtain ⟨k1, k2, k3⟩ := key l h
    rw [k1, Bool.true_and, ← k2]
    cases h1 : l.all Unicode.isAlpha with
    | false => rw [Bool.false_and, Bool.false_and]
    | true =>
      cases h2 : (l.any fun c => Unicode.isUpper c || Unicode.isTitle c) with
      | true => simp
      | false =>
        rw [h1, h2] at k2
        rw [k3 k2.symm hp]
        rfl
  · rw [decide_eq_false q, Bool.false_and, Bool.false_and]
theorem short_small (n : Int) : decide (((Str.ofString (toString (if n < 0 then -n else n))).length : Int) ≤ 60) = smallB n := by
  have hn : (if n < 0 then -n else n) = ((n.natAbs : Nat) : Int) := by
    split <;> omega
  rw [hn]
  have e : (Str.ofString (toString ((n.natAbs : Nat) : Int))).length = (Nat.toDigits 10 n.natAbs).length := by
    rw [PyProof.Rows.ofString_length]
    show (Nat.repr n.natAbs).toList.length = _
    unfold Nat.repr
    simp
  rw [e]
  have hb : smallB n = decide (n.natAbs < 10 ^ 60) := by
    unfold smallB
    have e60 : (10 : Nat) ^ 60 = 1000000000000000000000000000000000000000000000000000000000000 := by decide
    by_cases q : n.natAbs < 10 ^ 60
    · rw [decide_eq_true q, decide_eq_true (show -BIG < n by unfold BIG; omega), decide_eq_true (show n < BIG by unfold BIG; omega)]
      rfl
    · rw [decide_eq_false q]
      by_cases q1 : -BIG < n
      · rw [decide_eq_false (show ¬ n < BIG by unfold BIG at *; omega), Bool.and_false]
      · rw [decide_eq_false q1, Bool.false_and]
  rw [hb]
  by_cases q : n.natAbs < 10 ^ 60
  · have := digits10_le (k := 60) (by decide) q
    rw [decide_eq_true q, decide_eq_true (by omega)]
  · have := digits10_ge (k := 60) (n := n.natAbs) (by omega)
    rw [decide_eq_false q, decide_eq_false (by omega)]

/-! ## the law -/
theorem le_sign (a c : Nat) : (!decide (([c] : List Nat) < [a])) = decide (a ≤ c) := by
  have : ([c] : List Nat) < [a] ↔ c < a := by
    rw [List.cons_lt_cons_iff]
    constructor
    · rintro (q | ⟨rfl, q⟩)
      · exact q
      · exact absurd q (List.not_lt_nil _)
    · exact .inl
  by_cases q : a ≤ c
  · rw [decide_eq_true q, decide_eq_false (fun z => by have := this.mp z; omega)]
    rfl
  · rw [decide_eq_false q, decide_eq_true (this.mpr (by omega))]
    rfl
theorem none_left : ∀ l : List Nat, PyData.eqv (.list ((l.filter fun c => !lowB c).map fun c => .str ⟨#[c]⟩)) (.list []) = l.all lowB
  | [] => by simp [PyData.eqv, PyData.eqvAll]
  | c :: r => by
    have ih := none_left r
    cases q : lowB c with
    | true => simpa [q] using ih
    | false => simp [q, PyData.eqv, PyData.eqvAll]
/-- what a reading hands on, in one place -/
theorem meet {te : TE} {σ : L2.St} {H : Hp} {Q : VK} (R : V → Hp → Prop) (h : ∀ Q' : VK, (∀ v H', R v H' → Q' v H') → te σ H Q') (k : ∀ v H', R v H' → Q v H') : te σ H Q := h Q k
/-- the odd values -/
def Odd (K : PySem.W.Frag) (H : Hp) (x : V) : Prop := (∃ b, x = .bl b) ∨ (∃ z : Str, x = .str z ∧ z.length ≤ 100 ∧ nameB z = false) ∨
  (∃ n, TyX K H x (.type n) ∧ kitB n "int" = some false ∧ kitB n "str" = some false)
def spLaw (K : PySem.W.Frag) : Sp := fun vs H Q _ => ∃ (a : Addr) (ns : List Int), vs = [.ref a] ∧ SqL K H a (ns.map V.int) ∧ ns.length ≤ 63 ∧ ∀ H', Q (.bl true) H'
theorem Mv.out {d : Addr} {H H' : Hp} {o : HO} (n : H d = none) (m : Mv d (upd H d o) H') : Same H H' := fun b u e => by
  have nb : b ≠ d := ne_of_none e n
  exact m.get nb (by rw [upd_ne nb]; exact e)
theorem bools (K : PySem.W.Frag) (H : Hp) (p : Addr) (bs : List Bool) (h : H p = some (.lst (bs.map V.bl))) : Dp K H (.ref p) (.list (bs.map .bool)) := by
  refine .lst (SqL.of h) ?_
  clear h
  induction bs with
  | nil => exact .nil
  | cons b r ih => exact .cons (.bl b) ih
theorem shwB (bs : List Bool) (h : bs.length ≤ 20) : Shw (.list (bs.map .bool)) := by
  have n1 : ∀ bs : List Bool, niceAll (bs.map .bool) = true ∧ PyData.depthAll (bs.map .bool) = 0 ∧ PyData.bulkAll (bs.map .bool) = bs.length := by
    intro bs
    induction bs with
    | nil => simp [niceAll, PyData.depthAll, PyData.bulkAll]
    | cons b r ih => simp [niceAll, nice, PyData.depthAll, PyData.depth, PyData.bulkAll, PyData.bulk, ih.1, ih.2.1, ih.2.2]; omega
  obtain ⟨a1, a2, a3⟩ := n1 bs
  refine shw (by simp only [nice]; exact a1) (by simp only [PyData.depth]; omega) (by simp only [PyData.bulk]; omega)
section
variable {P : Program} {w : World} {K : PySem.W.Frag} {mg : Str → Option Value}
theorem c_law {fa : Addr} (T : Txt K mg) (hf : mg "law" = some (.ref fa)) (D4 : DefAt K mg "is_integer" s_is_integer ["value"]) (D5 : DefAt K mg "is_count" s_is_count ["value"]) (D6 : DefAt K mg "is_name" s_is_name ["value"])
    (D8 : DefAt K mg "_law_dice" s__law_dice ["_law_script", "_law_spot"]) (D9 : DefAt K mg "_law_roll" s__law_roll ["_law_dice_here", "_law_total"]) (D10 : DefAt K mg "_law_pick" s__law_pick ["_law_dice_here", "_law_items"])
    (D11 : DefAt K mg "_law_number" s__law_number ["_law_dice_here"]) (D12 : DefAt K mg "_law_word" s__law_word ["_law_dice_here"]) (D13 : DefAt K mg "law" s_law ["_law_script"]) :
    ∃ fd : FuncData, (∀ (s : Shared) (u : Value), BindsTo s fd ⟨[u], []⟩ [("_law_script", u)]) ∧
      ∀ base : Heap, K.In base → base.Ns mainGlobals mg → FnG P w K mg base CX0 5 fa fd ["_law_script"] (spLaw K) := by
  refine lawOk hf D13 sc_law (fun xs H Q E h => ?_) (fun base hK hN f cdv A out s H xs Q E hgd hr h => ?_)
  · obtain ⟨a, ns, rfl, _⟩ := h
    rfl
  · obtain ⟨a, ns, rfl, hS, hlen, k⟩ := h
    have nd := sc_law.nd
    have C_is_integer : CalG P w K mg base 1 "is_integer" ["value"] (spIsInt K) := c_is_integer T D4
    have C_is_count : CalG P w K mg base 2 "is_count" ["value"] (spIsCount K) := c_is_count T C_is_integer D5
    have C_is_name : CalG P w K mg base 1 "is_name" ["value"] (spIsName K) := c_is_name T D6
    have C__law_dice : CalG P w K mg base 1 "_law_dice" ["_law_script", "_law_spot"] (spDice K) := c_dice T D8
    have C__law_roll : CalG P w K mg base 1 "_law_roll" ["_law_dice_here", "_law_total"] spRoll := c_roll T D9
    have C__law_pick : CalG P w K mg base 2 "_law_pick" ["_law_dice_here", "_law_items"] (spPick K) := c_pick T C__law_roll D10
    have C__law_number : CalG P w K mg base 3 "_law_number" ["_law_dice_here"] spNumber := c_number T C__law_roll C__law_pick D11
    have C__law_word : CalG P w K mg base 2 "_law_word" ["_law_dice_here"] spWord := c_word T C__law_roll D12
    refine ⟨_, (pss_cons (ps_for PassesOwn.never rfl (pi_range1 rfl T.range (pa_cons (pe_callB (call_max2 rfl) (by rfl) T.max (by decide +kernel) (pa_cons pe_int (pa_cons (pe_callB (call_min2 rfl) (by rfl) T.min (by decide +kernel) (pa_cons pe_int (pa_cons (pe_callB call_len_seq (by rfl) T.len (by decide +kernel) (pa_cons (pv 0) pa_nil)) pa_nil))) pa_nil))) pa_nil)) (pg_name (i := 1) nd rfl (.inl rfl)) (pss_cons (ps_set (i := 2) nd rfl (.inl rfl) (pe_k C__law_dice hgd hr (by decide) rfl (pa_cons (pv 0) (pa_cons (pv 1) pa_nil))))
        (pss_cons (ps_for PassesOwn.never rfl (pi_range1 rfl T.range (pa_cons pe_int pa_nil)) (pg_name (i := 3) nd rfl (.inl rfl)) (pss_cons (ps_par (i := 4) (j := 5) (by rfl) nd rfl rfl (by decide) rfl rfl (pa_cons (pe_k C__law_number hgd hr (by decide) rfl (pa_cons (pv 2) pa_nil)) (pa_cons (pe_k C__law_word hgd hr (by decide) rfl (pa_cons (pv 2) pa_nil)) pa_nil)) (by rfl))
          (pss_cons (ps_set (i := 6) nd rfl (.inl rfl) (pe_cmpR op_le (pe_callB call_len_str (by rfl) T.len (by decide +kernel) (pa_cons (pe_callTy call_str_int (by rfl) T.str (by decide +kernel) (pa_cons (pe_callB call_abs (by rfl) T.abs (by decide +kernel) (pa_cons (pv 4) pa_nil)) pa_nil)) pa_nil)) pe_int (nomark _)))
          (pss_cons (ps_set (i := 7) nd rfl (.inl rfl) (pe_and (pe_chain op_lt op_lt pe_int (pe_callB call_len_str (by rfl) T.len (by decide +kernel) (pa_cons (pv 5) pa_nil)) pe_int) (pe_one (pe_cmpR (op_eqD hr.units) (pe_lc (own := [("_law_sign", 10)]) (g := gName 10) (by rfl) nd (pi_str (pv 5)) (blkOk_by (own := [("_law_sign", 10)]) (N := N_law) (sc := defScope s_law) (by decide +kernel)) (fun _ _ _ _ _ => pg_name (i := 10) nd rfl (.inl rfl)) (fun _ _ _ _ _ => pts_one (pt_not (pt_chain op_le_str op_le_str pe_str (pv 10) pe_str))) (fun _ _ _ _ _ => pv 10)) (pe_lst pa_nil) (nomark _)))))
          (pss_cons (ps_set (i := 8) nd rfl (.inl rfl) (pe_lst (pa_cons (pe_k C_is_integer hgd hr (by decide) rfl (pa_cons (pv 4) pa_nil)) (pa_cons (pe_k C_is_count hgd hr (by decide) rfl (pa_cons (pv 4) pa_nil)) (pa_cons (pe_k C_is_name hgd hr (by decide) rfl (pa_cons (pv 5) pa_nil)) (pa_cons (pe_k C_is_name hgd hr (by decide) rfl (pa_cons (pv 4) pa_nil)) (pa_cons (pe_k C_is_count hgd hr (by decide) rfl (pa_cons (pv 5) pa_nil)) pa_nil)))))))
          (pss_one (ps_if (pt_cmpR op_ne (pe_callB (call_repr hgd hr.units) (by rfl) T.repr (by decide +kernel) (pa_cons (pv 8) pa_nil)) (pe_callB (call_repr hgd hr.units) (by rfl) T.repr (by decide +kernel) (pa_cons (pe_lst (pa_cons (pv 6) (pa_cons (pe_and (pv 6) (pe_one (pe_cmpR op_ge (pv 4) pe_int (nomark _)))) (pa_cons (pv 7) (pa_cons pe_bl (pa_cons pe_bl pa_nil)))))) pa_nil)) (nomark _)) (pss_one (ps_ret pe_bl)) pss_nil)))))))
        (pss_cons (ps_set (i := 9) nd rfl (.inl rfl) (pe_k C__law_pick hgd hr (by decide) rfl (pa_cons (pv 2) (pa_cons (pe_lst (pa_cons pe_non (pa_cons pe_bl (pa_cons pe_bl (pa_cons pe_str (pa_cons (pe_tup pa_nil) (pa_cons (pe_tup (pa_cons pe_int pa_nil)) (pa_cons (pe_lst (pa_cons pe_int pa_nil)) (pa_cons (pe_disp (pps_cons pe_int pe_int pps_nil) (by rfl) (by rfl) (fun z => by cases z) (by decide)) (pa_cons (pe_tup (pa_cons pe_str pa_nil)) (pa_cons (pe_lst (pa_cons pe_str pa_nil)) (pa_cons pe_str (pa_cons (pe_disp (pps_cons pe_str pe_int pps_nil) (by rfl) (by rfl) (fun z => by cases z) (by decide)) (pa_cons pe_str pa_nil)))))))))))))) pa_nil))))
        (pss_one (ps_if (pt_cmpR (op_neD hr.units) (pe_lst (pa_cons (pe_k C_is_integer hgd hr (by decide) rfl (pa_cons (pv 9) pa_nil)) (pa_cons (pe_k C_is_count hgd hr (by decide) rfl (pa_cons (pv 9) pa_nil)) (pa_cons (pe_k C_is_name hgd hr (by decide) rfl (pa_cons (pv 9) pa_nil)) pa_nil)))) (pe_op op_rep (pe_lst (pa_cons pe_bl pa_nil)) pe_int) (nomark _)) (pss_one (ps_ret pe_bl)) pss_nil))))))
      (pss_one (ps_ret (pe_cmpR (op_eqD hr.units) (pe_lst (pa_cons (pe_k C_is_count hgd hr (by decide) rfl (pa_cons pe_int pa_nil)) (pa_cons (pe_k C_is_count hgd hr (by decide) rfl (pa_cons (pe_op op_sub pe_int pe_int) pa_nil)) (pa_cons (pe_gv rfl T.gMAX_FIGURES) (pa_cons (pe_gv rfl T.gMAX_LETTERS) pa_nil))))) (pe_lst (pa_cons pe_bl (pa_cons pe_bl (pa_cons pe_int (pa_cons pe_int pa_nil))))) (nomark _))))), ?_⟩
    refine ⟨_, rfl, _, _, rfl, .inl hS, _, _, rfl, _, _, rfl, _, rfl, ?_, ?_, ?_⟩
    · rw [List.length_map]; split <;> split <;> omega
    · rw [List.length_map]; split <;> split <;> omega
    refine for_range (fun i σ H' => ∃ v1 v2 v3 v4 v5 v6 v7 v8 v9 v10, σ = [some (.ref a), v1, v2, v3, v4, v5, v6, v7, v8, v9, v10] ∧ Same H H') ?_ ?_ ?_
    · exact ⟨_, _, _, _, _, _, _, _, _, _, rfl, Same.refl _⟩
    · rintro i σ H0 hi ⟨v1, v2, v3, v4, v5, v6, v7, v8, v9, v10, rfl, s0⟩
      -- _law_dice_here = _law_dice(_law_script, _law_spot)
      refine ⟨_, rfl, _, rfl, a, ns, i, (by show [V.ref a, V.int (0 + (i : Int))] = _; rw [Int.zero_add]), s0.seq hS, Nat.le_trans hlen (by decide), fun d l0 t0 c0 nd0 => ?_⟩
      have dd : DiceAt (upd H0 d (.lst [.int l0, .int t0, .int c0])) d := ⟨_, _, _, upd_same⟩
      -- for _law_turn in range(5)
      refine ⟨5, rfl, (by decide), (by decide), ?_⟩
      refine for_range (fun i σ H' => ∃ v1 v3 v4 v5 v6 v7 v8 v9 v10, σ = [some (.ref a), v1, some (.ref d), v3, v4, v5, v6, v7, v8, v9, v10] ∧ Mv d (upd H0 d (.lst [.int l0, .int t0, .int c0])) H') ?_ ?_ ?_
      · exact ⟨_, _, _, _, _, _, _, _, _, rfl, Mv.refl dd⟩
      · rintro i' σ H1 hi' ⟨v1, v3, v4, v5, v6, v7, v8, v9, v10, rfl, m0⟩
        -- number, word
        refine ⟨_, rfl, d, rfl, m0.dice, fun n H2 hn m1 => ?_⟩
        refine ⟨_, rfl, d, rfl, m1.dice, fun z H3 hz hc m2 => ?_⟩
        refine ⟨_, _, rfl, ?_⟩
        -- _law_is_short
        have nlog : (if n < 0 then -n else n).natAbs.log2 < 1200 := by
          have e : (if n < 0 then -n else n).natAbs = n.natAbs := by split <;> omega
          rw [e]
          have := Flt.log2_lt_of (by decide) hn
          omega
        have nlen : (Str.ofString (toString (if n < 0 then -n else n))).length ≤ sizeLine := by
          have := int_text_length_le (a := (if n < 0 then -n else n)) (k := 1200) (by decide) nlog
          rw [PySem.ofString_length]
          exact Nat.le_trans this (by decide)
        refine go_nx ?_
        refine a_set (fun v H' => v = .bl (smallB n) ∧ H' = H3) (fun Q' kQ => ?_) ?_
        · refine ⟨_, rfl, _, rfl, _, rfl, (by omega), _, rfl, nlen, _, _, rfl, rfl, ?_⟩
          exact kQ _ _ ⟨congrArg V.bl (short_small n), rfl⟩
        rintro _ _ ⟨rfl, rfl⟩
        -- _law_is_fine
        refine a_set (fun v H' => v = .bl (fineB z) ∧ Mv d (upd H0 d (.lst [.int l0, .int t0, .int c0])) H') (fun Q' kQ => ?_) ?_
        · refine ⟨_, rfl, _, rfl, (Nat.le_trans hz (by decide)), _, _, rfl, rfl, _, rfl, ite2 (fun h1 => ?_) (fun h1 => ?_)⟩
          · refine ⟨_, _, rfl, rfl, _, rfl, ite2 (fun h2 => ?_) (fun h2 => ?_)⟩
            · refine ⟨_, rfl, _, rfl, fun Dl nD => ?_⟩
              have m2' := (m0.trans m1).trans m2
              have neD := m2'.dice.ne nD
              refine lc_it walk_str (fun i H' => Mv d (upd H0 d (.lst [.int l0, .int t0, .int c0])) H' ∧ H' Dl = some (.lst (((z.cps.toList.take i).filter fun c => !lowB c).map fun c => V.str ⟨#[c]⟩))) ?_ (fun _ _ _ _ => True.intro) ?_ ?_
              · exact ⟨m2'.new nD, upd_same⟩
              · rintro j x H4 H5 hj ⟨m4, hD⟩ ⟨e5, c, hcj, rfl⟩
                obtain rfl : H4 = H5 := e5.symm
                have hcl : z.cps.toList[j]? = some c := by rw [Array.getElem?_toList]; exact hcj
                have tk : z.cps.toList.take (j + 1) = z.cps.toList.take j ++ [c] := by rw [List.take_add_one, hcl]; rfl
                have yes : lowB c = true → ((z.cps.toList.take (j + 1)).filter fun c => !lowB c) = (z.cps.toList.take j).filter fun c => !lowB c := fun q => by
                  rw [tk, List.filter_append]
                  simp [q]
                have no : lowB c = false → ((z.cps.toList.take (j + 1)).filter fun c => !lowB c) = ((z.cps.toList.take j).filter fun c => !lowB c) ++ [c] := fun q => by
                  rw [tk, List.filter_append]
                  simp [q]
                have size : ((((z.cps.toList.take j).filter fun c => !lowB c).map fun c => V.str ⟨#[c]⟩)).length < sizeLine := by
                  rw [List.length_map]
                  have q1 := List.length_filter_le (fun c => !lowB c) (z.cps.toList.take j)
                  have q2 : (z.cps.toList.take j).length ≤ j := by rw [List.length_take]; exact Nat.min_le_left _ _
                  have q3 : z.cps.size ≤ 10 := hz
                  exact small1000 (by omega)
                have put : lowB c = false → Mv d (upd H0 d (.lst [.int l0, .int t0, .int c0])) (upd H4 Dl (.lst ((((z.cps.toList.take j).filter fun c => !lowB c).map fun c => V.str ⟨#[c]⟩) ++ [V.str ⟨#[c]⟩]))) ∧
                    upd H4 Dl (.lst ((((z.cps.toList.take j).filter fun c => !lowB c).map fun c => V.str ⟨#[c]⟩) ++ [V.str ⟨#[c]⟩])) Dl = some (.lst (((z.cps.toList.take (j + 1)).filter fun c => !lowB c).map fun c => V.str ⟨#[c]⟩)) := fun q =>
                  ⟨m4.set (m2'.free nD) neD, by rw [upd_same, no q, List.map_append]; rfl⟩
                refine ⟨rfl, ?_⟩
                refine ⟨_, rfl, _, _, rfl, rfl, decide (97 ≤ c), congrArg V.bl (le_sign 97 c), ite2 (fun q1 => ?_) (fun q1 => ?_)⟩
                · refine ⟨_, _, rfl, rfl, decide (c ≤ 122), congrArg V.bl (le_sign c 122), ite2 (fun q2 => ?_) (fun q2 => ?_)⟩
                  · have lo : lowB c = false := by
                      unfold lowB
                      cases q : decide (c ≤ 122) with
                      | true => rw [q] at q2; cases q2
                      | false => rw [Bool.and_false]
                    exact ⟨_, rfl, _, hD, size, put lo⟩
                  · have lo : lowB c = true := by
                      unfold lowB
                      rw [q1]
                      cases q : decide (c ≤ 122) with
                      | true => rfl
                      | false => exact absurd (show (!decide (c ≤ 122)) = true by rw [q]; rfl) q2
                    exact ⟨m4, by rw [yes lo]; exact hD⟩
                · have lo : lowB c = false := by
                    unfold lowB
                    rw [Bool.eq_false_iff.mpr q1, Bool.false_and]
                  exact ⟨false, rfl, _, rfl, _, hD, size, put lo⟩
              · rintro H4 ⟨m4, hD⟩
                have full : z.cps.toList.take z.cps.size = z.cps.toList := List.take_of_length_le (by simp)
                rw [full] at hD
                refine ⟨(by show 0 ≤ sizeLine; decide), fun p np => ?_⟩
                have neDp : Dl ≠ p := ne_of_none hD np
                have m5 := m4.new (o := .lst []) np
                refine ⟨.list ((z.cps.toList.filter fun c => !lowB c).map fun c => .str ⟨#[c]⟩), .list [], .lst (SqL.of (by rw [upd_ne neDp]; exact hD)) (DpAll.map _ _ _ fun c _ => .str _), .lst (SqL.of upd_same) .nil, ?_, ?_, ?_⟩
                · have q1 : PyData.canLayAll0 ((z.cps.toList.filter fun c => !lowB c).map fun c => PyData.str ⟨#[c]⟩) = true := canAll _ _ fun c hcm => by
                    have := hc c (List.mem_filter.mp hcm).1
                    simp [PyData.canLay0, PyData.strOk]
                    omega
                  have q2 := depthAll0 0 (fun c => PyData.str ⟨#[c]⟩) (z.cps.toList.filter fun c => !lowB c) fun c _ => by simp [PyData.depth]
                  show (PyData.canLay0 (.list _) && decide (PyData.depth (.list _) ≤ 64)) = true
                  rw [Bool.and_eq_true_iff]
                  exact ⟨by simp only [PyData.canLay0]; exact q1, decide_eq_true (by simp only [PyData.depth]; omega)⟩
                · decide +kernel
                · refine kQ _ _ ⟨congrArg V.bl ?_, m5⟩
                  unfold fineB
                  rw [h1, h2, Bool.true_and, Bool.true_and]
                  exact none_left _
            · exact kQ _ _ ⟨congrArg V.bl (by unfold fineB; rw [h1, Bool.eq_false_iff.mpr h2]; rfl), (m0.trans m1).trans m2⟩
          · exact ⟨false, rfl, kQ _ _ ⟨congrArg V.bl (by unfold fineB; rw [Bool.eq_false_iff.mpr h1, Bool.false_and]), (m0.trans m1).trans m2⟩⟩
        rintro _ H4 ⟨rfl, m3⟩
        -- _law_told
        refine a_set (fun v H' => ∃ p, v = .ref p ∧ Mv d (upd H0 d (.lst [.int l0, .int t0, .int c0])) H' ∧
          H' p = some (.lst [.bl (smallB n), .bl (smallB n && decide (0 ≤ n)), .bl (fineB z), .bl false, .bl false])) (fun Q' kQ => ?_) ?_
        · refine ⟨_, rfl, .inl ⟨n, rfl, ?_⟩⟩
          refine ⟨_, rfl, .inl ⟨n, rfl, ?_⟩⟩
          refine ⟨_, rfl, .inl ⟨z, rfl, Nat.le_trans hz (by decide), ?_⟩⟩
          refine ⟨_, rfl, .inr ⟨_, "int", rfl, .base (.int n), (by decide +kernel), ?_⟩⟩
          refine ⟨_, rfl, .inr (.inr ⟨_, "str", rfl, .base (.str z), (by decide +kernel), ?_⟩)⟩
          refine ⟨(by show 5 ≤ sizeLine; decide), fun p np => ?_⟩
          refine kQ _ _ ⟨p, rfl, m3.new np, ?_⟩
          rw [upd_same, name_fine z hc]
        rintro _ H5 ⟨p, rfl, m4, hp⟩
        -- if repr(told) != repr(..)
        refine a_if1 (fun b H' => b = false ∧ Mv d (upd H0 d (.lst [.int l0, .int t0, .int c0])) H') (fun Q' kQ => ?_) (fun H' h => nomatch h.1) (fun H6 h => ?_)
        · have dp : Dp K H5 (.ref p) (.list ([smallB n, smallB n && decide (0 ≤ n), fineB z, false, false].map .bool)) := bools K H5 p _ hp
          refine ⟨_, rfl, _, _, rfl, dp, shwB _ (by show 5 ≤ 20; decide), ?_⟩
          refine ⟨_, rfl, _, rfl, _, rfl, ite2 (fun h1 => ?_) (fun h1 => ?_)⟩
          · refine ⟨_, rfl, _, _, rfl, rfl, _, rfl, (by show 5 ≤ sizeLine; decide), fun q nq => ?_⟩
            have dq : Dp K (upd H5 q (.lst [.bl (smallB n), .bl (decide (0 ≤ n)), .bl (fineB z), .bl false, .bl false])) (.ref q) (.list ([smallB n, decide (0 ≤ n), fineB z, false, false].map .bool)) := bools K _ q _ upd_same
            refine ⟨_, _, rfl, dq, shwB _ (by show 5 ≤ 20; decide), rfl, false, congrArg V.bl ?_, kQ _ _ ⟨rfl, m4.new nq⟩⟩
            rw [h1, Bool.true_and, decide_eq_true rfl]
            rfl
          · refine ⟨_, rfl, (by show 5 ≤ sizeLine; decide), fun q nq => ?_⟩
            have dq : Dp K (upd H5 q (.lst [.bl (smallB n), .bl false, .bl (fineB z), .bl false, .bl false])) (.ref q) (.list ([smallB n, false, fineB z, false, false].map .bool)) := bools K _ q _ upd_same
            refine ⟨_, _, rfl, dq, shwB _ (by show 5 ≤ 20; decide), rfl, false, congrArg V.bl ?_, kQ _ _ ⟨rfl, m4.new nq⟩⟩
            rw [Bool.eq_false_iff.mpr h1, Bool.false_and, decide_eq_true rfl]
            rfl
        · refine ⟨_, _, _, _, _, _, _, _, _, rfl, h.2⟩
      · rintro σ H1 ⟨v1, v3, v4, v5, v6, v7, v8, v9, v10, rfl, m0⟩
        -- _law_odd
        refine go_nx ?_
        refine a_set (fun v H' => Odd K H' v ∧ Mv d (upd H0 d (.lst [.int l0, .int t0, .int c0])) H') (fun Q' kQ => ?_) ?_
        · refine ⟨_, rfl, (by show 0 ≤ sizeLine; decide), fun p1 n1 => ?_⟩
          have m1 := m0.new (o := .tup []) n1
          refine ⟨(by show 1 ≤ sizeLine; decide), fun p2 n2 => ?_⟩
          have m2 := m1.new (o := .tup [.int 7]) n2
          refine ⟨(by show 1 ≤ sizeLine; decide), fun p3 n3 => ?_⟩
          have m3 := m2.new (o := .lst [.int 7]) n3
          refine fun p4 n4 => ⟨upd_same, [(.inl 7, .int 7)], rfl, (by decide), ?_⟩
          have m4 := m3.new2 (o := .dK []) (u := .dK (mergeK [] [(.inl 7, .int 7)])) n4
          refine ⟨(by show 1 ≤ sizeLine; decide), fun p5 n5 => ?_⟩
          have m5 := m4.new (o := .tup [.str "a"]) n5
          refine ⟨(by show 1 ≤ sizeLine; decide), fun p6 n6 => ?_⟩
          have m6 := m5.new (o := .lst [.str "a"]) n6
          refine fun p7 n7 => ⟨upd_same, [(.inr "a", .int 1)], rfl, (by decide), ?_⟩
          have m7 := m6.new2 (o := .dK []) (u := .dK (mergeK [] [(.inr "a", .int 1)])) n7
          refine ⟨(by show 13 ≤ sizeLine; decide), fun p8 n8 => ?_⟩
          have m8 := m7.new (o := .lst [.non, .bl true, .bl false, .str "7", .ref p1, .ref p2, .ref p3, .ref p4, .ref p5, .ref p6, .str "", .ref p7, .str "\n"]) n8
          refine ⟨d, p8, _, rfl, m8.dice, SqL.of upd_same, m7.dice.ne n8, (by show 0 < 13; decide), (by show 13 ≤ 1000; decide), fun j x H2 ej mm _ => ?_⟩
          refine kQ _ _ ⟨?_, m8.trans mm⟩
          have t1 := mm.get (m0.dice.ne n1) (same_new n8 _ _ (same_new2 n7 _ _ (same_new n6 _ _ (same_new n5 _ _ (same_new2 n4 _ _ (same_new n3 _ _ (same_new n2 _ _ upd_same)))))))
          have t2 := mm.get (m1.dice.ne n2) (same_new n8 _ _ (same_new2 n7 _ _ (same_new n6 _ _ (same_new n5 _ _ (same_new2 n4 _ _ (same_new n3 _ _ upd_same))))))
          have t3 := mm.get (m2.dice.ne n3) (same_new n8 _ _ (same_new2 n7 _ _ (same_new n6 _ _ (same_new n5 _ _ (same_new2 n4 _ _ upd_same)))))
          have t4 := mm.get (m3.dice.ne n4) (same_new n8 _ _ (same_new2 n7 _ _ (same_new n6 _ _ (same_new n5 _ _ upd_same))))
          have t5 := mm.get (m4.dice.ne n5) (same_new n8 _ _ (same_new2 n7 _ _ (same_new n6 _ _ upd_same)))
          have t6 := mm.get (m5.dice.ne n6) (same_new n8 _ _ (same_new2 n7 _ _ upd_same))
          have t7 := mm.get (m6.dice.ne n7) (same_new n8 _ _ upd_same)
          match j, ej with
          | 0, e => cases e; exact .inr (.inr ⟨"NoneType", .base .non, (by decide +kernel), (by decide +kernel)⟩)
          | 1, e => cases e; exact .inl ⟨_, rfl⟩
          | 2, e => cases e; exact .inl ⟨_, rfl⟩
          | 3, e => cases e; exact .inr (.inl ⟨_, rfl, (by decide +kernel), (by decide +kernel)⟩)
          | 4, e => cases e; exact .inr (.inr ⟨"tuple", .base (.tup t1), (by decide +kernel), (by decide +kernel)⟩)
          | 5, e => cases e; exact .inr (.inr ⟨"tuple", .base (.tup t2), (by decide +kernel), (by decide +kernel)⟩)
          | 6, e => cases e; exact .inr (.inr ⟨"list", .base (.lst t3), (by decide +kernel), (by decide +kernel)⟩)
          | 7, e => cases e; exact .inr (.inr ⟨"dict", .base (.dK t4), (by decide +kernel), (by decide +kernel)⟩)
          | 8, e => cases e; exact .inr (.inr ⟨"tuple", .base (.tup t5), (by decide +kernel), (by decide +kernel)⟩)
          | 9, e => cases e; exact .inr (.inr ⟨"list", .base (.lst t6), (by decide +kernel), (by decide +kernel)⟩)
          | 10, e => cases e; exact .inr (.inl ⟨_, rfl, (by decide +kernel), (by decide +kernel)⟩)
          | 11, e => cases e; exact .inr (.inr ⟨"dict", .base (.dK t7), (by decide +kernel), (by decide +kernel)⟩)
          | 12, e => cases e; exact .inr (.inl ⟨_, rfl, (by decide +kernel), (by decide +kernel)⟩)
          | n + 13, e => cases e
        rintro x H2 ⟨ox, m1⟩
        -- if [..] != [False] * 3
        refine a_if1 (fun b H' => b = false ∧ Mv d (upd H0 d (.lst [.int l0, .int t0, .int c0])) H') (fun Q' kQ => ?_) (fun H' h => nomatch h.1) (fun H6 h => ?_)
        · have l3 : PyData.eqv (.list [.bool false, .bool false, .bool false]) (.list [.bool false, .bool false, .bool false]) = true := by decide +kernel
          have s3 : SeqAt.shaped (.list [.bool false, .bool false, .bool false]) = true := by decide +kernel
          rcases ox with ⟨b, rfl⟩ | ⟨z, rfl, hz, nz⟩ | ⟨ty, hty, k1, k2⟩
          · refine ⟨_, rfl, .inr (.inl ⟨b, rfl, _, rfl, .inr (.inl ⟨b, rfl, _, rfl, .inr ⟨_, "bool", rfl, .base (.bl b), (by decide +kernel), ?_⟩⟩)⟩)⟩
            refine ⟨(by show 3 ≤ sizeLine; decide), fun p np => ⟨(by show 1 ≤ sizeLine; decide), fun q nq => ⟨_, _, _, rfl, rfl, upd_same, (by decide), (by decide), (by decide +kernel), fun r nr => ?_⟩⟩⟩
            refine ⟨_, _, bools K _ p [false, false, false] (same_new nr _ _ (same_new nq _ _ upd_same)), bools K _ r [false, false, false] upd_same, s3, s3, false, congrArg V.bl ?_, kQ _ _ ⟨rfl, ((m1.new np).new nq).new nr⟩⟩
            rw [show PyData.eqv (.list ([false, false, false].map .bool)) (.list ([false, false, false].map .bool)) = true from l3]
            rfl
          · refine ⟨_, rfl, .inr (.inr ⟨_, "str", rfl, .base (.str z), (by decide +kernel), _, rfl, .inr (.inr ⟨_, "str", rfl, .base (.str z), (by decide +kernel), _, rfl, .inl ⟨z, rfl, Nat.le_trans hz (by decide), ?_⟩⟩)⟩)⟩
            rw [nz]
            refine ⟨(by show 3 ≤ sizeLine; decide), fun p np => ⟨(by show 1 ≤ sizeLine; decide), fun q nq => ⟨_, _, _, rfl, rfl, upd_same, (by decide), (by decide), (by decide +kernel), fun r nr => ?_⟩⟩⟩
            refine ⟨_, _, bools K _ p [false, false, false] (same_new nr _ _ (same_new nq _ _ upd_same)), bools K _ r [false, false, false] upd_same, s3, s3, false, congrArg V.bl ?_, kQ _ _ ⟨rfl, ((m1.new np).new nq).new nr⟩⟩
            rw [show PyData.eqv (.list ([false, false, false].map .bool)) (.list ([false, false, false].map .bool)) = true from l3]
            rfl
          · refine ⟨_, rfl, .inr (.inr ⟨_, ty, rfl, hty, k1, _, rfl, .inr (.inr ⟨_, ty, rfl, hty, k1, _, rfl, .inr ⟨_, ty, rfl, hty, k2, ?_⟩⟩)⟩)⟩
            refine ⟨(by show 3 ≤ sizeLine; decide), fun p np => ⟨(by show 1 ≤ sizeLine; decide), fun q nq => ⟨_, _, _, rfl, rfl, upd_same, (by decide), (by decide), (by decide +kernel), fun r nr => ?_⟩⟩⟩
            refine ⟨_, _, bools K _ p [false, false, false] (same_new nr _ _ (same_new nq _ _ upd_same)), bools K _ r [false, false, false] upd_same, s3, s3, false, congrArg V.bl ?_, kQ _ _ ⟨rfl, ((m1.new np).new nq).new nr⟩⟩
            rw [show PyData.eqv (.list ([false, false, false].map .bool)) (.list ([false, false, false].map .bool)) = true from l3]
            rfl
        · exact ⟨_, _, _, _, _, _, _, _, _, _, rfl, s0.trans (Mv.out nd0 h.2)⟩
    · rintro σ H' ⟨v1, v2, v3, v4, v5, v6, v7, v8, v9, v10, rfl, s0⟩
      refine go_nx ?_
      refine a_ret (fun v _ => v = .bl true) (fun Q' kQ => ?_) (fun v H2 e => by rw [e]; exact k H2)
      refine .inl ⟨0, rfl, ?_⟩
      refine ⟨_, _, rfl, rfl, .inl ⟨_, rfl, ?_⟩⟩
      refine ⟨(by show 4 ≤ sizeLine; decide), fun p np => ⟨(by show 4 ≤ sizeLine; decide), fun q nq => ?_⟩⟩
      have dp : ∀ (H : Hp) (p : Addr) (b c : Bool), H p = some (.lst [.bl b, .bl c, .int 60, .int 8]) → Dp K H (.ref p) (.list [.bool b, .bool c, .int 60, .int 8]) := fun H p b c h =>
        .lst (SqL.of h) (.cons (.bl b) (.cons (.bl c) (.cons (.int _) (.cons (.int _) .nil))))
      have b1 : (smallB 0 && decide ((0 : Int) ≤ 0)) = true := by decide +kernel
      have b2 : (smallB (0 - 1) && decide ((0 : Int) ≤ 0 - 1)) = false := by decide +kernel
      refine ⟨_, _, dp _ p true false (same_new nq _ _ ?_), dp _ q true false upd_same, (by decide +kernel), (by decide +kernel), kQ _ _ (congrArg V.bl (by decide +kernel))⟩
      rw [upd_same, b1, b2]
end
end G

set_option Elab.async false
set_option linter.all false
namespace G
open PySem PySem.Spec PyProof.Rows L2
theorem walk_fingerbooks_k00_integers_and_names {q : Program} {loose : List Str} {XP : (Str → Option Value) → Heap → Prop} {YP : World → Heap → Prop} {d : DefRec} {K : Params → PySem.W.Frag}
    (hdf : d.params.defaults = []) (hY : ∀ (w : World) (h : Heap), YP w h → (K w.params).In h)
    (F : ∀ (w : World) (mg : Str → Option Value) (fa : Addr) (h : Heap), (K w.params).In h → h.Ns mainGlobals mg → mg d.name = some (.ref fa) →
      ∃ fd : FuncData, (∀ (s : Shared) (u : Value), BindsTo s fd ⟨[u], []⟩ [("_law_script", u)]) ∧
        ∀ base : Heap, (K w.params).In base → base.Ns mainGlobals mg → FnG PySem.Challenge.rw_fingerbooks_k00_integers_and_names.prog w (K w.params) mg base CX0 5 fa fd ["_law_script"] (spLaw (K w.params))) :
    PySem.W.WalkO q loose XP YP PySem.Challenge.rw_fingerbooks_k00_integers_and_names.row.toRowW d [] (fun f vs => PySem.call f vs) :=
  endG (n := 63) (k := 5) (sp := fun K => spLaw K) rfl (by decide) hdf ⟨rfl, by decide, by decide⟩ hY F (fun K H a ns hl hS => ⟨a, ns, rfl, hS, hl, fun _ => rfl⟩)
end G

open PySem PySem.W PyProof.Rows in
set_option maxRecDepth 100000 in
set_option maxHeartbeats 0 in
theorem PySem.Challenge.cw_fingerbooks_k00_integers_and_names_holds : PySem.Challenge.rw_fingerbooks_k00_integers_and_names.Holds := by
  w_on; o_law; k_head; (case hw => w_witness2)
  k_fill
  refine G.walk_fingerbooks_k00_integers_and_names rfl (fun w h Y => PySem.W.kIn_of Y) ?F
  case F =>
    intro w mg fa h KX gl hmg
    refine' G.c_law ?T hmg (G.defAt KX gl ?b0 ?a0 ?l0 ?c0 ?k0) (G.defAt KX gl ?b1 ?a1 ?l1 ?c1 ?k1) (G.defAt KX gl ?b2 ?a2 ?l2 ?c2 ?k2) (G.defAt KX gl ?b3 ?a3 ?l3 ?c3 ?k3) (G.defAt KX gl ?b4 ?a4 ?l4 ?c4 ?k4) (G.defAt KX gl ?b5 ?a5 ?l5 ?c5 ?k5) (G.defAt KX gl ?b6 ?a6 ?l6 ?c6 ?k6) (G.defAt KX gl ?b7 ?a7 ?l7 ?c7 ?k7) (G.defAt KX gl ?b8 ?a8 ?l8 ?c8 ?k8)
    (case a0 => k_is)
    (case l0 => k_is)
    (case c0 => k_is)
    (case k0 => k_is)
    (case a1 => k_is)
    (case l1 => k_is)
    (case c1 => k_is)
    (case k1 => k_is)
    (case a2 => k_is)
    (case l2 => k_is)
    (case c2 => k_is)
    (case k2 => k_is)
    (case a3 => k_is)
    (case l3 => k_is)
    (case c3 => k_is)
    (case k3 => k_is)
    (case a4 => k_is)
    (case l4 => k_is)
    (case c4 => k_is)
    (case k4 => k_is)
    (case a5 => k_is)
    (case l5 => k_is)
    (case c5 => k_is)
    (case k5 => k_is)
    (case a6 => k_is)
    (case l6 => k_is)
    (case c6 => k_is)
    (case k6 => k_is)
    (case a7 => k_is)
    (case l7 => k_is)
    (case c7 => k_is)
    (case k7 => k_is)
    (case a8 => k_is)
    (case l8 => k_is)
    (case c8 => k_is)
    (case k8 => k_is)
    (case b0 => exact fun us hl => match us, hl with | [_], _ => rfl)
    (case b1 => exact fun us hl => match us, hl with | [_], _ => rfl)
    (case b2 => exact fun us hl => match us, hl with | [_], _ => rfl)
    (case b3 => exact fun us hl => match us, hl with | [_, _], _ => rfl)
    (case b4 => exact fun us hl => match us, hl with | [_, _], _ => rfl)
    (case b5 => exact fun us hl => match us, hl with | [_, _], _ => rfl)
    (case b6 => exact fun us hl => match us, hl with | [_], _ => rfl)
    (case b7 => exact fun us hl => match us, hl with | [_], _ => rfl)
    (case b8 => exact fun us hl => match us, hl with | [_], _ => rfl)
    (case T =>
      refine' ⟨PySem.W.mg_none_of KX gl ?t0, PySem.W.mg_none_of KX gl ?t1, PySem.W.mg_none_of KX gl ?t2, PySem.W.mg_none_of KX gl ?t3, PySem.W.mg_none_of KX gl ?t4, PySem.W.mg_none_of KX gl ?t5, PySem.W.mg_none_of KX gl ?t6, PySem.W.mg_none_of KX gl ?t7, PySem.W.mg_none_of KX gl ?t8, PySem.W.mg_none_of KX gl ?t9, ⟨_, PySem.W.mg_of KX gl ?t10, ?r10⟩, ⟨_, PySem.W.mg_of KX gl ?t11, ?r11⟩, ⟨_, PySem.W.mg_of KX gl ?t12, ?r12⟩⟩
      (case t0 => k_is)
      (case t1 => k_is)
      (case t2 => k_is)
      (case t3 => k_is)
      (case t4 => k_is)
      (case t5 => k_is)
      (case t6 => k_is)
      (case t7 => k_is)
      (case t8 => k_is)
      (case t9 => k_is)
      (case t10 => k_is)
      (case r10 => exact ⟨_, rfl⟩)
      (case t11 => k_is)
      (case r11 => exact ⟨_, rfl⟩)
      (case t12 => k_is)
      (case r12 => exact ⟨_, rfl⟩))


