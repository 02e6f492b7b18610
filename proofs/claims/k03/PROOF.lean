import PyProof.Rows.All
import Wide.All
import OpenK.AllK
import Wide.FinOn
import PyProof.ReprReads
import PyProof.ReprText
import PyProof.ReprLen
import PyProof.ReprBulk
import PyProof.ReprRoads
import HandS.ForMost
import HandS.IsInst
import HandS.Wide
import HandS.StrMore
import HandS.Codes
import KE.DataMinMax
import HandS.TupAny
import HandS.TupMul
import HandS.Style
import HandS.Conv
import HandS.Walk
import PySem.Challenge.RW_fingerbooks_k03_forms_and_rows
set_option Elab.async false
set_option linter.all false
set_option maxRecDepth 100000
set_option maxHeartbeats 2000000
namespace G
open PySem PySem.Spec PyProof.Rows L2

/-! ## Promises that hold where no text of an object is being written (guards empty) -/
structure FnG (P : Program) (w : World) (K : PySem.W.Frag) (mg : Str → Option Value) (base : Heap)
    (CX : CXT) (k : Nat) (f : Addr) (fd : FuncData) (ps : List Str) (sp : Sp) : Prop where
  len : ∀ xs H Q E, sp xs H Q E → xs.length = ps.length
  go : ∀ (A : Around) (out : List Env) (s : Shared) (H : Hp) (args : Args) (us : List Value) (xs : List V) (Q : VK) (E : XK),
    A.guards = some [] → Room k A → Env0 P w K mg base A out s H → BindsTo s fd args (ps.zip us) → Vals xs us → sp xs H Q E →
    codeAny (model P w) A (.call (.ref f) args) (CR CX out P w H s Q E) s

theorem FnG.ofOk {P w K mg base CX k f fd ps sp} (F : FnOk P w K mg base CX k f fd ps sp) : FnG P w K mg base CX k f fd ps sp :=
  ⟨F.len, fun A out s H args us xs Q E _ => F.run A out s H args us xs Q E⟩
theorem FnG.mono {P w K mg base CX j k f fd ps sp} (F : FnG P w K mg base CX j f fd ps sp) (h : j ≤ k) : FnG P w K mg base CX k f fd ps sp :=
  ⟨F.len, fun A out s H args us xs Q E hg hr => F.go A out s H args us xs Q E hg (hr.mono h)⟩

section
variable {X : Cx} {CX : CXT} {k : Nat} {f : Addr} {fd : FuncData} {ps : List Str} {sp : Sp} {dvs : List V} {ds : List Value} {E : XK}
theorem runG {pins : List (Addr × Obj)} {σ : L2.St} {H : Hp} {s : Shared} {Q : VK} {us : List Value} {xs : List V}
    (F : FnG X.prog X.w X.K X.mg X.base CX k f fd ps sp) (hgd : X.A.guards = some []) (hr : Room k X.A)
    (hb : Binds X.K fd ps ds) (hd : Vals dvs ds) (hx : Passes CX X E) (I : Inv X pins σ H s) (r : Vals xs us) (h : sp (xs ++ dvs) H Q E) :
    wpAny (model X.prog X.w) X.A (call (.ref f) us) (EP X pins σ Q) X.xe s := by
  have both : Vals (xs ++ dvs) (us ++ ds) := r.append hd
  have sz : (us ++ ds).length = ps.length := both.length.symm.trans (F.len _ _ _ _ h)
  have body := F.go X.A X.stack s H ⟨us, []⟩ (us ++ ds) (xs ++ dvs) Q E hgd hr I.env0 (hb s us I.kIn sz) both h
  refine wpAny_call (codeAny_mono body fun res t hq => ?_)
  match res, hq with
  | .error e, hq => exact hx pins σ H s e t I hq
  | .ok (.ret u), hq => exact I.after hq
  | .ok .next, hq => exact hq.elim
  | .ok .brk, hq => exact hq.elim
  | .ok .cont, hq => exact hq.elim

theorem pe_g {x : Str} {p pos : Pos} {e : Expr} {es : List Expr} {t : TA} (F : FnG X.prog X.w X.K X.mg X.base CX k f fd ps sp)
    (hgd : X.A.guards = some []) (hr : Room k X.A) (hg : Gl X x) (hm : X.mg x = some (.ref f)) (hk : PySem.W.keepIn X.K (.ref f) = true)
    (hb : Binds X.K fd ps ds) (hd : Vals dvs ds) (hx : Passes CX X E) (ha : PA X (e :: es) t)
    (hdb : (x == ("__debug__" : Str)) = false := by decide)
    (he : starEach (e :: es) X.env = (false, eval e X.env) :: starEach es X.env := by rfl)
    (hpl : (backTo pos (starEach es X.env)).any (·.1) = false := by rfl) :
    PE X (.Call (.Name x p) (e :: es) [] pos) (tCall sp dvs E t) :=
  ⟨fun pins s σ H Q I h => wpAny_Call_Name_kw (ld_glob I hg hm
    (PySem.W.callWith_K (h₀ := X.base) I.ok.mod.kin hk
      (thn (ha.run pos pins s σ H _ I h) fun us s1 ⟨xs, H1, I1, r, q⟩ => ⟨I1.kIn, runG F hgd hr hb hd hx I1 r q⟩) he hpl) hdb)⟩
theorem pe_g0 {x : Str} {p pos : Pos} (F : FnG X.prog X.w X.K X.mg X.base CX k f fd ps sp)
    (hgd : X.A.guards = some []) (hr : Room k X.A) (hg : Gl X x) (hm : X.mg x = some (.ref f)) (hk : PySem.W.keepIn X.K (.ref f) = true)
    (hb : Binds X.K fd ps ds) (hd : Vals dvs ds) (hx : Passes CX X E) (hdb : (x == ("__debug__" : Str)) = false := by decide) :
    PE X (.Call (.Name x p) [] [] pos) (tCall sp dvs E tNil) :=
  ⟨fun pins s σ H Q I h => wpAny_Call_Name_kw (ld_glob I hg hm (PySem.W.callWith_K0 I.kIn hk (runG (us := []) F hgd hr hb hd hx I .nil h)) hdb)⟩
end

/-- a def by its body, guards known -/
theorem okG {P : Program} {w : World} {K : PySem.W.Frag} {mg : Str → Option Value} {base : Heap} {x qual : Str} {st : Stmt} {f : Addr} {fd : FuncData}
    {N ps : List Str} {k : Nat} {sp : Sp} (F : Fun K x qual st f fd) (S : FnScope N ps (defScope st)) (len : ∀ xs H Q E, sp xs H Q E → xs.length = ps.length)
    (hbody : ∀ (cdv : Value) (A : Around) (out : List Env) (s : Shared) (H : Hp) (xs : List V) (Q : VK) (E : XK), A.guards = some [] →
      Room k (A.deeper (envOfC qual (defScope st) s.heap.objs.size f cdv)) → sp xs H Q E →
      ∃ t, PSs (cxOf CX0 P w K mg base N qual (defScope st) f cdv A out s H E).nox (defBody st) t ∧
        t { nx := fun _ H' => Q .non H', rt := Q } (start N xs) H) :
    FnG P w K mg base CX0 (k + 1) f fd ps sp := by
  obtain ⟨oc, od, kV, doc, pm, an, cdv, ct, osl, rfl, lk, hcd⟩ := F.ex
  constructor
  · exact len
  intro A out s H args us xs Q E gA hr e0 hb r hsp
  have old : ∀ b o, base.get? b = some o → s.heap.get? b = some o := fun b o q => (e0.bs b o q).1
  have KX : K.In s.heap := e0.mod.kin.keeps old
  have lim : s.heap.NoLimit := e0.mod.nolimit.keeps old
  refine codeAny_call_function hr.depth (KX _ _ lk) rfl S.co S.gen rfl (PySem.W.codeRec_of KX hcd) (hb _ _ _ _ ?_)
  refine wpAny_newFunctionEnv_cells S.kind (fun y hy => ?_) fun env he s1 x1 => ?_
  · have q := S.par y.1 (List.of_mem_zip (a := y.1) (b := y.2) hy).1
    exact q.elim .inl fun q => .inr ⟨q, PySem.W.cellsFrom_some _ _ _ (.inl q)⟩
  · subst he
    refine ⟨lim.keeps x1.toInCall.keep, codeAny_func ?_⟩
    obtain ⟨t, ht, hq⟩ := hbody cdv A out s H xs Q E gA (hr.deeper _) hsp
    have I := inv_start (CX := CX0) (P := P) (w := w) (K := K) (mg := mg) (base := base) (N := N) (ps := ps) (E := E) S hr.hd e0 (len _ _ _ _ hsp) r x1
    refine wpAny_mono (ht.nox.run [] s1 (start N xs) H _ I hq) (fun fl s2 hs => ?_) fun _ _ z => z
    match fl, hs with
    | .ret u, ⟨v, σ', H', J, rv, q⟩ => exact ⟨v, H', J.os, J.bare, J.base, J.hok, rv, q⟩
    | .next, ⟨σ', H', J, q⟩ => exact ⟨V.non, H', J.os, J.bare, J.base, J.hok, rfl, q⟩
    | .brk, ⟨_, _, _, q⟩ => exact q.elim
    | .cont, ⟨_, _, _, q⟩ => exact q.elim

/-! ## the end of a row -/
theorem endG {l : PySem.W.OpenLaw} {n k : Nat} {q : Program} {loose : List Str} {XP : (Str → Option Value) → Heap → Prop} {YP : World → Heap → Prop} {d : DefRec}
    {K : Params → PySem.W.Frag} {sp : PySem.W.Frag → Sp} {x : Str}
    (hn : l.most = some n) (hn2 : n ≤ sizeLine) (hdf : d.params.defaults = []) (hr : Room k callerA)
    (hY : ∀ (w : World) (h : Heap), YP w h → (K w.params).In h)
    (F : ∀ (w : World) (mg : Str → Option Value) (fa : Addr) (h : Heap), (K w.params).In h → h.Ns mainGlobals mg → mg d.name = some (.ref fa) →
      ∃ fd : FuncData, (∀ (s : Shared) (u : Value), BindsTo s fd ⟨[u], []⟩ [(x, u)]) ∧
        ∀ base : Heap, (K w.params).In base → base.Ns mainGlobals mg → FnG l.prog w (K w.params) mg base CX0 k fa fd [x] (sp (K w.params)))
    (hsp : ∀ (K : PySem.W.Frag) (H : Hp) (a : Addr) (ns : List Int), ns.length ≤ n → SqL K H a (ns.map V.int) →
      sp K [.ref a] H (fun v _ => v = .bl true) fun _ _ _ => False) :
    PySem.W.WalkO q loose XP YP l.row.toRowW d [] (fun f vs => PySem.call f vs) := by
  refine Att.attach_call hn hdf fun w s0 s1 mg mb fa o pm cd doc a vs ns gr Y ho hd hcd hmg ha hi hl hgn => ?_
  have KX := hY w _ Y
  obtain ⟨fd, hbind, F⟩ := F w mg fa _ KX gr.T.g hmg
  have rv := vals_ints hi
  have lenV := hi.length
  have nsz : ns.length ≤ sizeLine := Nat.le_trans hl hn2
  -- the tracked heap T: nothing, or the script alone
  have main : ∀ T : Hp, (∀ b, T b = none ∨ ∃ ob xs, T b = some (.frz ob (.lst xs))) → SqL (K w.params) T a (ns.map V.int) → HOk l.prog w T s1.heap →
      (∀ b, T b ≠ none → b = a) → (T a ≠ none → (K w.params).lookup a = none) →
      codeAny (model l.prog w) callerA (.call (.ref fa) ⟨[.ref a], []⟩)
        (fun r t => r = .ok (.ret (.bool true)) ∧ OldK s1.heap t.heap ∧ t.os = s1.os ∧ AllBare t.gens) s1 := by
    intro T only hS hok only_a notK
    have keepD : ∀ {b : Addr} {ob : Obj}, s1.heap.get? b = some ob → (∃ es ep, ob.data = .dict es ep) → (hidT s1.heap T).get? b = some ob := by
      intro b ob e ⟨es, ep, ed⟩
      refine hidT_get e ?_
      match q : T b with
      | none => rfl
      | some u =>
        have hb : b = a := only_a b (by rw [q]; exact Option.some_ne_none _)
        subst hb
        rw [ha] at e
        cases e
        cases (show Data.seq vs.toArray _ = Data.dict es ep from ed)
    have nsT : ∀ {b : Addr} {m : Str → Option Value}, s1.heap.Ns b m → (hidT s1.heap T).Ns b m := by
      rintro b m ⟨ob, es, ep, e, ed, r⟩
      exact ⟨ob, es, ep, keepD e ⟨es, ep, ed⟩, ed, r⟩
    have inT : (K w.params).In (hidT s1.heap T) := by
      intro b ob e
      refine hidT_get (KX b ob e) ?_
      match q : T b with
      | none => rfl
      | some u =>
        have hb : b = a := only_a b (by rw [q]; exact Option.some_ne_none _)
        subst hb
        rw [notK (by rw [q]; exact Option.some_ne_none _)] at e
        cases e
    have nolim : (hidT s1.heap T).NoLimit := by
      obtain ⟨mc, h1, h2⟩ := gr.T.nolimit
      exact ⟨mc, nsT h1, h2⟩
    have md : Mod (K w.params) mg (hidT s1.heap T) := ⟨inT, nsT gr.T.g, ⟨mb, nsT gr.T.b, gr.T.builtins⟩, nolim⟩
    have e0 : Env0 l.prog w (K w.params) mg (hidT s1.heap T) callerA [] s1 T := by
      refine ⟨rfl, md, fun b ob e => of_hidT e, Nat.le_of_eq (hidT_size _ _), trivial, fun b hb => ?_, hok, .of_eq hgn⟩
      cases (show b ∈ ([] : List Addr) from hb)
    have run := (F _ inT (nsT gr.T.g)).go callerA [] s1 T ⟨[.ref a], []⟩ [.ref a] [.ref a] _ _ rfl hr e0 (hbind s1 (.ref a)) (.cons rfl .nil) (hsp (K w.params) T a ns hl hS)
    refine codeAny_mono run fun res t hq => ?_
    match res, hq with
    | .error e, hq => exact hq.elim
    | .ok .next, hq => exact hq.elim
    | .ok .brk, hq => exact hq.elim
    | .ok .cont, hq => exact hq.elim
    | .ok (.ret u), ⟨v, T', os, bare, un, hok', rr, qq⟩ =>
      obtain rfl : v = .bl true := qq
      obtain rfl : u = Value.bool true := rr
      refine ⟨rfl, OldK.of_keep fun b ob e => ?_, os, bare⟩
      match q : T b with
      | none => exact un.keep b ob e q (fun z => nomatch (show b ∈ ([] : List Addr) from z)) (fun z => nomatch z)
      | some u =>
        rcases only b with z | ⟨fo, xs, z⟩
        · rw [q] at z
          cases z
        · obtain ⟨e1, _⟩ := hok b _ z
          obtain ⟨e2, _⟩ := hok' b _ (un.frzs b fo _ z)
          rw [e] at e1
          cases e1
          exact e2
  match hk : (K w.params).lookup a with
  | some ob =>
    have e := KX a ob hk
    rw [ha] at e
    cases e
    refine main (fun _ => none) (fun _ => .inl rfl) (.inr ⟨_, vs.toArray, _, hk, rfl, rfl, rfl, ?_, ?_⟩) (fun b u z => nomatch (show (none : Option HO) = some u from z)) (fun b z => absurd rfl z) (fun z => absurd rfl z)
    · rw [List.size_toArray, lenV]
      exact nsz
    · simpa using rv
  | none =>
    have atA : ∀ b, b = a → (if b = a then some (HO.frz { cls := .type "list", data := .seq vs.toArray } (.lst (ns.map V.int))) else none) = some (HO.frz { cls := .type "list", data := .seq vs.toArray } (.lst (ns.map V.int))) := fun b hb => if_pos hb
    have offA : ∀ b, b ≠ a → (if b = a then some (HO.frz { cls := .type "list", data := .seq vs.toArray } (.lst (ns.map V.int))) else none) = none := fun b hb => if_neg hb
    refine main (fun b => if b = a then some (.frz { cls := .type "list", data := .seq vs.toArray } (.lst (ns.map V.int))) else none) (fun b => ?_) (.inl (.inr ⟨{ cls := .type "list", data := .seq vs.toArray }, atA a rfl⟩)) (fun b u z => ?_) (fun b z => ?_) fun _ => hk
    · by_cases hb : b = a
      · exact .inr ⟨_, _, atA b hb⟩
      · exact .inl (offA b hb)
    · by_cases hb : b = a
      · have z2 := (atA b hb).symm.trans z
        cases z2
        subst hb
        exact ⟨ha, by rw [List.length_map]; exact nsz, vs, _, rv, ha⟩
      · have z2 := (offA b hb).symm.trans z
        cases z2
    · by_cases hb : b = a
      · exact hb
      · exact absurd (offA b hb) z

/-! ## repr of data -/
mutual
/-- data whose text is written: no dict, numbers and texts of bounded size -/
def nice : PyData → Bool
  | .none | .bool _ => true
  | .int i => decide (i.natAbs.log2 < 1200)
  | .str x => x.cps.toList.all fun c => decide (c < 16 ^ 8)
  | .list xs | .tuple xs => niceAll xs
  | .dict _ => false
def niceAll : List PyData → Bool
  | [] => true
  | x :: xs => nice x && niceAll xs
end
structure Shw (d : PyData) : Prop where
  noDict : d.hasDict = false
  able : d.showable = true
  deep : d.depth ≤ 60
  fits : d.shown.length ≤ sizeLine
mutual
theorem nice_facts : ∀ d : PyData, nice d = true → d.hasDict = false ∧ d.showable = true ∧ d.leavesShort 1201 = true
  | .none, _ => by simp [PyData.hasDict, PyData.showable, PyData.leavesShort]
  | .bool _, _ => by simp [PyData.hasDict, PyData.showable, PyData.leavesShort]
  | .int i, h => by
    have h2 : i.natAbs.log2 < 1200 := by simpa [nice] using h
    have h3 := int_text_length_le (a := i) (by decide) h2
    have h4 : (PyData.shown (.int i)).length ≤ 1201 := by
      rw [PyData.shown_int]
      rw [PySem.ofString_length]
      exact h3
    refine ⟨by simp [PyData.hasDict], ?_, ?_⟩
    · simp only [PyData.showable]
      exact decide_eq_true (by omega)
    · simp only [PyData.leavesShort]
      exact decide_eq_true h4
  | .str x, h => by
    refine ⟨by simp [PyData.hasDict], by simp [PyData.showable], ?_⟩
    simpa only [PyData.leavesShort, nice] using h
  | .list xs, h => by
    have q := nice_factsAll xs (by simpa only [nice] using h)
    exact ⟨by simpa only [PyData.hasDict] using q.1, by simpa only [PyData.showable] using q.2.1, by simpa only [PyData.leavesShort] using q.2.2⟩
  | .tuple xs, h => by
    have q := nice_factsAll xs (by simpa only [nice] using h)
    exact ⟨by simpa only [PyData.hasDict] using q.1, by simpa only [PyData.showable] using q.2.1, by simpa only [PyData.leavesShort] using q.2.2⟩
  | .dict _, h => by simp [nice] at h
theorem nice_factsAll : ∀ ds : List PyData, niceAll ds = true → PyData.hasDictAll ds = false ∧ PyData.showableAll ds = true ∧ PyData.leavesShortAll 1201 ds = true
  | [], _ => by simp [PyData.hasDictAll, PyData.showableAll, PyData.leavesShortAll]
  | x :: xs, h => by
    have h' : nice x = true ∧ niceAll xs = true := by simpa [niceAll] using h
    obtain ⟨a1, a2, a3⟩ := nice_facts x h'.1
    obtain ⟨b1, b2, b3⟩ := nice_factsAll xs h'.2
    simp only [PyData.hasDictAll, PyData.showableAll, PyData.leavesShortAll, a1, a2, a3, b1, b2, b3, Bool.or_self, Bool.and_self, and_self]
end
theorem shw {d : PyData} (h : nice d = true) (hd : d.depth ≤ 60) (hb : d.bulk ≤ 10000) : Shw d := by
  obtain ⟨a1, a2, a3⟩ := nice_facts d h
  refine ⟨a1, a2, hd, ?_⟩
  have q := PyData.shown_le_bulk 1201 (by decide) d a3
  have e2 : 16777216 ≤ sizeLine := by decide
  omega
section
variable {X : Cx}
def rRepr (K : PySem.W.Frag) : List V → Hp → VK → Prop := fun xs H Q => ∃ (x : V) (d : PyData), xs = [x] ∧ Dp K H x d ∧ Shw d ∧ Q (.str d.shown) H
theorem call_repr (hgd : X.A.guards = some []) (hu : X.A.units + 64 < cLine) : CallR X (.builtin "repr") (rRepr X.K) := by
  intro pins s σ H xs us Q I r h
  obtain ⟨x, d, rfl, hd, ⟨hn, hs, hp, hz⟩, q⟩ := h
  obtain ⟨u, rfl, ru⟩ := vals1 r
  obtain ⟨as, rd⟩ := Dp.reads I d x u hd ru
  have fin : ∀ h' t tk, (∀ b o, s.heap.get? b = some o → h'.get? b = some o) → EP X pins σ Q (.str d.shown t) { s with heap := h', toks := tk } :=
    fun h' t tk kp => ⟨.str d.shown, H, I.kept kp, ⟨t, rfl⟩, q⟩
  cases hd with
  | lst hl ha =>
    cases (show u = Value.ref _ from ru)
    exact repr_of_reads' rd hs (PyData.noDict_hsm hn) hgd (by omega) (fun _ _ e => e) fin hz
  | tup hl ha =>
    cases (show u = Value.ref _ from ru)
    exact repr_of_reads' rd hs (PyData.noDict_hsm hn) hgd (by omega) (fun _ _ e => e) fin hz
  | int i =>
    obtain ⟨t, rfl⟩ := (show ∃ t, u = Value.int i t from ru)
    have e : (PyData.int i).shown = ((toString i : String) : Str) := PyData.shown_int i
    rw [e] at q
    exact PySem.P.repr_of_int (by simpa [PyData.showable] using hs) ⟨.str _, H, I.tok _, ⟨_, rfl⟩, q⟩
  | non =>
    cases (show u = Value.none from ru)
    rw [PyData.shown_none] at q
    exact PySem.P.repr_of_none ⟨.str _, H, I.tok _, ⟨_, rfl⟩, q⟩
  | bl b =>
    cases (show u = Value.bool b from ru)
    rw [PyData.shown_bool] at q
    refine PySem.P.repr_of_bool ⟨.str _, H, I.tok _, ⟨_, rfl⟩, ?_⟩
    cases b <;> exact q
  | str x =>
    obtain ⟨t, rfl⟩ := (show ∃ t, u = Value.str x t from ru)
    rw [PyData.shown_str] at q hz
    exact PySem.P.repr_of_str ⟨.str _, H, I.tok _, ⟨_, rfl⟩, q⟩ hz
end
/-! ## Defs of the text as constants -/
structure DefAt (K : PySem.W.Frag) (mg : Str → Option Value) (x : Str) (st : Stmt) (ps : List Str) : Prop where
  ex : ∃ f fd, Fun K x x st f fd ∧ mg x = some (.ref f) ∧ ∀ us : List Value, us.length = ps.length → bindArgs fd ⟨us, []⟩ = pure (ps.zip us)
theorem defAt {K : PySem.W.Frag} {h : Heap} {mg : Str → Option Value} {x : Str} {st : Stmt} {ps : List Str} {f : Addr} {oc : Value} {od an : Option Addr} {osl : Array (Option Value)}
    {kV doc pm cdv ct : Value} (KX : K.In h) (gl : h.Ns mainGlobals mg)
    (hb : ∀ us : List Value, us.length = ps.length → bindArgs (PySem.W.fnOf x x (defArgs st) (defBody st) (defScope st) .none kV doc pm an cdv ct) ⟨us, []⟩ = pure (ps.zip us))
    (a : PySem.W.nsIn K mainGlobals x = some (some (.ref f)))
    (l : K.lookup f = some ⟨oc, od, .func (PySem.W.fnOf x x (defArgs st) (defBody st) (defScope st) .none kV doc pm an cdv ct), osl⟩)
    (c : PySem.W.codeIn K cdv x = true) (k : PySem.W.keepIn K (.ref f) = true) : DefAt K mg x st ps :=
  ⟨f, _, fun_mk l c k, PySem.W.mg_of KX gl a, hb⟩
structure CalG (P : Program) (w : World) (K : PySem.W.Frag) (mg : Str → Option Value) (base : Heap) (k : Nat) (x : Str) (ps : List Str) (sp : Sp) : Prop where
  ex : ∃ f fd, FnG P w K mg base CX0 k f fd ps sp ∧ mg x = some (.ref f) ∧ PySem.W.keepIn K (.ref f) = true ∧ Binds K fd ps []
theorem calOk {P : Program} {w : World} {K : PySem.W.Frag} {mg : Str → Option Value} {base : Heap} {x : Str} {st : Stmt} {N ps : List Str} {k : Nat} {sp : Sp}
    (D : DefAt K mg x st ps) (S : FnScope N ps (defScope st)) (len : ∀ xs H Q E, sp xs H Q E → xs.length = ps.length)
    (hbody : ∀ (f : Addr) (cdv : Value) (A : Around) (out : List Env) (s : Shared) (H : Hp) (xs : List V) (Q : VK) (E : XK), A.guards = some [] →
      Room k (A.deeper (envOfC x (defScope st) s.heap.objs.size f cdv)) → sp xs H Q E →
      ∃ t, PSs (cxOf CX0 P w K mg base N x (defScope st) f cdv A out s H E).nox (defBody st) t ∧
        t { nx := fun _ H' => Q .non H', rt := Q } (start N xs) H) : CalG P w K mg base (k + 1) x ps sp := by
  obtain ⟨f, fd, F, m, b⟩ := D.ex
  exact ⟨f, fd, okG F S len (hbody f), m, F.kp, Binds.all b⟩
section
variable {X : Cx} {k j : Nat} {ps : List Str} {sp : Sp} {x : Str} {p pos : Pos} {e : Expr} {es : List Expr} {t : TA}
theorem pe_k (c : CalG X.prog X.w X.K X.mg X.base k x ps sp) (hgd : X.A.guards = some []) (hr : Room j X.A) (hk : k ≤ j) (hg : Gl X x) (ha : PA X (e :: es) t)
    (hdb : (x == ("__debug__" : Str)) = false := by decide)
    (he : starEach (e :: es) X.env = (false, eval e X.env) :: starEach es X.env := by rfl)
    (hpl : (backTo pos (starEach es X.env)).any (·.1) = false := by rfl) :
    PE X (.Call (.Name x p) (e :: es) [] pos) (tCall sp [] E0 t) := by
  obtain ⟨f, fd, F, m, kp, b⟩ := c.ex
  exact pe_g F hgd (hr.mono hk) hg m kp b .nil pass0 ha hdb he hpl
theorem pe_k0 (c : CalG X.prog X.w X.K X.mg X.base k x ps sp) (hgd : X.A.guards = some []) (hr : Room j X.A) (hk : k ≤ j) (hg : Gl X x)
    (hdb : (x == ("__debug__" : Str)) = false := by decide) : PE X (.Call (.Name x p) [] [] pos) (tCall sp [] E0 tNil) := by
  obtain ⟨f, fd, F, m, kp, b⟩ := c.ex
  exact pe_g0 F hgd (hr.mono hk) hg m kp b .nil pass0 hdb
end
/-- the law's own def, at the address that the row names -/
theorem lawOk {P : Program} {w : World} {K : PySem.W.Frag} {mg : Str → Option Value} {x y : Str} {st : Stmt} {N : List Str} {k : Nat} {sp : Sp} {fa : Addr}
    (hf : mg x = some (.ref fa)) (D : DefAt K mg x st [y]) (S : FnScope N [y] (defScope st)) (len : ∀ xs H Q E, sp xs H Q E → xs.length = [y].length)
    (hbody : ∀ base : Heap, K.In base → base.Ns mainGlobals mg → ∀ (f : Addr) (cdv : Value) (A : Around) (out : List Env) (s : Shared) (H : Hp) (xs : List V) (Q : VK) (E : XK), A.guards = some [] →
      Room k (A.deeper (envOfC x (defScope st) s.heap.objs.size f cdv)) → sp xs H Q E →
      ∃ t, PSs (cxOf CX0 P w K mg base N x (defScope st) f cdv A out s H E).nox (defBody st) t ∧
        t { nx := fun _ H' => Q .non H', rt := Q } (start N xs) H) :
    ∃ fd : FuncData, (∀ (s : Shared) (u : Value), BindsTo s fd ⟨[u], []⟩ [(y, u)]) ∧
      ∀ base : Heap, K.In base → base.Ns mainGlobals mg → FnG P w K mg base CX0 (k + 1) fa fd [y] sp := by
  obtain ⟨f, fd, F, m, b⟩ := D.ex
  obtain rfl : f = fa := by
    rw [m] at hf
    cases hf
    rfl
  exact ⟨fd, fun s u => .of_eq (b [u] rfl), fun base h1 h2 => okG F S len (hbody base h1 h2 f)⟩

section
variable {X : Cx} {x : Str} {pos : Pos}
theorem pe_gv {v : V} (hg : Gl X x) (h : ∃ u, X.mg x = some u ∧ RelV v u) (hd : (x == ("__debug__" : Str)) = false := by decide) : PE X (.Name x pos) (tC v) :=
  let ⟨_, hm, r⟩ := h
  pe_glob hg hm r hd
theorem pe_ty (n : String) (hg : Gl X x) (hm : X.mg x = none) (hv : bootBuiltins x = some (.type n)) (hn : x ≠ "__name__" := by decide) (hd : (x == ("__debug__" : Str)) = false := by decide) : PE X (.Name x pos) (tC (.ty n)) :=
  pe_bltn hg hm hv rfl hn hd
end
/-! ## Heaps: what is new, what is rolled -/
theorem same_new {H : Hp} {p : Addr} {o : HO} (h : H p = none) : Same H (upd H p o) := fun b u e => by
  rw [upd_ne (ne_of_none e h)]
  exact e
mutual
theorem Dp.grow {K : PySem.W.Frag} {H H' : Hp} (s : Same H H') : ∀ {x : V} {d : PyData}, Dp K H x d → Dp K H' x d
  | _, _, .non => .non
  | _, _, .bl b => .bl b
  | _, _, .int i => .int i
  | _, _, .str x => .str x
  | _, _, .lst h a => .lst (s.seq h) (DpAll.grow s a)
  | _, _, .tup h a => .tup (by
      rcases h with (h | ⟨o, h⟩) | h
      · exact .inl (.inl (s _ _ h))
      · exact .inl (.inr ⟨o, s _ _ h⟩)
      · exact .inr h) (DpAll.grow s a)
theorem DpAll.grow {K : PySem.W.Frag} {H H' : Hp} (s : Same H H') : ∀ {xs : List V} {ds : List PyData}, DpAll K H xs ds → DpAll K H' xs ds
  | _, _, .nil => .nil
  | _, _, .cons a b => .cons (Dp.grow s a) (DpAll.grow s b)
end
/-- the heap without what stands at d -/
def hide (d : Addr) (H : Hp) : Hp := fun b => if b = d then none else H b
theorem hide_ne {d b : Addr} {H : Hp} (h : b ≠ d) : hide d H b = H b := if_neg h
theorem hide_at {d : Addr} {H : Hp} : hide d H d = none := if_pos rfl
theorem hide_le {d : Addr} {H : Hp} : Same (hide d H) H := fun b o e => by
  by_cases h : b = d
  · subst h
    rw [hide_at] at e
    cases e
  · rw [hide_ne h] at e
    exact e
/-- the dice at d: three numbers -/
def DiceAt (H : Hp) (d : Addr) : Prop := ∃ l s c : Int, H d = some (.lst [.int l, .int s, .int c])
/-- from H to H': the dice at d may have been rolled, what else stood stands -/
structure Mv (d : Addr) (H H' : Hp) : Prop where
  same : Same (hide d H) (hide d H')
  dice : DiceAt H' d
theorem Mv.refl {d : Addr} {H : Hp} (h : DiceAt H d) : Mv d H H := ⟨Same.refl _, h⟩
theorem Mv.trans {d : Addr} {H H1 H2 : Hp} (a : Mv d H H1) (b : Mv d H1 H2) : Mv d H H2 := ⟨a.same.trans b.same, b.dice⟩
theorem Mv.get {d : Addr} {H H' : Hp} (a : Mv d H H') {b : Addr} {o : HO} (n : b ≠ d) (h : H b = some o) : H' b = some o := by
  have := a.same b o (by rw [hide_ne n]; exact h)
  rw [hide_ne n] at this
  exact this
theorem Mv.free {d : Addr} {H H' : Hp} (a : Mv d H H') {p : Addr} (h : H' p = none) : H p = none := by
  by_cases e : p = d
  · subst e
    obtain ⟨l, s, c, q⟩ := a.dice
    rw [q] at h
    cases h
  · match q : H p with
    | none => rfl
    | some o =>
      rw [a.get e q] at h
      cases h
theorem DiceAt.ne {d p : Addr} {H : Hp} (h : DiceAt H d) (n : H p = none) : p ≠ d := fun e => by
  obtain ⟨l, s, c, q⟩ := h
  rw [e, q] at n
  cases n
theorem hide_new {d p : Addr} {H : Hp} {o : HO} (n : p ≠ d) : hide d (upd H p o) = upd (hide d H) p o := by
  funext b
  by_cases h1 : b = d
  · subst h1
    rw [hide_at, upd_ne n.symm, hide_at]
  · rw [hide_ne h1]
    by_cases h2 : b = p
    · subst h2
      rw [upd_same, upd_same]
    · rw [upd_ne h2, upd_ne h2, hide_ne h1]
theorem Mv.new {d p : Addr} {H H' : Hp} {o : HO} (a : Mv d H H') (n : H' p = none) : Mv d H (upd H' p o) := by
  have ne := a.dice.ne n
  refine ⟨fun b u e => ?_, ?_⟩
  · rw [hide_new ne]
    refine same_new ?_ b u (a.same b u e)
    rw [hide_ne ne]
    exact n
  · obtain ⟨l, s, c, q⟩ := a.dice
    exact ⟨l, s, c, by rw [upd_ne ne.symm]; exact q⟩
/-- an own list (new since H) changed -/
theorem Mv.set {d p : Addr} {H H' : Hp} {o : HO} (a : Mv d H H') (n : H p = none) (ne : p ≠ d) : Mv d H (upd H' p o) := by
  refine ⟨fun b u e => ?_, ?_⟩
  · rw [hide_new ne]
    have nb : b ≠ p := fun q => by
      rw [q, hide_ne ne, n] at e
      cases e
    rw [upd_ne nb]
    exact a.same b u e
  · obtain ⟨l, s, c, q⟩ := a.dice
    exact ⟨l, s, c, by rw [upd_ne ne.symm]; exact q⟩
theorem same_new2 {H : Hp} {p : Addr} {o u : HO} (h : H p = none) : Same H (upd (upd H p o) p u) := by
  rw [upd_upd]
  exact same_new h
theorem Mv.new2 {d p : Addr} {H H' : Hp} {o u : HO} (a : Mv d H H') (n : H' p = none) : Mv d H (upd (upd H' p o) p u) := by
  rw [upd_upd]
  exact a.new n
theorem Mv.rolled {d : Addr} {H H' : Hp} {l s c : Int} (a : Mv d H H') : Mv d H (upd H' d (.lst [.int l, .int s, .int c])) := by
  refine ⟨fun b u e => ?_, l, s, c, upd_same⟩
  have q := a.same b u e
  by_cases h : b = d
  · subst h
    rw [hide_at] at q
    cases q
  · rw [hide_ne h] at q ⊢
    rw [upd_ne h]
    exact q
theorem Mv.sql {K : PySem.W.Frag} {d a : Addr} {H H' : Hp} {xs : List V} (m : Mv d H H') (n : a ≠ d) (h : SqL K H a xs) : SqL K H' a xs := by
  rcases h with (h | ⟨o, h⟩) | h
  · exact .inl (.inl (m.get n h))
  · exact .inl (.inr ⟨o, m.get n h⟩)
  · exact .inr h
theorem Mv.dp {K : PySem.W.Frag} {d : Addr} {H H' : Hp} {x : V} {dat : PyData} (m : Mv d H H') (h : Dp K (hide d H) x dat) : Dp K (hide d H') x dat := Dp.grow m.same h
theorem Dp.seen {K : PySem.W.Frag} {d : Addr} {H : Hp} {x : V} {dat : PyData} (h : Dp K (hide d H) x dat) : Dp K H x dat := Dp.grow hide_le h

theorem mul60 : CMulW (10 ^ Int.toNat 60) (10 ^ Int.toNat 60) := by
  unfold CMulW
  decide +kernel
theorem pos60 : (0 : Int) < 10 ^ Int.toNat 60 * 10 ^ Int.toNat 60 := by decide +kernel
theorem mul45 : CMulW (10 ^ Int.toNat 45) (10 ^ Int.toNat 45) := by
  unfold CMulW
  decide +kernel
/-! ## the promises of the dice -/
def spDice (K : PySem.W.Frag) : Sp := fun vs H Q _ => ∃ (a : Addr) (ns : List Int) (i : Nat), vs = [.ref a, .int (i : Int)] ∧ SqL K H a (ns.map V.int) ∧ ns.length ≤ 1000 ∧
  ∀ (p : Addr) (l s c : Int), H p = none → Q (.ref p) (upd H p (.lst [.int l, .int s, .int c]))
def spRoll : Sp := fun vs H Q _ => ∃ (d : Addr) (t : Int), vs = [.ref d, .int t] ∧ DiceAt H d ∧ 0 < t ∧ t.natAbs.log2 < 9000 ∧
  ∀ (r : Int) (H' : Hp), 0 ≤ r → r < t → Mv d H H' → (∀ b, H b = none → H' b = none) → Q (.int r) H'
def spPick (K : PySem.W.Frag) : Sp := fun vs H Q _ => ∃ (d a : Addr) (xs : List V), vs = [.ref d, .ref a] ∧ DiceAt H d ∧ SqL K H a xs ∧ a ≠ d ∧ 0 < xs.length ∧ xs.length ≤ 1000 ∧
  ∀ (i : Nat) (x : V) (H' : Hp), xs[i]? = some x → Mv d H H' → (∀ b, H b = none → H' b = none) → Q x H'
theorem DpAll.map {K : PySem.W.Frag} {H : Hp} {α : Type} (f : α → V) (g : α → PyData) : ∀ (xs : List α), (∀ x ∈ xs, Dp K H (f x) (g x)) → DpAll K H (xs.map f) (xs.map g)
  | [], _ => .nil
  | x :: r, h => .cons (h x List.mem_cons_self) (DpAll.map f g r fun y hy => h y (List.mem_cons_of_mem _ hy))
theorem canAll {α : Type} (g : α → PyData) : ∀ (xs : List α), (∀ x ∈ xs, (g x).canLay0 = true) → PyData.canLayAll0 (xs.map g) = true
  | [], _ => by simp [PyData.canLayAll0]
  | x :: r, h => by
    simp only [List.map_cons, PyData.canLayAll0, h x List.mem_cons_self, canAll g r fun y hy => h y (List.mem_cons_of_mem _ hy), Bool.and_self]
theorem depthAll0 {α : Type} (n : Nat) (g : α → PyData) : ∀ (xs : List α), (∀ x ∈ xs, (g x).depth ≤ n) → PyData.depthAll (xs.map g) ≤ n
  | [], _ => by simp [PyData.depthAll]
  | x :: r, h => by
    have h1 := h x List.mem_cons_self
    have h2 := depthAll0 n g r fun y hy => h y (List.mem_cons_of_mem _ hy)
    simp only [List.map_cons, PyData.depthAll]
    omega

/-! ## readings by statements: what an expression's reading hands on is said in one place -/
section
variable {te : TE} {tt : TT} {i : Nat} {t1 t2 rest : TS} {D : Ends} {σ : L2.St} {H : Hp}
theorem go_nx {t : TS} {r : VK} {b c : L2.St → Hp → Prop} (h : t D σ H) : Ends.nx ⟨t D, r, b, c⟩ σ H := h
theorem a_set (R : V → Hp → Prop) (h : ∀ Q' : VK, (∀ v H', R v H' → Q' v H') → te σ H Q') (k : ∀ v H', R v H' → rest D (σ.set i (some v)) H') :
    tSeq (tAsg te (gName i)) rest D σ H := h _ k
theorem a_set1 (R : V → Hp → Prop) (h : ∀ Q' : VK, (∀ v H', R v H' → Q' v H') → te σ H Q') (k : ∀ v H', R v H' → D.nx (σ.set i (some v)) H') :
    tAsg te (gName i) D σ H := h _ k
theorem a_ret (R : V → Hp → Prop) (h : ∀ Q' : VK, (∀ v H', R v H' → Q' v H') → te σ H Q') (k : ∀ v H', R v H' → D.rt v H') : tRet te D σ H := h _ k
theorem a_if (R : Bool → Hp → Prop) (h : ∀ Q' : Bool → Hp → Prop, (∀ b H', R b H' → Q' b H') → tt σ H Q') (k1 : ∀ H', R true H' → t1 { D with nx := rest D } σ H') (k2 : ∀ H', R false H' → t2 { D with nx := rest D } σ H') :
    tSeq (tIfS tt t1 t2) rest D σ H := h _ fun b H' r => by
  cases b with
  | true => exact iteT (k1 H' r)
  | false => exact iteF (k2 H' r)
theorem a_if1 (R : Bool → Hp → Prop) (h : ∀ Q' : Bool → Hp → Prop, (∀ b H', R b H' → Q' b H') → tt σ H Q') (k1 : ∀ H', R true H' → t1 D σ H') (k2 : ∀ H', R false H' → t2 D σ H') :
    tIfS tt t1 t2 D σ H := h _ fun b H' r => by
  cases b with
  | true => exact iteT (k1 H' r)
  | false => exact iteF (k2 H' r)
end
end G

set_option Elab.async false
set_option linter.all false
set_option maxRecDepth 100000
set_option maxHeartbeats 2000000
namespace G
open PySem PySem.Spec PyProof.Rows L2
/-! ## values as data, dicts among them -/
def keyD : Key → PyData
  | .inl i => .int i
  | .inr z => .str z
mutual
inductive Dx (H : Hp) : V → PyData → Prop
  | non : Dx H .non .none
  | bl (b : Bool) : Dx H (.bl b) (.bool b)
  | int (i : Int) : Dx H (.int i) (.int i)
  | str (x : Str) : Dx H (.str x) (.str x)
  | lst {a : Addr} {xs : List V} {ds : List PyData} : H a = some (.lst xs) → DxAll H xs ds → Dx H (.ref a) (.list ds)
  | tup {a : Addr} {xs : List V} {ds : List PyData} : H a = some (.tup xs) → DxAll H xs ds → Dx H (.ref a) (.tuple ds)
  | dct {a : Addr} {kvs : List (Key × V)} {ps : List (PyData × PyData)} : H a = some (.dK kvs) → DxKv H kvs ps → Dx H (.ref a) (.dict ps)
inductive DxAll (H : Hp) : List V → List PyData → Prop
  | nil : DxAll H [] []
  | cons {v : V} {vs : List V} {d : PyData} {ds : List PyData} : Dx H v d → DxAll H vs ds → DxAll H (v :: vs) (d :: ds)
inductive DxKv (H : Hp) : List (Key × V) → List (PyData × PyData) → Prop
  | nil : DxKv H [] []
  | cons {k : Key} {v : V} {r : List (Key × V)} {d : PyData} {ps : List (PyData × PyData)} : Dx H v d → DxKv H r ps → DxKv H ((k, v) :: r) ((keyD k, d) :: ps)
end
mutual
theorem Dx.grow {H H' : Hp} (s : Same H H') : ∀ {x : V} {d : PyData}, Dx H x d → Dx H' x d
  | _, _, .non => .non
  | _, _, .bl b => .bl b
  | _, _, .int i => .int i
  | _, _, .str x => .str x
  | _, _, .lst h a => .lst (s _ _ h) (DxAll.grow s a)
  | _, _, .tup h a => .tup (s _ _ h) (DxAll.grow s a)
  | _, _, .dct h a => .dct (s _ _ h) (DxKv.grow s a)
theorem DxAll.grow {H H' : Hp} (s : Same H H') : ∀ {xs : List V} {ds : List PyData}, DxAll H xs ds → DxAll H' xs ds
  | _, _, .nil => .nil
  | _, _, .cons a b => .cons (Dx.grow s a) (DxAll.grow s b)
theorem DxKv.grow {H H' : Hp} (s : Same H H') : ∀ {xs : List (Key × V)} {ds : List (PyData × PyData)}, DxKv H xs ds → DxKv H' xs ds
  | _, _, .nil => .nil
  | _, _, .cons a b => .cons (Dx.grow s a) (DxKv.grow s b)
end
mutual
theorem Dx.dp {K : PySem.W.Frag} {H : Hp} : ∀ {x : V} {d : PyData}, Dx H x d → d.hasDict = false → Dp K H x d
  | _, _, .non, _ => .non
  | _, _, .bl b, _ => .bl b
  | _, _, .int i, _ => .int i
  | _, _, .str x, _ => .str x
  | _, _, .lst h a, n => .lst (SqL.of h) (DxAll.dp a (by simpa [PyData.hasDict] using n))
  | _, _, .tup h a, n => .tup (SqT.of h) (DxAll.dp a (by simpa [PyData.hasDict] using n))
  | _, _, .dct h a, n => by simp [PyData.hasDict] at n
theorem DxAll.dp {K : PySem.W.Frag} {H : Hp} : ∀ {xs : List V} {ds : List PyData}, DxAll H xs ds → PyData.hasDictAll ds = false → DpAll K H xs ds
  | _, _, .nil, _ => .nil
  | _, _, .cons a b, n => by
    rw [PyData.hasDictAll, Bool.or_eq_false_iff] at n
    exact .cons (Dx.dp a n.1) (DxAll.dp b n.2)
end
theorem DxAll.len {H : Hp} : ∀ {xs : List V} {ds : List PyData}, DxAll H xs ds → xs.length = ds.length
  | _, _, .nil => rfl
  | _, _, .cons _ b => by rw [List.length_cons, List.length_cons, DxAll.len b]
theorem DxAll.at {H : Hp} : ∀ {xs : List V} {ds : List PyData}, DxAll H xs ds → ∀ (i : Nat) (d : PyData), ds[i]? = some d → ∃ x, xs[i]? = some x ∧ Dx H x d
  | _, _, .nil, _, _, e => by cases e
  | _, _, .cons a b, 0, d, e => by
    cases e
    exact ⟨_, rfl, a⟩
  | _, _, .cons a b, i + 1, d, e => DxAll.at b i d e
theorem DxAll.get {H : Hp} : ∀ {xs : List V} {ds : List PyData}, DxAll H xs ds → ∀ (i : Nat) (x : V), xs[i]? = some x → ∃ d, ds[i]? = some d ∧ Dx H x d
  | _, _, .nil, _, _, e => by cases e
  | _, _, .cons a b, 0, d, e => by
    cases e
    exact ⟨_, rfl, a⟩
  | _, _, .cons a b, i + 1, d, e => DxAll.get b i d e
theorem DxAll.append {H : Hp} : ∀ {xs ys : List V} {ds es : List PyData}, DxAll H xs ds → DxAll H ys es → DxAll H (xs ++ ys) (ds ++ es)
  | _, _, _, _, .nil, h => h
  | _, _, _, _, .cons a b, h => .cons a (DxAll.append b h)
theorem DxAll.take {H : Hp} : ∀ {xs : List V} {ds : List PyData} (n : Nat), DxAll H xs ds → DxAll H (xs.take n) (ds.take n)
  | _, _, 0, _ => .nil
  | _, _, _ + 1, .nil => .nil
  | _, _, n + 1, .cons a b => .cons a (DxAll.take n b)
theorem DxAll.drop {H : Hp} : ∀ {xs : List V} {ds : List PyData} (n : Nat), DxAll H xs ds → DxAll H (xs.drop n) (ds.drop n)
  | _, _, 0, h => h
  | _, _, _ + 1, .nil => .nil
  | _, _, n + 1, .cons a b => DxAll.drop n b
theorem DxAll.rep {H : Hp} {x : V} {d : PyData} (h : Dx H x d) : ∀ n, DxAll H (List.replicate n x) (List.replicate n d)
  | 0 => .nil
  | n + 1 => .cons h (DxAll.rep h n)
def tyName : PyData → String
  | .none => "NoneType" | .bool _ => "bool" | .int _ => "int" | .str _ => "str" | .list _ => "list" | .tuple _ => "tuple" | .dict _ => "dict"
theorem Dx.ty {K : PySem.W.Frag} {H : Hp} {x : V} {d : PyData} (h : Dx H x d) : TyX K H x (.type (tyName d)) := by
  cases h with
  | non => exact .base .non
  | bl b => exact .base (.bl b)
  | int i => exact .base (.int i)
  | str x => exact .base (.str x)
  | lst h _ => exact .base (.lst h)
  | tup h _ => exact .base (.tup h)
  | dct h _ => exact .base (.dK h)
theorem Same.put {H H' : Hp} {p : Addr} {o : HO} (s : Same H H') (n : H p = none) : Same H (upd H' p o) := fun b u e => by
  rw [upd_ne (ne_of_none e n)]
  exact s b u e
/-- a judge: what it says hangs on the value's data alone -/
def spJ (f : PyData → Bool) : Sp := fun vs H Q _ => ∃ (x : V) (d : PyData), vs = [x] ∧ Dx H x d ∧ ∀ H', Same H H' → Q (.bl (f d)) H'
theorem Mv.ofSame {d : Addr} {H H1 H2 : Hp} (a : Mv d H H1) (s : Same H1 H2) : Mv d H H2 := by
  refine ⟨fun b u e => ?_, ?_⟩
  · have q := a.same b u e
    by_cases h : b = d
    · subst h
      rw [hide_at] at q
      cases q
    · rw [hide_ne h] at q ⊢
      exact s _ _ q
  · obtain ⟨l, t, c, q⟩ := a.dice
    exact ⟨l, t, c, s _ _ q⟩
theorem Mv.dx {d : Addr} {H H' : Hp} {x : V} {dat : PyData} (m : Mv d H H') (h : Dx (hide d H) x dat) : Dx (hide d H') x dat := Dx.grow m.same h
theorem Dx.seen {d : Addr} {H : Hp} {x : V} {dat : PyData} (h : Dx (hide d H) x dat) : Dx H x dat := Dx.grow hide_le h

/-! ## the program's judges of forms and rows, as functions of data -/
abbrev BIG : Int := 1000000000000000000000000000000000000000000000000000000000000
def smallB (i : Int) : Bool := decide (-BIG < i) && decide (i < BIG)
def intB : PyData → Bool
  | .int i => smallB i
  | _ => false
def pairB : PyData → Bool
  | .tuple [a, b] => intB a && intB b
  | _ => false
def sideB : PyData → Bool
  | .int i => decide (0 ≤ i) && decide (i ≤ 7)
  | _ => false
def formB : PyData → Bool
  | .tuple [a, b] => sideB a && sideB b
  | _ => false
def formsB : PyData → Bool
  | .tuple ds => decide (ds.length ≤ 200) && ds.all formB
  | _ => false
def zeroD : PyData := .tuple [.int 0, .int 0]
def rowB : PyData → Bool
  | .tuple ds => formsB (.tuple ds) && (ds.isEmpty || !PyData.eqv (ds.getLastD .none) zeroD)
  | _ => false

section
variable {X : Cx}
/-- min and max of a tuple of two numbers -/
def rBest (f : Int → Int → Int) : List V → Hp → VK → Prop := fun vs H Q => ∃ (a : Addr) (i j : Int), vs = [.ref a] ∧ H a = some (.tup [.int i, .int j]) ∧ Q (.int (f i j)) H
open PySem.W in
theorem cr_max2T (hc : X.calm = true) (hu : X.A.units + 64 < cLine) : CallR X (.builtin "max") (rBest max) := by
  intro pins s σ H vs us Q I r h
  obtain ⟨a, i, j, rfl, ha, q⟩ := h
  rw [Vals.ref1 r]
  obtain ⟨its, rv, hl, _⟩ := I.tuple (SqT.of (K := X.K) ha)
  obtain ⟨u1, u2, rfl, r1, r2⟩ := vals2 rv
  obtain ⟨t1, rfl⟩ := (show ∃ t, u1 = Value.int i t from r1)
  obtain ⟨t2, rfl⟩ := (show ∃ t, u2 = Value.int j t from r2)
  refine max_tuple_data (x := .int i) (xs := [.int j]) (I.ok.hd hc) hl (.cons (.int i t1) (.cons (.int j t2) .nil)) ?_ ?_ fun k v h' tk bs hv rd kp => ?_
  · exact ⟨fun x hx y hy => by
      rcases List.mem_cons.mp hx with rfl | hx <;> rcases List.mem_cons.mp hy with rfl | hy
      · rfl
      · rw [List.mem_singleton.mp hy]; rfl
      · rw [List.mem_singleton.mp hx]; rfl
      · rw [List.mem_singleton.mp hy, List.mem_singleton.mp hx]; rfl, fun x hx z => by
      rcases List.mem_cons.mp hx with rfl | hx
      · cases z
      · rw [List.mem_singleton.mp hx] at z
        cases z⟩
  · have e : PyData.depthAll [.int i, .int j] = 0 := by simp [PyData.depthAll, PyData.depth]
    rw [e]
    omega
  · have e : maxD (.int i) [.int j] = .int (max i j) := maxD_ints i [j]
    rw [e] at rd
    cases rd with
    | int _ t => exact ⟨.int _, H, I.kept kp, ⟨t, rfl⟩, q⟩
open PySem.W in
theorem cr_min2T (hc : X.calm = true) (hu : X.A.units + 64 < cLine) : CallR X (.builtin "min") (rBest min) := by
  intro pins s σ H vs us Q I r h
  obtain ⟨a, i, j, rfl, ha, q⟩ := h
  rw [Vals.ref1 r]
  obtain ⟨its, rv, hl, _⟩ := I.tuple (SqT.of (K := X.K) ha)
  obtain ⟨u1, u2, rfl, r1, r2⟩ := vals2 rv
  obtain ⟨t1, rfl⟩ := (show ∃ t, u1 = Value.int i t from r1)
  obtain ⟨t2, rfl⟩ := (show ∃ t, u2 = Value.int j t from r2)
  refine min_tuple_data (x := .int i) (xs := [.int j]) (I.ok.hd hc) hl (.cons (.int i t1) (.cons (.int j t2) .nil)) ?_ ?_ fun k v h' tk bs hv rd kp => ?_
  · exact ⟨fun x hx y hy => by
      rcases List.mem_cons.mp hx with rfl | hx <;> rcases List.mem_cons.mp hy with rfl | hy
      · rfl
      · rw [List.mem_singleton.mp hy]; rfl
      · rw [List.mem_singleton.mp hx]; rfl
      · rw [List.mem_singleton.mp hy, List.mem_singleton.mp hx]; rfl, fun x hx z => by
      rcases List.mem_cons.mp hx with rfl | hx
      · cases z
      · rw [List.mem_singleton.mp hx] at z
        cases z⟩
  · have e : PyData.depthAll [.int i, .int j] = 0 := by simp [PyData.depthAll, PyData.depth]
    rw [e]
    omega
  · have e : minD (.int i) [.int j] = .int (min i j) := minD_ints i [j]
    rw [e] at rd
    cases rd with
    | int _ t => exact ⟨.int _, H, I.kept kp, ⟨t, rfl⟩, q⟩
end
/-! ## tuples put together, cut and repeated, over data -/
theorem fresh_same {d p : Addr} {H : Hp} {o : HO} (hd : DiceAt H d) (n : H p = none) : Same (hide d H) (hide d (upd H p o)) := ((Mv.refl hd).new n).same
theorem OpR.to {X : Cx} {f : Value → Value → Sem Value} {r r' : R2} (h : OpR X f r) (i : ∀ x y H Q, r' x y H Q → r x y H Q) : OpR X f r' :=
  fun pins s σ H x y v u Q I rx ry q => h pins s σ H x y v u Q I rx ry (i _ _ _ _ q)
theorem Dx.tupOf {H : Hp} {x : V} {ds : List PyData} (h : Dx H x (.tuple ds)) : ∃ a xs, x = .ref a ∧ H a = some (.tup xs) ∧ DxAll H xs ds := by
  cases h with
  | tup h1 h2 => exact ⟨_, _, rfl, h1, h2⟩
def rCatD : R2 := fun x y H Q => ∃ (d : Addr) (ds es : List PyData), DiceAt H d ∧ Dx (hide d H) x (.tuple ds) ∧ Dx (hide d H) y (.tuple es) ∧ ds.length + es.length ≤ 100000 ∧
  ∀ v H', Mv d H H' → Dx (hide d H') v (.tuple (ds ++ es)) → Q v H'
theorem op_catD {X : Cx} : OpR X (binaryOp .Add) rCatD := by
  refine OpR.to op_catA fun x y H Q h => ?_
  obtain ⟨d, ds, es, hd, hx, hy, hl, k⟩ := h
  obtain ⟨a, xs, rfl, ha, hxs⟩ := hx.tupOf
  obtain ⟨b, ys, rfl, hb, hys⟩ := hy.tupOf
  have l1 := hxs.len
  have l2 := hys.len
  refine ⟨a, b, xs, ys, rfl, rfl, SqT.of (hide_le _ _ ha), SqT.of (hide_le _ _ hb), Nat.le_trans (show xs.length + ys.length ≤ 100000 by omega) (by decide), fun e => ?_, fun _ e => ?_, fun _ _ p np => ?_⟩
  · subst e
    cases hxs
    exact k _ _ (Mv.refl hd) hy
  · subst e
    cases hys
    refine k _ _ (Mv.refl hd) ?_
    rw [List.append_nil]
    exact hx
  · refine k _ _ ((Mv.refl hd).new np) (.tup (by rw [hide_ne (hd.ne np)]; exact upd_same) (DxAll.grow (fresh_same hd np) (hxs.append hys)))
/-- the part of a tuple that a slice takes -/
def cutD (ds : List PyData) (lo hi : Option Int) : List PyData := (ds.drop (HT.sIx ds.length 0 lo)).take (HT.sIx ds.length ds.length hi - HT.sIx ds.length 0 lo)
def rSlD : V → Option Int → Option Int → Hp → VK → Prop := fun x lo hi H Q => ∃ (d : Addr) (ds : List PyData), DiceAt H d ∧ Dx (hide d H) x (.tuple ds) ∧
  ∀ v H', Mv d H H' → Dx (hide d H') v (.tuple (cutD ds lo hi)) → Q v H'
theorem sl_tupD {X : Cx} : SlR X rSlD := by
  intro pins s σ H x v vl vu lo hi sl Q I rx hs pl pu h
  obtain ⟨d, ds, hd, hx, k⟩ := h
  obtain ⟨a, xs, rfl, ha, hxs⟩ := hx.tupOf
  have l1 := hxs.len
  refine sl_tupA pins s σ H (.ref a) v vl vu lo hi sl Q I rx hs pl pu ⟨a, xs, rfl, SqT.of (hide_le _ _ ha), fun e => ?_, fun _ p np => ?_⟩
  · refine k _ _ (Mv.refl hd) ?_
    have e2 : cutD ds lo hi = ds := by
      unfold cutD
      rw [← l1, e.1, e.2]
      simp [l1]
    rw [e2]
    exact hx
  · refine k _ _ ((Mv.refl hd).new np) (.tup (by rw [hide_ne (hd.ne np)]; exact upd_same) (DxAll.grow (fresh_same hd np) ?_))
    have e2 : cutV xs lo hi = (xs.drop (HT.sIx ds.length 0 lo)).take (HT.sIx ds.length ds.length hi - HT.sIx ds.length 0 lo) := by
      unfold cutV
      rw [l1]
    rw [e2]
    exact (hxs.drop _).take _
def rRepD : R2 := fun x y H Q => ∃ (d : Addr) (k : Int) (ds : List PyData), y = .int k ∧ DiceAt H d ∧ Dx (hide d H) x (.tuple ds) ∧ ds ≠ [] ∧ 2 ≤ k ∧ k ≤ 1000 ∧ ds.length ≤ 1000 ∧
  ∀ v H', Mv d H H' → Dx (hide d H') v (.tuple (List.replicate k.toNat ds).flatten) → Q v H'
theorem DxAll.flat {H : Hp} {xs : List V} {ds : List PyData} (h : DxAll H xs ds) : ∀ n, DxAll H (List.replicate n xs).flatten (List.replicate n ds).flatten
  | 0 => .nil
  | n + 1 => by
    rw [List.replicate_succ, List.replicate_succ, List.flatten_cons, List.flatten_cons]
    exact h.append (DxAll.flat h n)
theorem op_repD {X : Cx} : OpR X (binaryOp .Mult) rRepD := by
  refine OpR.to op_repT fun x y H Q h => ?_
  obtain ⟨d, n, ds, rfl, hd, hx, h0, h2, h3, h4, k⟩ := h
  obtain ⟨a, xs, rfl, ha, hxs⟩ := hx.tupOf
  have l1 := hxs.len
  refine ⟨a, n, xs, rfl, rfl, SqT.of (hide_le _ _ ha), fun e => ?_, h2, h3, by omega, fun p np => ?_⟩
  · subst e
    cases hxs
    exact h0 rfl
  · exact k _ _ ((Mv.refl hd).new np) (.tup (by rw [hide_ne (hd.ne np)]; exact upd_same) (DxAll.grow (fresh_same hd np) (hxs.flat n.toNat)))
/-- a value picked out of a list of known data -/
theorem picked {d : Addr} {H H' : Hp} {xs : List V} {ds : List PyData} {i : Nat} {x : V} (h : DxAll (hide d H) xs ds) (m : Mv d H H') (e : xs[i]? = some x) : ∃ dat, dat ∈ ds ∧ Dx (hide d H') x dat := by
  obtain ⟨dat, h1, h2⟩ := h.get i x e
  exact ⟨dat, List.mem_of_getElem? h1, h2.grow m.same⟩
end G

set_option Elab.async false
set_option linter.all false
set_option maxRecDepth 100000
set_option maxHeartbeats 4000000
namespace G
open PySem PySem.Spec PyProof.Rows L2 HT
/-! ## a tuple read backwards: t[::-1] -/
theorem all_places {α : Type} : ∀ l : List α, (List.range l.length).filterMap (fun k => l[k]?) = l
  | [] => rfl
  | x :: r => by
    have ih := all_places r
    rw [List.length_cons, List.range_succ_eq_map, List.filterMap_cons]
    show x :: List.filterMap (fun k => (x :: r)[k]?) (List.map Nat.succ (List.range r.length)) = x :: r
    rw [List.filterMap_map]
    exact congrArg (x :: ·) ih
theorem fm_congr {α β : Type} {f g : α → Option β} : ∀ l : List α, (∀ x ∈ l, f x = g x) → l.filterMap f = l.filterMap g
  | [], _ => rfl
  | x :: r, h => by
    rw [List.filterMap_cons, List.filterMap_cons, h x List.mem_cons_self, fm_congr r fun y hy => h y (List.mem_cons_of_mem _ hy)]
theorem back_items (xs : Array Value) : ((List.range xs.size).filterMap fun (k : Nat) => xs[(((xs.size : Int) - 1) + (k : Int) * (-1)).toNat]?).toArray = xs.toList.reverse.toArray := by
  congr 1
  have e := all_places xs.toList.reverse
  rw [List.length_reverse, Array.length_toList] at e
  rw [← e]
  refine fm_congr _ fun k hk => ?_
  have hk' : k < xs.size := List.mem_range.mp hk
  rw [show (((xs.size : Int) - 1) + (k : Int) * (-1)).toNat = xs.size - 1 - k by omega]
  rw [← Array.getElem?_toList, List.getElem?_reverse (by rw [Array.length_toList]; exact hk'), Array.length_toList]
section
variable {prog : Program} {w : World} {A : Around} {E : Value → Shared → Prop} {s : Shared}
theorem applied_back {sl : Addr} {vl vu vs : Value} {n : Nat} {Q : Int × Int × Nat → Shared → Prop} (hs : s.heap.IsSliceOf sl vl vu vs) (pl : IsPart vl none) (pu : IsPart vu none) (ps : IsPart vs (some (-1)))
    (h : Q ((n : Int) - 1, -1, n) s) : wpAny (model prog w) A (Builtin.Slice.sliceApplied (.ref sl) (pure (n : Int))) Q E s := by
  obtain ⟨so, so1, so2, so3⟩ := id hs
  unfold Builtin.Slice.sliceApplied Builtin.Slice.sliceFields
  refine wpAny_bind (wpAny_bind (wpAny_field so1 so3 (x := vl) rfl (wpAny_bind (wpAny_field so1 so3 (x := vu) rfl (wpAny_bind (wpAny_field so1 so3 (x := vs) rfl (wpAny_pure ?_)))))))
  refine wpAny_bind (slicePart_ ps ?_)
  show wpAny _ _ (if ((-1 : Int) == 0) = true then _ else _) _ _ s
  rw [if_neg (by decide)]
  refine wpAny_bind (slicePart_ pl (wpAny_bind (slicePart_ pu (wpAny_bind (wpAny_pure ?_)))))
  have e1 : Builtin.Slice.sliceAdjust none none (-1) (n : Int) = ((n : Int) - 1, -1) := rfl
  have e2 : Builtin.Slice.slicePlaces ((n : Int) - 1) (-1) (-1) = n := by
    unfold Builtin.Slice.slicePlaces
    rw [if_neg (by decide)]
    by_cases q : (n : Int) - 1 > -1
    · rw [if_pos q]
      have : ((n : Int) - 1 - -1 - 1) / - -1 = (n : Int) - 1 - -1 - 1 := by
        rw [Int.neg_neg, Int.ediv_one]
      rw [this]
      omega
    · rw [if_neg q]
      omega
  show wpAny _ _ (match Builtin.Slice.sliceAdjust none none (-1) (n : Int) with | (lo, hi) => pure (lo, (-1 : Int), Builtin.Slice.slicePlaces lo hi (-1))) _ _ s
  rw [e1]
  show wpAny _ _ (pure ((n : Int) - 1, (-1 : Int), Builtin.Slice.slicePlaces ((n : Int) - 1) (-1) (-1))) _ _ s
  rw [e2]
  exact wpAny_pure h
theorem item_back {t sl : Addr} {items : Array Value} {vl vu vs : Value} {Q : Value → Shared → Prop} (ht : IsTup s.heap t items) (hs : s.heap.IsSliceOf sl vl vu vs) (pl : IsPart vl none) (pu : IsPart vu none) (ps : IsPart vs (some (-1)))
    (h : Q (.ref s.heap.objs.size) { s with heap := s.heap.push { cls := .type "tuple", data := .seq items.toList.reverse.toArray } }) (hsz : items.size ≤ sizeLine) : wpAny (model prog w) A (getItem (.ref t) (.ref sl)) Q E s := by
  have fits : sizeOk (.seq items.toList.reverse.toArray) := by
    show items.toList.reverse.toArray.size ≤ sizeLine
    rw [List.size_toArray, List.length_reverse, Array.length_toList]
    exact hsz
  obtain ⟨so, so1, so2, so3⟩ := id hs
  have kind : s.TypeIs (.ref sl) "slice" := ⟨so, so1, so2⟩
  unfold getItem
  try with_reducible refine wpAny_holding ?_
  first | refine wpAny_bind (wpAny_pure ?_) | skip
  refine wpAny_bind (wpAny_sequenceKey ht.typeIs (by decide) ?_)
  refine wpAny_bind (wpAny_callSpecial?_slot (name := Str.ofString "__getitem__") ht.typeIs PyProof.Rows.slot_tuple_getitem (wpAny_call_entry PyProof.Rows.slot_tuple_getitem ht.typeIs entry_tuple_getitem ?_ (args_tuple_getitem _ _)))
  show wpAny _ _ (Builtin.Tuple.tupleItemsOf (.ref t) >>= _) _ _ s
  refine wpAny_bind (tupleItemsOf_ ht (wpAny_bind (wpAny_typeOf kind ?_)))
  rw [if_pos (by decide)]
  refine wpAny_bind (applied_back hs pl pu ps ?_)
  have part : ¬ ((((items.size : Int) - 1) == 0 && (-1 : Int) == 1 && items.size == items.size) = true) := by
    intro q
    rw [Bool.and_eq_true, Bool.and_eq_true] at q
    exact absurd q.1.2 (by decide)
  show wpAny _ _ (if (((items.size : Int) - 1) == 0 && (-1 : Int) == 1 && items.size == items.size) = true then _ else _) _ _ s
  rw [if_neg part, back_items]
  first
    | exact wpAny_bind (m := Builtin.Tuple.tupleExact _) (wpAny_newObj_type (wpAny_pure ⟨_, rfl, wpAny_pure h⟩) fits)
    | exact wpAny_bind (m := Builtin.Tuple.tupleExact _) (wpAny_newObj_type (wpAny_bind (wpAny_pure (wpAny_pure ⟨_, rfl, wpAny_pure h⟩))) fits)
    | exact wpAny_bind (wpAny_bind (m := Builtin.Tuple.tupleExact _) (wpAny_newObj_type (wpAny_pure (wpAny_pure ⟨_, rfl, wpAny_pure h⟩)) fits))
    | exact wpAny_bind (wpAny_bind (m := Builtin.Tuple.tupleExact _) (wpAny_newObj_type (wpAny_pure ⟨_, rfl, wpAny_pure h⟩) fits))
end
def tRevT (K : PySem.W.Frag) (te : TE) : TE := fun σ H Q => te σ H fun x H1 => ∃ a xs, x = .ref a ∧ SqT K H1 a xs ∧ ∀ p, H1 p = none → Q (.ref p) (upd H1 p (.tup xs.reverse))
theorem pe_revT {X : Cx} {e : Expr} {te : TE} {k : Nat} {p1 p2 p3 pos : Pos} (he : PE X e te) : PE X (.Subscript e (.Slice none none (some (.UnaryOp .USub (.Constant (.int 1) k p1) p2)) p3) pos) (tRevT X.K te) := by
  constructor
  intro pins s σ H Q I h
  refine Subscript_ (thn (he.run pins s σ H _ I h) fun v s1 hv => ?_)
  obtain ⟨x, H1, I1, r1, a, xs, rfl, hx, q⟩ := hv
  cases r1
  have stp : PO X (some (.UnaryOp .USub (.Constant (.int 1) k p1) p2)) (tPart (tUn (rU fun i => .int (-i)) (tC (.int 1)))) := po_some (pe_un un_neg pe_int)
  refine wpAny_Slice (thn (po_none.run pins s1 σ H1 (fun o G => o = none ∧ G = H1) I1 ⟨rfl, rfl⟩) fun vl s2 hl => ?_)
  obtain ⟨l, H2, I2, pl, rfl, rfl⟩ := hl
  refine thn (po_none.run pins s2 σ H2 (fun o G => o = none ∧ G = H2) I2 ⟨rfl, rfl⟩) fun vu s3 hu => ?_
  obtain ⟨u, H3, I3, pu, rfl, rfl⟩ := hu
  refine thn (stp.run pins s3 σ H3 (fun o G => o = some (-1) ∧ G = H3) I3 ⟨1, rfl, -1, rfl, rfl, rfl⟩) fun vs s4 ho => ?_
  obtain ⟨o, H4, I4, ps, rfl, rfl⟩ := ho
  have I5 : Inv X pins σ H4 { s4 with heap := s4.heap.push { cls := .type "slice", data := .fields #[vl, vu, vs] } } := I4.kept (t' := s4.toks) fun b ob z => Heap.get?_push_of_some _ z
  obtain ⟨its, r, ht, hz⟩ := I5.tuple hx
  have hlen := r.length
  show wpAny (model X.prog X.w) X.A (subscriptTail e (.Slice none none (some (.UnaryOp .USub (.Constant (.int 1) k p1) p2)) p3) (.ref a) (.ref s4.heap.objs.size)) (EP X pins σ Q) X.xe { s4 with heap := s4.heap.push { cls := .type "slice", data := .fields #[vl, vu, vs] } }
  refine tail_any (ops := [.ref a, .ref s4.heap.objs.size]) ht.typeIs (PyProof.Rows.slot_tuple_getitem.lookup) ?_ (by with_unfolding_all rfl)
  refine item_back ht (Heap.IsSliceOf.new _ vl vu vs) pl pu ps ?_ (by rw [List.size_toArray]; omega)
  refine ⟨.ref _, _, I5.laid (t' := s4.toks) (o := .tup xs.reverse) (fun b ob z => Heap.get?_push_of_some _ z) (Nat.le_refl _) ?_, rfl, q _ (I5.hok.fresh (Nat.le_refl _))⟩
  refine ⟨by rw [List.length_reverse]; exact hz, its.reverse, r.reverse, _, Heap.get?_push_size _ rfl, rfl, 0, ?_⟩
  simp
end G

set_option Elab.async false
set_option linter.all false
set_option maxRecDepth 100000
set_option maxHeartbeats 2000000
namespace G
open PySem PySem.Spec PyProof.Rows L2
def top (i : Nat) : Stmt := PySem.Challenge.pw_fingerbooks_k03_forms_and_rows.main.body.getD i (.Pass ⟨0, 0, 0, 0⟩)
abbrev s_is_integer : Stmt := top 2
abbrev N_is_integer : List Str := ["value"]
theorem sc_is_integer : FnScope N_is_integer ["value"] (defScope s_is_integer) := ⟨rfl, rfl, rfl, by decide +kernel, rfl, by decide +kernel, by decide +kernel⟩
abbrev s_is_pair : Stmt := top 6
abbrev N_is_pair : List Str := ["value"]
theorem sc_is_pair : FnScope N_is_pair ["value"] (defScope s_is_pair) := ⟨rfl, rfl, rfl, by decide +kernel, rfl, by decide +kernel, by decide +kernel⟩
abbrev s_is_pair_within : Stmt := top 7
abbrev N_is_pair_within : List Str := ["value", "least", "greatest"]
theorem sc_is_pair_within : FnScope N_is_pair_within ["value", "least", "greatest"] (defScope s_is_pair_within) := ⟨rfl, rfl, rfl, by decide +kernel, rfl, by decide +kernel, by decide +kernel⟩
abbrev s_is_form : Stmt := top 8
abbrev N_is_form : List Str := ["value"]
theorem sc_is_form : FnScope N_is_form ["value"] (defScope s_is_form) := ⟨rfl, rfl, rfl, by decide +kernel, rfl, by decide +kernel, by decide +kernel⟩
abbrev s_are_forms : Stmt := top 9
abbrev N_are_forms : List Str := ["value", "form"]
theorem sc_are_forms : FnScope N_are_forms ["value"] (defScope s_are_forms) := ⟨rfl, rfl, rfl, by decide +kernel, rfl, by decide +kernel, by decide +kernel⟩
abbrev s_is_row : Stmt := top 10
abbrev N_is_row : List Str := ["value"]
theorem sc_is_row : FnScope N_is_row ["value"] (defScope s_is_row) := ⟨rfl, rfl, rfl, by decide +kernel, rfl, by decide +kernel, by decide +kernel⟩
abbrev s__law_dice : Stmt := top 12
abbrev N__law_dice : List Str := ["_law_script", "_law_spot", "_law_cell", "_law_left"]
theorem sc__law_dice : FnScope N__law_dice ["_law_script", "_law_spot"] (defScope s__law_dice) := ⟨rfl, rfl, rfl, by decide +kernel, rfl, by decide +kernel, by decide +kernel⟩
abbrev s__law_roll : Stmt := top 13
abbrev N__law_roll : List Str := ["_law_dice_here", "_law_total", "_law_found", "_law_one", "_law_two"]
theorem sc__law_roll : FnScope N__law_roll ["_law_dice_here", "_law_total"] (defScope s__law_roll) := ⟨rfl, rfl, rfl, by decide +kernel, rfl, by decide +kernel, by decide +kernel⟩
abbrev s__law_pick : Stmt := top 14
abbrev N__law_pick : List Str := ["_law_dice_here", "_law_items"]
theorem sc__law_pick : FnScope N__law_pick ["_law_dice_here", "_law_items"] (defScope s__law_pick) := ⟨rfl, rfl, rfl, by decide +kernel, rfl, by decide +kernel, by decide +kernel⟩
abbrev s__law_cut : Stmt := top 15
abbrev N__law_cut : List Str := ["_law_forms", "_law_found"]
theorem sc__law_cut : FnScope N__law_cut ["_law_forms"] (defScope s__law_cut) := ⟨rfl, rfl, rfl, by decide +kernel, rfl, by decide +kernel, by decide +kernel⟩
abbrev s__law_some_form : Stmt := top 16
abbrev N__law_some_form : List Str := ["_law_dice_here", "_law_high"]
theorem sc__law_some_form : FnScope N__law_some_form ["_law_dice_here", "_law_high"] (defScope s__law_some_form) := ⟨rfl, rfl, rfl, by decide +kernel, rfl, by decide +kernel, by decide +kernel⟩
abbrev s__law_some_row : Stmt := top 17
abbrev N__law_some_row : List Str := ["_law_dice_here", "_law_levels", "_law_high", "_law_forms", "_law_turn", "_law_form"]
theorem sc__law_some_row : FnScope N__law_some_row ["_law_dice_here", "_law_levels", "_law_high"] (defScope s__law_some_row) := ⟨rfl, rfl, rfl, by decide +kernel, rfl, by decide +kernel, by decide +kernel⟩
abbrev s__law_is_number : Stmt := top 18
abbrev N__law_is_number : List Str := ["_law_value"]
theorem sc__law_is_number : FnScope N__law_is_number ["_law_value"] (defScope s__law_is_number) := ⟨rfl, rfl, rfl, by decide +kernel, rfl, by decide +kernel, by decide +kernel⟩
abbrev s__law_pairs_right : Stmt := top 19
abbrev N__law_pairs_right : List Str := ["_law_dice_here", "_law_some", "_law_pair", "_law_is_fine", "_law_due", "_law_odd"]
theorem sc__law_pairs_right : FnScope N__law_pairs_right ["_law_dice_here"] (defScope s__law_pairs_right) := ⟨rfl, rfl, rfl, by decide +kernel, rfl, by decide +kernel, by decide +kernel⟩
abbrev s__law_rows_right : Stmt := top 20
abbrev N__law_rows_right : List Str := ["_law_dice_here", "_law_row", "_law_at", "_law_bad"]
theorem sc__law_rows_right : FnScope N__law_rows_right ["_law_dice_here"] (defScope s__law_rows_right) := ⟨rfl, rfl, rfl, by decide +kernel, rfl, by decide +kernel, by decide +kernel⟩
abbrev s_law : Stmt := top 21
abbrev N_law : List Str := ["_law_script", "_law_spot", "_law_dice_here", "_law_turn", "_law_form", "_law_told"]
theorem sc_law : FnScope N_law ["_law_script"] (defScope s_law) := ⟨rfl, rfl, rfl, by decide +kernel, rfl, by decide +kernel, by decide +kernel⟩
structure Txt (K : PySem.W.Frag) (mg : Str → Option Value) : Prop where
  isinstance : mg "isinstance" = none
  int : mg "int" = none
  bool : mg "bool" = none
  str : mg "str" = none
  tuple : mg "tuple" = none
  list : mg "list" = none
  len : mg "len" = none
  max : mg "max" = none
  min : mg "min" = none
  abs : mg "abs" = none
  all : mg "all" = none
  range : mg "range" = none
  repr : mg "repr" = none
  g_TOO_GREAT : ∃ u, mg "_TOO_GREAT" = some u ∧ RelV (.int BIG) u
  gMAX_SIDE : ∃ u, mg "MAX_SIDE" = some u ∧ RelV (.int 7) u
  gMAX_LEVELS : ∃ u, mg "MAX_LEVELS" = some u ∧ RelV (.int 200) u
/-! ## the dice -/
section
variable {P : Program} {w : World} {K : PySem.W.Frag} {mg : Str → Option Value} {base : Heap}
theorem c_dice (T : Txt K mg) (D : DefAt K mg "_law_dice" s__law_dice ["_law_script", "_law_spot"]) : CalG P w K mg base 1 "_law_dice" ["_law_script", "_law_spot"] (spDice K) := by
  refine calOk D sc__law_dice (fun xs H Q E h => ?_) (fun f cdv A out s H xs Q E hgd hr h => ?_)
  · obtain ⟨a, ns, i, rfl, _⟩ := h
    rfl
  · obtain ⟨a, ns, i, rfl, hS, hz, k⟩ := h
    have nd := sc__law_dice.nd
    refine ⟨_, (pss_cons (ps_set (i := 2) nd rfl (.inl rfl) (pe_ifExp (pt_cmpR op_lt (pv 1) (pe_callB call_len_seq (by rfl) T.len (by decide +kernel) (pa_cons (pv 0) pa_nil)) (nomark _)) (pe_callTy call_int1 (by rfl) T.int (by decide +kernel) (pa_cons (pe_ix ix_list (pv 0) (pv 1) (fun _ _ => rfl)) pa_nil)) (pe_op op_add (pe_op op_mul pe_int (pv 1)) pe_int)))
      (pss_cons (ps_set (i := 3) nd rfl (.inl rfl) (pe_op op_mod (pe_callB (call_max2 rfl) (by rfl) T.max (by decide +kernel) (pa_cons pe_int (pa_cons (pe_op op_sub (pe_callB call_abs (by rfl) T.abs (by decide +kernel) (pa_cons (pv 2) pa_nil)) (pe_op op_pow pe_int pe_int)) pa_nil))) (pe_op op_mulW (pe_op op_pow pe_int pe_int) (pe_op op_pow pe_int pe_int))))
      (pss_one (ps_ret (pe_lst (pa_cons (pv 3) (pa_cons (pe_op op_add (pe_op op_add (pe_op op_add (pe_op op_mul (pe_op op_mod (pe_callB call_abs (by rfl) T.abs (by decide +kernel) (pa_cons (pv 2) pa_nil)) pe_int) pe_int) (pe_op op_mul pe_int (pv 1))) (pe_op op_mul pe_int (pe_callTy call_int1 (by rfl) T.int (by decide +kernel) (pa_cons (pe_cmpR op_lt (pv 2) pe_int (nomark _)) pa_nil)))) pe_int) (pa_cons pe_int pa_nil)))))))), ?_⟩
    refine ⟨_, rfl, _, rfl, _, _, rfl, .inl hS, _, _, rfl, rfl, _, rfl, ite2 (fun hi => ?_) (fun hi => ?_)⟩
    · have hlt : i < ns.length := by
        have := of_decide_eq_true hi
        rw [List.length_map] at this
        omega
      have hat : (ns.map V.int)[i]? = some (.int ns[i]) := by
        rw [List.getElem?_map, List.getElem?_eq_getElem hlt]
        rfl
      refine ⟨_, rfl, _, rfl, _, _, _, _, rfl, rfl, hS, atI_nat hat, .inl ⟨_, rfl, ?_⟩⟩
      refine ⟨_, rfl, _, rfl, _, _, rfl, rfl, ⟨by decide, by decide, by decide⟩, _, _, rfl, rfl, _, _, rfl, _, _, rfl, rfl, ⟨by decide, by decide, by decide⟩, _, _, rfl, rfl, ⟨by decide, by decide, by decide⟩, _, _, rfl, rfl, mul60, _, _, rfl, rfl, pos60, ?_⟩
      refine ⟨_, rfl, _, rfl, _, rfl, _, _, rfl, rfl, (by show (0 : Int) < 1152921504606846961; decide), _, _, rfl, rfl, .inr ⟨by decide, by decide⟩, _, rfl, _, _, rfl, rfl, .inl ⟨by decide, by decide⟩, _, _, rfl, rfl, _, rfl, _, _, rfl, rfl, .inr ⟨_, rfl, _, _, rfl, rfl, .inl ⟨by decide, by decide⟩, _, _, rfl, rfl, _, _, rfl, rfl, (by show 3 ≤ sizeLine; decide), fun p1 n1 => ?_⟩⟩
      exact k _ _ _ _ n1
    · refine ⟨_, rfl, _, _, rfl, rfl, .inl ⟨by decide, by decide⟩, _, _, rfl, rfl, ?_⟩
      refine ⟨_, rfl, _, rfl, _, _, rfl, rfl, ⟨by decide, by decide, by decide⟩, _, _, rfl, rfl, _, _, rfl, _, _, rfl, rfl, ⟨by decide, by decide, by decide⟩, _, _, rfl, rfl, ⟨by decide, by decide, by decide⟩, _, _, rfl, rfl, mul60, _, _, rfl, rfl, pos60, ?_⟩
      refine ⟨_, rfl, _, rfl, _, rfl, _, _, rfl, rfl, (by show (0 : Int) < 1152921504606846961; decide), _, _, rfl, rfl, .inr ⟨by decide, by decide⟩, _, rfl, _, _, rfl, rfl, .inl ⟨by decide, by decide⟩, _, _, rfl, rfl, _, rfl, _, _, rfl, rfl, .inr ⟨_, rfl, _, _, rfl, rfl, .inl ⟨by decide, by decide⟩, _, _, rfl, rfl, _, _, rfl, rfl, (by show 3 ≤ sizeLine; decide), fun p1 n1 => ?_⟩⟩
      exact k _ _ _ _ n1
theorem c_roll (T : Txt K mg) (D : DefAt K mg "_law_roll" s__law_roll ["_law_dice_here", "_law_total"]) : CalG P w K mg base 1 "_law_roll" ["_law_dice_here", "_law_total"] spRoll := by
  refine calOk D sc__law_roll (fun xs H Q E h => ?_) (fun f cdv A out s H xs Q E hgd hr h => ?_)
  · obtain ⟨d, t, rfl, _⟩ := h
    rfl
  · obtain ⟨d, t, rfl, ⟨l, sd, c, hd⟩, ht, hlog, k⟩ := h
    have nd := sc__law_roll.nd
    have fr : ∀ (u : HO) (b : Addr), H b = none → upd H d u b = none := fun u b e => by
      rw [upd_ne (fun q => by rw [q, hd] at e; cases e)]
      exact e
    refine ⟨_, (pss_cons (ps_if (pt_cmpR op_gt (pe_ix ix_list (pv 0) pe_int (fun _ _ => rfl)) pe_int (nomark _)) (pss_cons (ps_set (i := 2) nd rfl (.inl rfl) (pe_op op_mod (pe_callTy call_int1 (by rfl) T.int (by decide +kernel) (pa_cons (pe_ix ix_list (pv 0) pe_int (fun _ _ => rfl)) pa_nil)) (pv 1)))
        (pss_cons (ps_asg (pe_op op_fdivW (pe_ix ix_list (pv 0) pe_int (fun _ _ => rfl)) (pv 1)) (pg_sub (pv 0) pe_int set_list))
        (pss_one (ps_ret (pv 2))))) pss_nil)
      (pss_cons (ps_asg (pe_op op_add (pe_ix ix_list (pv 0) pe_int (fun _ _ => rfl)) pe_int) (pg_sub (pv 0) pe_int set_list))
      (pss_cons (ps_set (i := 3) nd rfl (.inl rfl) (pe_op op_mod (pe_callTy call_int1 (by rfl) T.int (by decide +kernel) (pa_cons (pe_op op_add (pe_ix ix_list (pv 0) pe_int (fun _ _ => rfl)) (pe_op op_mul pe_int (pe_ix ix_list (pv 0) pe_int (fun _ _ => rfl)))) pa_nil)) pe_int))
      (pss_cons (ps_set (i := 4) nd rfl (.inl rfl) (pe_op op_add (pe_op op_mul (pe_op op_mod (pe_callTy call_int1 (by rfl) T.int (by decide +kernel) (pa_cons (pe_op op_add (pe_op op_mulW (pv 3) (pv 3)) (pe_op op_mul pe_int (pe_ix ix_list (pv 0) pe_int (fun _ _ => rfl)))) pa_nil)) pe_int) pe_int) (pv 3)))
      (pss_one (ps_ret (pe_op op_mod (pe_callTy call_int1 (by rfl) T.int (by decide +kernel) (pa_cons (pe_op op_fdivW (pv 4) pe_int) pa_nil)) (pv 1)))))))), ?_⟩
    refine ⟨_, rfl, _, _, _, _, rfl, rfl, SqL.of hd, atI_nat (j := 0) rfl, _, _, rfl, rfl, _, rfl, ite2 (fun hl => ?_) (fun hl => ?_)⟩
    · refine ⟨_, rfl, _, _, _, _, rfl, rfl, SqL.of hd, atI_nat (j := 0) rfl, .inl ⟨_, rfl, _, rfl, _, _, rfl, rfl, ht, ?_⟩⟩
      refine ⟨_, rfl, _, _, _, _, rfl, rfl, SqL.of hd, atI_nat (j := 0) rfl, _, rfl, _, _, rfl, rfl, ⟨ht, hlog⟩, _, rfl, _, _, _, 0, rfl, rfl, hd, rfl, ?_⟩
      refine ⟨_, rfl, ?_⟩
      exact k _ _ (Int.emod_nonneg _ (by omega)) (Int.emod_lt_of_pos _ ht) (Mv.refl ⟨l, sd, c, hd⟩).rolled (fr _)
    · refine ⟨_, rfl, _, _, _, _, rfl, rfl, SqL.of hd, atI_nat (j := 2) rfl, _, _, rfl, rfl, _, rfl, _, _, _, 2, rfl, rfl, hd, rfl, ?_⟩
      have h1 : upd H d (.lst [.int l, .int sd, .int (c + 1)]) d = some (.lst [.int l, .int sd, .int (c + 1)]) := upd_same
      refine ⟨_, rfl, _, _, _, _, rfl, rfl, SqL.of h1, atI_nat (j := 1) rfl, _, rfl, _, _, _, _, rfl, rfl, SqL.of h1, atI_nat (j := 2) rfl, _, _, rfl, rfl, .inl ⟨by decide, by decide⟩, _, _, rfl, rfl, .inl ⟨_, rfl, _, _, rfl, rfl, (by show (0 : Int) < 2305843009213693669; decide), ?_⟩⟩
      have hb := Int.emod_lt_of_pos (sd + 32452843 * (c + 1)) (show (0 : Int) < 2305843009213693669 by decide)
      have hn := Int.emod_nonneg (sd + 32452843 * (c + 1)) (show (2305843009213693669 : Int) ≠ 0 by decide)
      have hs : ((sd + 32452843 * (c + 1)) % 2305843009213693669).natAbs < 2 ^ 62 := by
        have e : (2 : Nat) ^ 62 = 4611686018427387904 := by decide
        omega
      refine ⟨_, rfl, _, rfl, _, _, rfl, rfl, wide_mul hs hs (by decide) (by decide) (by decide), _, rfl, _, _, _, _, rfl, rfl, SqL.of h1, atI_nat (j := 2) rfl, _, _, rfl, rfl, .inl ⟨by decide, by decide⟩, _, _, rfl, rfl, .inl ⟨_, rfl, _, _, rfl, rfl, (by show (0 : Int) < 1152921504606846869; decide), _, _, rfl, rfl, .inr ⟨by decide, by decide⟩, _, rfl, _, _, rfl, rfl, ?_⟩⟩
      refine ⟨_, rfl, _, _, rfl, rfl, ⟨by decide, by decide +kernel⟩, .inl ⟨_, rfl, _, rfl, _, _, rfl, rfl, ht, ?_⟩⟩
      exact k _ _ (Int.emod_nonneg _ (by omega)) (Int.emod_lt_of_pos _ ht) (Mv.refl ⟨l, sd, c, hd⟩).rolled (fr _)
theorem c_pick (T : Txt K mg) (C__law_roll : CalG P w K mg base 1 "_law_roll" ["_law_dice_here", "_law_total"] spRoll) (D : DefAt K mg "_law_pick" s__law_pick ["_law_dice_here", "_law_items"]) : CalG P w K mg base 2 "_law_pick" ["_law_dice_here", "_law_items"] (spPick K) := by
  refine calOk D sc__law_pick (fun xs H Q E h => ?_) (fun f cdv A out s H xs Q E hgd hr h => ?_)
  · obtain ⟨d, a, ys, rfl, _⟩ := h
    rfl
  · obtain ⟨d, a, ys, rfl, hd, hS, ne, h0, hz, k⟩ := h
    have nd := sc__law_pick.nd
    refine ⟨_, (pss_one (ps_ret (pe_ix ix_list (pv 1) (pe_k C__law_roll hgd hr (by decide) rfl (pa_cons (pv 0) (pa_cons (pe_callB call_len_seq (by rfl) T.len (by decide +kernel) (pa_cons (pv 1) pa_nil)) pa_nil))) (fun _ _ => rfl)))), ?_⟩
    have small : ((ys.length : Nat) : Int).natAbs.log2 < 9000 := by
      have e : ((ys.length : Nat) : Int).natAbs = ys.length := Int.natAbs_natCast _
      rw [e]
      exact Nat.lt_of_le_of_lt (Nat.log2_le_self _) (by omega)
    refine ⟨_, rfl, _, rfl, _, rfl, _, _, rfl, .inl hS, _, _, rfl, hd, (by omega), small, fun r1 H1 a1 b1 m1 f1 => ?_⟩
    obtain ⟨i, rfl⟩ : ∃ i : Nat, r1 = (i : Int) := ⟨r1.toNat, by omega⟩
    have hi : i < ys.length := by omega
    refine ⟨_, _, _, _, rfl, rfl, m1.sql ne hS, atI_nat (List.getElem?_eq_getElem hi), k _ _ _ (List.getElem?_eq_getElem hi) m1 f1⟩
end


/-! ## is_integer, is_pair, is_form, are_forms, is_row: judges over data -/
section
variable {P : Program} {w : World} {K : PySem.W.Frag} {mg : Str → Option Value} {base : Heap}
theorem c_is_integer (T : Txt K mg) (D : DefAt K mg "is_integer" s_is_integer ["value"]) : CalG P w K mg base 1 "is_integer" ["value"] (spJ intB) := by
  refine calOk D sc_is_integer (fun xs H Q E h => ?_) (fun f cdv A out s H xs Q E hgd hr h => ?_)
  · obtain ⟨x, d, rfl, _⟩ := h
    rfl
  · obtain ⟨x, d, rfl, hx, k⟩ := h
    have nd := sc_is_integer.nd
    refine ⟨_, (pss_one (ps_ret (pe_and (pe_callB call_isi (by rfl) T.isinstance (by decide +kernel) (pa_cons (pv 0) (pa_cons (pe_ty "int" rfl T.int (by decide +kernel)) pa_nil))) (pe_and (pe_not (pe_callB call_isi (by rfl) T.isinstance (by decide +kernel) (pa_cons (pv 0) (pa_cons (pe_ty "bool" rfl T.bool (by decide +kernel)) pa_nil)))) (pe_one (pe_chain op_lt op_lt (pe_un un_neg (pe_gv rfl T.g_TOO_GREAT)) (pv 0) (pe_gv rfl T.g_TOO_GREAT))))))), ?_⟩
    cases hx with
    | int i =>
      have k' : Q (.bl (smallB i)) H := k H (Same.refl _)
      refine ⟨_, rfl, _, _, _, _, true, rfl, .ty _, .base (.int i), kit_ty (by decide +kernel), true, rfl, iteT ?_⟩
      refine ⟨_, rfl, _, _, _, _, false, rfl, .ty _, .base (.int i), kit_ty (by decide +kernel), false, rfl, true, rfl, iteT ?_⟩
      refine ⟨_, rfl, _, rfl, _, _, rfl, rfl, _, rfl, ite2 (fun h1 => ?_) (fun h1 => ?_)⟩
      · refine ⟨_, _, rfl, rfl, ?_⟩
        have e : smallB i = decide (i < BIG) := by
          unfold smallB
          rw [h1]
          rfl
        rw [e] at k'
        exact k'
      · have e : smallB i = false := by
          unfold smallB
          rw [Bool.eq_false_iff.mpr h1]
          rfl
        rw [e] at k'
        exact k'
    | bl b =>
      refine ⟨_, rfl, _, _, _, _, true, rfl, .ty _, .base (.bl b), kit_ty (by decide +kernel), true, rfl, iteT ?_⟩
      refine ⟨_, rfl, _, _, _, _, true, rfl, .ty _, .base (.bl b), kit_ty (by decide +kernel), true, rfl, false, rfl, iteF ?_⟩
      exact k H (Same.refl _)
    | non => exact ⟨_, rfl, _, _, _, _, false, rfl, .ty _, Dx.ty .non, kit_ty (by decide +kernel), false, rfl, iteF (k H (Same.refl _))⟩
    | str x => exact ⟨_, rfl, _, _, _, _, false, rfl, .ty _, Dx.ty (.str x), kit_ty (by show kitB "str" _ = _; decide +kernel), false, rfl, iteF (k H (Same.refl _))⟩
    | lst h1 h2 => exact ⟨_, rfl, _, _, _, _, false, rfl, .ty _, Dx.ty (.lst h1 h2), kit_ty (by show kitB "list" _ = _; decide +kernel), false, rfl, iteF (k H (Same.refl _))⟩
    | tup h1 h2 => exact ⟨_, rfl, _, _, _, _, false, rfl, .ty _, Dx.ty (.tup h1 h2), kit_ty (by show kitB "tuple" _ = _; decide +kernel), false, rfl, iteF (k H (Same.refl _))⟩
    | dct h1 h2 => exact ⟨_, rfl, _, _, _, _, false, rfl, .ty _, Dx.ty (.dct h1 h2), kit_ty (by show kitB "dict" _ = _; decide +kernel), false, rfl, iteF (k H (Same.refl _))⟩
theorem c_is_pair (T : Txt K mg) (C_is_integer : CalG P w K mg base 1 "is_integer" ["value"] (spJ intB)) (D : DefAt K mg "is_pair" s_is_pair ["value"]) : CalG P w K mg base 2 "is_pair" ["value"] (spJ pairB) := by
  refine calOk D sc_is_pair (fun xs H Q E h => ?_) (fun f cdv A out s H xs Q E hgd hr h => ?_)
  · obtain ⟨x, d, rfl, _⟩ := h
    rfl
  · obtain ⟨x, d, rfl, hx, k⟩ := h
    have nd := sc_is_pair.nd
    refine ⟨_, (pss_one (ps_ret (pe_and (pe_callB call_isi (by rfl) T.isinstance (by decide +kernel) (pa_cons (pv 0) (pa_cons (pe_ty "tuple" rfl T.tuple (by decide +kernel)) pa_nil))) (pe_and (pe_cmpR op_eq (pe_callB call_len_seq (by rfl) T.len (by decide +kernel) (pa_cons (pv 0) pa_nil)) pe_int (nomark _)) (pe_and (pe_k C_is_integer hgd hr (by decide) rfl (pa_cons (pe_ix ix_tup (pv 0) pe_int (fun _ _ => rfl)) pa_nil)) (pe_one (pe_k C_is_integer hgd hr (by decide) rfl (pa_cons (pe_ix ix_tup (pv 0) pe_int (fun _ _ => rfl)) pa_nil)))))))), ?_⟩
    cases hx with
    | tup h1 h2 =>
      rename_i a xs ds
      have hl := h2.len
      refine ⟨_, rfl, _, _, _, _, true, rfl, .ty _, Dx.ty (.tup h1 h2), kit_ty (by show kitB "tuple" _ = _; decide +kernel), true, rfl, iteT ?_⟩
      refine ⟨_, rfl, _, _, rfl, .inr (SqT.of h1), rfl, _, rfl, ite2 (fun q => ?_) (fun q => ?_)⟩
      · have two : xs.length = 2 := by
          have := V.int.inj (of_decide_eq_true q)
          omega
        cases h2 with
        | nil => cases two
        | cons y1 r1 =>
          cases r1 with
          | nil => cases two
          | cons y2 r2 =>
            cases r2 with
            | cons _ _ => simp at two
            | nil =>
              refine ⟨_, rfl, _, _, _, _, rfl, rfl, SqT.of h1, atI_nat (j := 0) rfl, _, _, rfl, y1, fun H1 s1 => ?_⟩
              refine ⟨_, rfl, ite2 (fun q1 => ?_) (fun q1 => ?_)⟩
              · refine ⟨_, rfl, _, _, _, _, rfl, rfl, SqT.of (s1 _ _ h1), atI_nat (j := 1) rfl, _, _, rfl, y2.grow s1, fun H2 s2 => ?_⟩
                have e := k H2 (s1.trans s2)
                simp only [pairB, q1, Bool.true_and] at e
                exact e
              · have e := k H1 s1
                simp only [pairB, Bool.eq_false_iff.mpr q1, Bool.false_and] at e
                exact e
      · have e := k H (Same.refl _)
        have nf : pairB (.tuple ds) = false := by
          match ds, hl with
          | [], _ => rfl
          | [_], _ => rfl
          | [_, _], hl => exact absurd (decide_eq_true (show V.int (xs.length : Int) = V.int 2 by rw [hl]; rfl)) q
          | _ :: _ :: _ :: _, _ => rfl
        rw [nf] at e
        exact e
    | int i => exact ⟨_, rfl, _, _, _, _, false, rfl, .ty _, Dx.ty (.int i), kit_ty (by show kitB "int" _ = _; decide +kernel), false, rfl, iteF (k H (Same.refl _))⟩
    | bl b => exact ⟨_, rfl, _, _, _, _, false, rfl, .ty _, Dx.ty (.bl b), kit_ty (by show kitB "bool" _ = _; decide +kernel), false, rfl, iteF (k H (Same.refl _))⟩
    | non => exact ⟨_, rfl, _, _, _, _, false, rfl, .ty _, Dx.ty .non, kit_ty (by decide +kernel), false, rfl, iteF (k H (Same.refl _))⟩
    | str x => exact ⟨_, rfl, _, _, _, _, false, rfl, .ty _, Dx.ty (.str x), kit_ty (by show kitB "str" _ = _; decide +kernel), false, rfl, iteF (k H (Same.refl _))⟩
    | lst h1 h2 => exact ⟨_, rfl, _, _, _, _, false, rfl, .ty _, Dx.ty (.lst h1 h2), kit_ty (by show kitB "list" _ = _; decide +kernel), false, rfl, iteF (k H (Same.refl _))⟩
    | dct h1 h2 => exact ⟨_, rfl, _, _, _, _, false, rfl, .ty _, Dx.ty (.dct h1 h2), kit_ty (by show kitB "dict" _ = _; decide +kernel), false, rfl, iteF (k H (Same.refl _))⟩
theorem form_pair {d : PyData} (h : formB d = true) : pairB d = true := by
  match d, h with
  | .tuple [.int a, .int b], h =>
    have h' : (decide (0 ≤ a) && decide (a ≤ 7)) = true ∧ (decide (0 ≤ b) && decide (b ≤ 7)) = true := by simpa [formB, sideB] using h
    have g : ∀ i : Int, (decide (0 ≤ i) && decide (i ≤ 7)) = true → smallB i = true := fun i q => by
      have q' : 0 ≤ i ∧ i ≤ 7 := by simpa using q
      unfold smallB BIG
      rw [decide_eq_true (by omega), decide_eq_true (by omega)]
      rfl
    show (smallB a && smallB b) = true
    rw [g a h'.1, g b h'.2]
    rfl
  | .tuple [.none, _], h => simp [formB, sideB] at h
  | .tuple [.bool _, _], h => simp [formB, sideB] at h
  | .tuple [.str _, _], h => simp [formB, sideB] at h
  | .tuple [.list _, _], h => simp [formB, sideB] at h
  | .tuple [.tuple _, _], h => simp [formB, sideB] at h
  | .tuple [.dict _, _], h => simp [formB, sideB] at h
  | .tuple [.int _, .none], h => simp [formB, sideB] at h
  | .tuple [.int _, .bool _], h => simp [formB, sideB] at h
  | .tuple [.int _, .str _], h => simp [formB, sideB] at h
  | .tuple [.int _, .list _], h => simp [formB, sideB] at h
  | .tuple [.int _, .tuple _], h => simp [formB, sideB] at h
  | .tuple [.int _, .dict _], h => simp [formB, sideB] at h
  | .tuple [], h => simp [formB] at h
  | .tuple [_], h => simp [formB] at h
  | .tuple (_ :: _ :: _ :: _), h => simp [formB] at h
  | .none, h => simp [formB] at h
  | .bool _, h => simp [formB] at h
  | .int _, h => simp [formB] at h
  | .str _, h => simp [formB] at h
  | .list _, h => simp [formB] at h
  | .dict _, h => simp [formB] at h
theorem pair_ints {d : PyData} (h : pairB d = true) : ∃ a b, d = .tuple [.int a, .int b] := by
  match d, h with
  | .tuple [a, b], h =>
    have h' : intB a = true ∧ intB b = true := by simpa [pairB] using h
    match a, b, h' with
    | .int i, .int j, _ => exact ⟨i, j, rfl⟩
    | .none, _, h => simp [intB] at h
    | .bool _, _, h => simp [intB] at h
    | .str _, _, h => simp [intB] at h
    | .list _, _, h => simp [intB] at h
    | .tuple _, _, h => simp [intB] at h
    | .dict _, _, h => simp [intB] at h
    | .int _, .none, h => simp [intB] at h
    | .int _, .bool _, h => simp [intB] at h
    | .int _, .str _, h => simp [intB] at h
    | .int _, .list _, h => simp [intB] at h
    | .int _, .tuple _, h => simp [intB] at h
    | .int _, .dict _, h => simp [intB] at h
  | .tuple [], h => simp [pairB] at h
  | .tuple [_], h => simp [pairB] at h
  | .tuple (_ :: _ :: _ :: _), h => simp [pairB] at h
  | .none, h => simp [pairB] at h
  | .bool _, h => simp [pairB] at h
  | .int _, h => simp [pairB] at h
  | .str _, h => simp [pairB] at h
  | .list _, h => simp [pairB] at h
  | .dict _, h => simp [pairB] at h
def within (d : PyData) (lo hi : Int) : Bool := intB d && match d with
  | .int i => decide (lo ≤ i) && decide (i ≤ hi)
  | _ => false
def spWithin : Sp := fun vs H Q _ => ∃ (x : V) (d : PyData) (lo hi : Int), vs = [x, .int lo, .int hi] ∧ Dx H x d ∧ ∀ H', Same H H' → Q (.bl (within d lo hi)) H'
theorem int_of {d : PyData} (h : intB d = true) : ∃ i, d = .int i := by
  match d, h with
  | .int i, _ => exact ⟨i, rfl⟩
  | .none, h => simp [intB] at h
  | .bool _, h => simp [intB] at h
  | .str _, h => simp [intB] at h
  | .list _, h => simp [intB] at h
  | .tuple _, h => simp [intB] at h
  | .dict _, h => simp [intB] at h
def pairWithin (d : PyData) (lo hi : Int) : Bool := pairB d && match d with
  | .tuple [.int a, .int b] => decide (lo ≤ min a b) && decide (max a b ≤ hi)
  | _ => false
def spPairWithin : Sp := fun vs H Q _ => ∃ (x : V) (d : PyData) (lo hi : Int), vs = [x, .int lo, .int hi] ∧ Dx H x d ∧ ∀ H', Same H H' → Q (.bl (pairWithin d lo hi)) H'
theorem c_is_pair_within (T : Txt K mg) (C_is_pair : CalG P w K mg base 2 "is_pair" ["value"] (spJ pairB)) (D : DefAt K mg "is_pair_within" s_is_pair_within ["value", "least", "greatest"]) : CalG P w K mg base 3 "is_pair_within" ["value", "least", "greatest"] spPairWithin := by
  refine calOk D sc_is_pair_within (fun xs H Q E h => ?_) (fun f cdv A out s H xs Q E hgd hr h => ?_)
  · obtain ⟨x, d, lo, hi, rfl, _⟩ := h
    rfl
  · obtain ⟨x, d, lo, hi, rfl, hx, k⟩ := h
    have nd := sc_is_pair_within.nd
    refine ⟨_, (pss_one (ps_ret (pe_and (pe_k C_is_pair hgd hr (by decide) rfl (pa_cons (pv 0) pa_nil)) (pe_and (pe_cmpR op_le (pv 1) (pe_callB (cr_min2T rfl hr.units) (by rfl) T.min (by decide +kernel) (pa_cons (pv 0) pa_nil)) (nomark _)) (pe_one (pe_cmpR op_le (pe_callB (cr_max2T rfl hr.units) (by rfl) T.max (by decide +kernel) (pa_cons (pv 0) pa_nil)) (pv 2) (nomark _))))))), ?_⟩
    refine ⟨_, rfl, _, _, rfl, hx, fun H1 s1 => ⟨_, rfl, ite2 (fun q => ?_) (fun q => ?_)⟩⟩
    · obtain ⟨a, b, rfl⟩ := pair_ints q
      have hx1 := hx.grow s1
      have e := k H1 s1
      unfold pairWithin at e
      rw [q, Bool.true_and] at e
      replace e : Q (.bl (decide (lo ≤ min a b) && decide (max a b ≤ hi))) H1 := e
      cases hx1 with
      | tup h1 h2 =>
        cases h2 with
        | cons y1 r1 =>
          cases r1 with
          | cons y2 r2 =>
            cases r2
            cases y1
            cases y2
            refine ⟨_, rfl, _, rfl, _, _, _, rfl, h1, _, _, rfl, rfl, _, rfl, ite2 (fun q1 => ?_) (fun q1 => ?_)⟩
            · refine ⟨_, rfl, _, _, _, rfl, h1, _, rfl, _, _, rfl, rfl, ?_⟩
              rw [show decide (lo ≤ min a b) = true from q1, Bool.true_and] at e
              exact e
            · rw [show decide (lo ≤ min a b) = false from Bool.eq_false_iff.mpr q1, Bool.false_and] at e
              exact e
    · have e := k H1 s1
      unfold pairWithin at e
      rw [Bool.eq_false_iff.mpr q, Bool.false_and] at e
      exact e
theorem within_form (d : PyData) : pairWithin d 0 7 = formB d := by
  unfold pairWithin
  cases h : formB d with
  | true =>
    obtain ⟨a, b, rfl⟩ := pair_ints (form_pair h)
    rw [form_pair h, Bool.true_and]
    simp only [formB, sideB, Bool.and_eq_true, decide_eq_true_eq] at h
    rw [Bool.and_eq_true, decide_eq_true_eq, decide_eq_true_eq]
    omega
  | false =>
    cases hp : pairB d with
    | false => rfl
    | true =>
      obtain ⟨a, b, rfl⟩ := pair_ints hp
      rw [Bool.true_and]
      simp only [formB, sideB] at h
      rw [Bool.eq_false_iff] at h ⊢
      intro z
      refine h ?_
      rw [Bool.and_eq_true, decide_eq_true_eq, decide_eq_true_eq] at z
      simp only [Bool.and_eq_true, decide_eq_true_eq]
      omega
theorem c_is_form (T : Txt K mg) (C_is_pair_within : CalG P w K mg base 3 "is_pair_within" ["value", "least", "greatest"] spPairWithin) (D : DefAt K mg "is_form" s_is_form ["value"]) : CalG P w K mg base 4 "is_form" ["value"] (spJ formB) := by
  refine calOk D sc_is_form (fun xs H Q E h => ?_) (fun f cdv A out s H xs Q E hgd hr h => ?_)
  · obtain ⟨x, d, rfl, _⟩ := h
    rfl
  · obtain ⟨x, d, rfl, hx, k⟩ := h
    have nd := sc_is_form.nd
    refine ⟨_, (pss_one (ps_ret (pe_k C_is_pair_within hgd hr (by decide) rfl (pa_cons (pv 0) (pa_cons pe_int (pa_cons (pe_gv rfl T.gMAX_SIDE) pa_nil)))))), ?_⟩
    refine ⟨_, rfl, x, d, 0, 7, rfl, hx, fun H1 s1 => ?_⟩
    rw [within_form]
    exact k H1 s1
theorem c_are_forms (T : Txt K mg) (C_is_form : CalG P w K mg base 4 "is_form" ["value"] (spJ formB)) (D : DefAt K mg "are_forms" s_are_forms ["value"]) : CalG P w K mg base 5 "are_forms" ["value"] (spJ formsB) := by
  refine calOk D sc_are_forms (fun xs H Q E h => ?_) (fun f cdv A out s H xs Q E hgd hr h => ?_)
  · obtain ⟨x, d, rfl, _⟩ := h
    rfl
  · obtain ⟨x, d, rfl, hx, k⟩ := h
    have nd := sc_are_forms.nd
    refine ⟨_, (pss_one (ps_ret (pe_and (pe_callB call_isi (by rfl) T.isinstance (by decide +kernel) (pa_cons (pv 0) (pa_cons (pe_ty "tuple" rfl T.tuple (by decide +kernel)) pa_nil))) (pe_and (pe_cmpR op_le (pe_callB call_len_seq (by rfl) T.len (by decide +kernel) (pa_cons (pv 0) pa_nil)) (pe_gv rfl T.gMAX_LEVELS) (nomark _)) (pe_one (pe_callB (cr_all rfl) (by rfl) T.all (by decide +kernel) (pa_cons (pe_lc (own := [("form", 1)]) (g := gName 1) (by rfl) nd (pi_tup (pv 0)) (blkOk_by (own := [("form", 1)]) (N := N_are_forms) (sc := defScope s_are_forms) (by decide +kernel)) (fun _ _ _ _ _ => pg_name (i := 1) nd rfl (.inl rfl)) (fun _ _ _ _ _ => pts_nil) (fun _ _ _ _ _ => pe_k C_is_form hgd hr (by decide) rfl (pa_cons (pv 1) pa_nil))) pa_nil))))))), ?_⟩
    cases hx with
    | tup h1 h2 =>
      rename_i a xs ds
      have hl := h2.len
      refine ⟨_, rfl, _, _, _, _, true, rfl, .ty _, Dx.ty (.tup h1 h2), kit_ty (by show kitB "tuple" _ = _; decide +kernel), true, rfl, iteT ?_⟩
      refine ⟨_, rfl, _, _, rfl, .inr (SqT.of h1), _, _, rfl, rfl, _, rfl, ite2 (fun q => ?_) (fun q => ?_)⟩
      · have few : xs.length ≤ 200 := by
          have := of_decide_eq_true q
          omega
        refine ⟨_, rfl, a, rfl, ⟨_, SqT.of h1⟩, fun Dl nD => ?_⟩
        refine lc_tup (K := K) (a := a) (xs := xs) (fun i H' => Same H H' ∧ H' Dl = some (.lst (((ds.take i).map formB).map V.bl))) ?_ ?_ ?_ ?_
        · exact ⟨same_new nD, upd_same⟩
        · rintro i H' _ ⟨s1, _⟩
          exact SqT.of (s1 _ _ h1)
        · rintro i x H' hi ⟨s1, hD⟩
          obtain ⟨d, hd, hx⟩ := h2.get i x hi
          refine ⟨rfl, ?_⟩
          refine ⟨_, rfl, _, d, rfl, hx.grow s1, fun H2 s2 => ?_⟩
          refine ⟨_, s2 _ _ hD, ?_, Same.put (s1.trans s2) nD, ?_⟩
          · rw [List.length_map, List.length_map, List.length_take]
            exact small1000 (by omega)
          · rw [upd_same, List.take_add_one, hd, List.map_append, List.map_append]
            rfl
        · rintro H' ⟨s1, hD⟩
          refine ⟨Dl, _, rfl, SqL.of hD, ?_⟩
          have e := k H' s1
          have ef : formsB (.tuple ds) = ((ds.take xs.length).map formB).all id := by
            rw [hl, List.take_length]
            simp only [formsB]
            rw [decide_eq_true (by omega), Bool.true_and, List.all_map]
            rfl
          rw [ef] at e
          exact e
      · have e := k H (Same.refl _)
        have nf : formsB (.tuple ds) = false := by
          simp only [formsB]
          rw [decide_eq_false (fun z => q (decide_eq_true (by omega))), Bool.false_and]
        rw [nf] at e
        exact e
    | int i => exact ⟨_, rfl, _, _, _, _, false, rfl, .ty _, Dx.ty (.int i), kit_ty (by show kitB "int" _ = _; decide +kernel), false, rfl, iteF (k H (Same.refl _))⟩
    | bl b => exact ⟨_, rfl, _, _, _, _, false, rfl, .ty _, Dx.ty (.bl b), kit_ty (by show kitB "bool" _ = _; decide +kernel), false, rfl, iteF (k H (Same.refl _))⟩
    | non => exact ⟨_, rfl, _, _, _, _, false, rfl, .ty _, Dx.ty .non, kit_ty (by decide +kernel), false, rfl, iteF (k H (Same.refl _))⟩
    | str x => exact ⟨_, rfl, _, _, _, _, false, rfl, .ty _, Dx.ty (.str x), kit_ty (by show kitB "str" _ = _; decide +kernel), false, rfl, iteF (k H (Same.refl _))⟩
    | lst h1 h2 => exact ⟨_, rfl, _, _, _, _, false, rfl, .ty _, Dx.ty (.lst h1 h2), kit_ty (by show kitB "list" _ = _; decide +kernel), false, rfl, iteF (k H (Same.refl _))⟩
    | dct h1 h2 => exact ⟨_, rfl, _, _, _, _, false, rfl, .ty _, Dx.ty (.dct h1 h2), kit_ty (by show kitB "dict" _ = _; decide +kernel), false, rfl, iteF (k H (Same.refl _))⟩
theorem forms_all {ds : List PyData} (h : formsB (.tuple ds) = true) : ds.length ≤ 200 ∧ ∀ d ∈ ds, formB d = true := by
  have h' : ds.length ≤ 200 ∧ ds.all formB = true := by
    simp only [formsB, Bool.and_eq_true, decide_eq_true_eq] at h
    exact h
  exact ⟨h'.1, fun d hd => List.all_eq_true.mp h'.2 d hd⟩
theorem form_ints {d : PyData} (h : formB d = true) : ∃ a b, d = .tuple [.int a, .int b] := pair_ints (form_pair h)
theorem form_plain {d : PyData} (h : formB d = true) : d.canLay0 = true ∧ d.depth ≤ 1 ∧ d.hasDict = false := by
  obtain ⟨a, b, rfl⟩ := form_ints h
  exact ⟨by simp [PyData.canLay0, PyData.canLayAll0], by simp [PyData.depth, PyData.depthAll], by simp [PyData.hasDict, PyData.hasDictAll]⟩
theorem dictAll0 : ∀ (xs : List PyData), (∀ x ∈ xs, x.hasDict = false) → PyData.hasDictAll xs = false
  | [], _ => by simp [PyData.hasDictAll]
  | x :: r, h => by
    rw [PyData.hasDictAll, h x List.mem_cons_self, dictAll0 r fun y hy => h y (List.mem_cons_of_mem _ hy)]
    rfl
theorem forms_plain {ds : List PyData} (h : ∀ d ∈ ds, formB d = true) : SeqAt.shaped (.tuple ds) = true ∧ (PyData.tuple ds).hasDict = false := by
  have q1 : PyData.canLayAll0 ds = true := by
    have := canAll id ds fun d hd => (form_plain (h d hd)).1
    rwa [List.map_id] at this
  have q2 : PyData.depthAll ds ≤ 1 := by
    have := depthAll0 1 id ds fun d hd => (form_plain (h d hd)).2.1
    rwa [List.map_id] at this
  refine ⟨?_, ?_⟩
  · show (PyData.canLay0 (.tuple ds) && decide (PyData.depth (.tuple ds) ≤ 64)) = true
    rw [Bool.and_eq_true_iff]
    exact ⟨by simp only [PyData.canLay0]; exact q1, decide_eq_true (by simp only [PyData.depth]; omega)⟩
  · simp only [PyData.hasDict]
    exact dictAll0 ds fun d hd => (form_plain (h d hd)).2.2
theorem c_is_row (T : Txt K mg) (C_are_forms : CalG P w K mg base 5 "are_forms" ["value"] (spJ formsB)) (D : DefAt K mg "is_row" s_is_row ["value"]) : CalG P w K mg base 6 "is_row" ["value"] (spJ rowB) := by
  refine calOk D sc_is_row (fun xs H Q E h => ?_) (fun f cdv A out s H xs Q E hgd hr h => ?_)
  · obtain ⟨x, d, rfl, _⟩ := h
    rfl
  · obtain ⟨x, d, rfl, hx, k⟩ := h
    have nd := sc_is_row.nd
    refine ⟨_, (pss_one (ps_ret (pe_and (pe_k C_are_forms hgd hr (by decide) rfl (pa_cons (pv 0) pa_nil)) (pe_one (pe_or (pe_cmpR (op_eqD hr.units) (pv 0) (pe_tup pa_nil) (nomark _)) (pe_one (pe_cmpR (op_neD hr.units) (pe_ix ix_tup (pv 0) (pe_un un_neg pe_int) (fun _ _ => rfl)) (pe_tup (pa_cons pe_int (pa_cons pe_int pa_nil))) (nomark _)))))))), ?_⟩
    refine ⟨_, rfl, _, d, rfl, hx, fun H1 s1 => ⟨_, rfl, ite2 (fun q => ?_) (fun q => ?_)⟩⟩
    · obtain ⟨ds, rfl⟩ : ∃ ds, d = .tuple ds := by
        match d, q with
        | .tuple ds, _ => exact ⟨ds, rfl⟩
        | .none, q => simp [formsB] at q
        | .bool _, q => simp [formsB] at q
        | .int _, q => simp [formsB] at q
        | .str _, q => simp [formsB] at q
        | .list _, q => simp [formsB] at q
        | .dict _, q => simp [formsB] at q
      obtain ⟨few, allf⟩ := forms_all q
      obtain ⟨sh, nodict⟩ := forms_plain allf
      have e0 : rowB (.tuple ds) = (ds.isEmpty || !PyData.eqv (ds.getLastD .none) zeroD) := by
        simp only [rowB]
        rw [q, Bool.true_and]
      have hx1 := hx.grow s1
      refine ⟨_, rfl, (by show 0 ≤ sizeLine; decide), fun p np => ?_⟩
      refine ⟨.tuple ds, .tuple [], (hx1.grow (same_new np)).dp nodict, .tup (SqT.of upd_same) .nil, sh, (by decide +kernel), _, rfl, ite2 (fun q1 => ?_) (fun q1 => ?_)⟩
      · have e := k _ (s1.trans (same_new (o := .tup []) np))
        have em : ds = [] := by
          match ds, q1 with
          | [], _ => rfl
          | _ :: _, q1 => simp [PyData.eqv, PyData.eqvAll] at q1
        rw [e0, em] at e
        exact e
      · have ne : ds ≠ [] := fun z => by
          rw [z] at q1
          exact q1 (by decide +kernel)
        cases hx1 with
        | tup h1 h2 =>
          rename_i a ys
          have hl := h2.len
          obtain ⟨ys0, y, rfl⟩ : ∃ ys0 y, ys = ys0 ++ [y] := by
            rcases List.eq_nil_or_concat ys with z | ⟨i, y, z⟩
            · rw [z] at hl
              exact absurd (List.eq_nil_of_length_eq_zero hl.symm) ne
            · exact ⟨i, y, by rw [z, List.concat_eq_append]⟩
          obtain ⟨dy, hdy, hy⟩ := h2.get ys0.length y (by simp)
          have last : ds.getLastD .none = dy := by
            rw [List.getLastD_eq_getLast?, List.getLast?_eq_getElem?]
            have : ds.length - 1 = ys0.length := by
              rw [← hl, List.length_append]
              simp
            rw [this, hdy]
            rfl
          have fy : formB dy = true := allf dy (List.mem_of_getElem? hdy)
          obtain ⟨c1, c2, c3⟩ := form_plain fy
          refine ⟨_, rfl, _, rfl, _, _, _, _, rfl, rfl, SqT.of (same_new np _ _ h1), atI_last ys0 y, ?_⟩
          refine ⟨(by show 2 ≤ sizeLine; decide), fun p2 np2 => ?_⟩
          refine ⟨dy, zeroD, ((hy.grow (same_new np)).grow (same_new np2)).dp c3, .tup (SqT.of upd_same) (.cons (.int 0) (.cons (.int 0) .nil)), ?_, (by decide +kernel), ?_⟩
          · show (PyData.canLay0 dy && decide (PyData.depth dy ≤ 64)) = true
            rw [c1, decide_eq_true (by omega)]
            rfl
          · have e := k _ ((s1.trans (same_new (o := .tup []) np)).trans (same_new (o := .tup [.int 0, .int 0]) np2))
            have em : ds.isEmpty = false := by
              cases ds with
              | nil => exact absurd rfl ne
              | cons _ _ => rfl
            rw [e0, last, em, Bool.false_or] at e
            exact e
    · have e := k H1 s1
      have nf : rowB d = false := by
        match d, q with
        | .tuple ds, q =>
          simp only [rowB]
          rw [Bool.eq_false_iff.mpr q, Bool.false_and]
        | .none, _ => rfl
        | .bool _, _ => rfl
        | .int _, _ => rfl
        | .str _, _ => rfl
        | .list _, _ => rfl
        | .dict _, _ => rfl
      rw [nf] at e
      exact e
end

/-! ## the law's rows: lists of pairs of numbers -/
def formD (f : Int × Int) : PyData := .tuple [.int f.1, .int f.2]
def rowD (fs : List (Int × Int)) : PyData := .tuple (fs.map formD)
def cutF (fs : List (Int × Int)) : List (Int × Int) := (fs.reverse.dropWhile fun f => decide (f = (0, 0))).reverse
theorem cutF_nil : cutF [] = [] := rfl
theorem cutF_zero (fs : List (Int × Int)) : cutF (fs ++ [(0, 0)]) = cutF fs := by
  unfold cutF
  rw [List.reverse_append]
  simp
theorem cutF_last (fs : List (Int × Int)) {f : Int × Int} (h : f ≠ (0, 0)) : cutF (fs ++ [f]) = fs ++ [f] := by
  unfold cutF
  rw [List.reverse_append]
  simp [h]
theorem cutF_cut (fs : List (Int × Int)) : cutF (cutF fs) = cutF fs := by
  unfold cutF
  rw [List.reverse_reverse]
  congr 1
  generalize fs.reverse = l
  induction l with
  | nil => rfl
  | cons x r ih =>
    by_cases h : x = (0, 0)
    · simp [h, ih]
    · simp [h]
theorem cutF_sub (fs : List (Int × Int)) : (cutF fs).length ≤ fs.length ∧ ∀ f ∈ cutF fs, f ∈ fs := by
  unfold cutF
  have h1 := (List.dropWhile_suffix (l := fs.reverse) fun f => decide (f = (0, 0)))
  refine ⟨?_, fun f hf => ?_⟩
  · have := h1.length_le
    simpa using this
  · have := h1.subset (List.mem_reverse.mp hf)
    exact List.mem_reverse.mp this
theorem formD_eqv (f : Int × Int) : PyData.eqv (formD f) zeroD = decide (f = (0, 0)) := by
  obtain ⟨a, b⟩ := f
  simp only [formD, zeroD, PyData.eqv, PyData.eqvAll, Bool.and_true]
  rw [Bool.eq_iff_iff]
  simp
theorem forms_flat (fs : List (Int × Int)) : PyData.canLayAll0 (fs.map formD) = true ∧ PyData.depthAll (fs.map formD) ≤ 1 ∧ PyData.hasDictAll (fs.map formD) = false := by
  refine ⟨canAll _ _ fun f _ => by simp [formD, PyData.canLay0, PyData.canLayAll0], depthAll0 1 _ _ fun f _ => by simp [formD, PyData.depth, PyData.depthAll], ?_⟩
  refine dictAll0 _ fun d hd => ?_
  obtain ⟨f, _, rfl⟩ := List.mem_map.mp hd
  simp [formD, PyData.hasDict, PyData.hasDictAll]
theorem eqv_nil (ds : List PyData) : PyData.eqv (.list ds) (.list []) = ds.isEmpty := by
  cases ds with
  | nil => simp [PyData.eqv, PyData.eqvAll]
  | cons x r => simp [PyData.eqv, PyData.eqvAll]
theorem shapedL (fs : List (Int × Int)) : SeqAt.shaped (.list (fs.map formD)) = true := by
  obtain ⟨q1, q2, _⟩ := forms_flat fs
  show (PyData.canLay0 (.list _) && decide (PyData.depth (.list _) ≤ 64)) = true
  rw [Bool.and_eq_true_iff]
  exact ⟨by simp only [PyData.canLay0]; exact q1, decide_eq_true (by simp only [PyData.depth]; omega)⟩
theorem shapedT (fs : List (Int × Int)) : SeqAt.shaped (rowD fs) = true := by
  obtain ⟨q1, q2, _⟩ := forms_flat fs
  show (PyData.canLay0 (.tuple _) && decide (PyData.depth (.tuple _) ≤ 64)) = true
  rw [Bool.and_eq_true_iff]
  exact ⟨by simp only [PyData.canLay0]; exact q1, decide_eq_true (by simp only [PyData.depth]; omega)⟩
theorem shapedF (f : Int × Int) : SeqAt.shaped (formD f) = true := by
  show (PyData.canLay0 (.tuple _) && decide (PyData.depth (.tuple _) ≤ 64)) = true
  rw [Bool.and_eq_true_iff]
  exact ⟨by simp [PyData.canLay0, PyData.canLayAll0], decide_eq_true (by simp [PyData.depth, PyData.depthAll])⟩
theorem noDictF (f : Int × Int) : (formD f).hasDict = false := by simp [formD, PyData.hasDict, PyData.hasDictAll]
theorem noDictT (fs : List (Int × Int)) : (rowD fs).hasDict = false := by
  simp only [rowD, PyData.hasDict]
  exact (forms_flat fs).2.2
def Side (n : Int) (f : Int × Int) : Prop := 0 ≤ f.1 ∧ f.1 ≤ n ∧ 0 ≤ f.2 ∧ f.2 ≤ n
theorem formB_D {f : Int × Int} (h : Side 7 f) : formB (formD f) = true := by
  obtain ⟨h1, h2, h3, h4⟩ := h
  simp [formB, formD, sideB, h1, h2, h3, h4]
theorem rowB_D {fs : List (Int × Int)} (h : ∀ f ∈ fs, Side 7 f) (hl : fs.length ≤ 200) (hc : cutF fs = fs) : rowB (rowD fs) = true := by
  have q1 : formsB (rowD fs) = true := by
    simp only [rowD, formsB]
    rw [List.length_map, decide_eq_true hl, Bool.true_and, List.all_eq_true]
    intro d hd
    obtain ⟨f, hf, rfl⟩ := List.mem_map.mp hd
    exact formB_D (h f hf)
  simp only [rowD, rowB] at q1 ⊢
  rw [q1, Bool.true_and]
  rcases List.eq_nil_or_concat fs with z | ⟨gs, g, z⟩
  · rw [z]
    rfl
  · rw [List.concat_eq_append] at z
    subst z
    have ng : g ≠ (0, 0) := fun e => by
      rw [e, cutF_zero] at hc
      have := (cutF_sub gs).1
      rw [hc, List.length_append, List.length_singleton] at this
      omega
    have el : ((gs ++ [g]).map formD).getLastD .none = formD g := by simp
    rw [el, formD_eqv, decide_eq_false ng]
    simp
def spCut : Sp := fun vs H Q _ => ∃ (d a : Addr) (fs : List (Int × Int)) (xs : List V), vs = [.ref a] ∧ DiceAt H d ∧ a ≠ d ∧ H a = some (.lst xs) ∧ DxAll (hide d H) xs (fs.map formD) ∧ fs.length ≤ 1000 ∧
  ∀ (p : Addr) (H' : Hp), Mv d H H' → Dx (hide d H') (.ref p) (rowD (cutF fs)) → Q (.ref p) H'
def spSomeForm : Sp := fun vs H Q _ => ∃ (d : Addr) (h : Int), vs = [.ref d, .int h] ∧ DiceAt H d ∧ 0 ≤ h ∧ h ≤ 100 ∧
  ∀ (p : Addr) (f : Int × Int) (H' : Hp), Side h f → Mv d H H' → Dx (hide d H') (.ref p) (formD f) → Q (.ref p) H'
def spSomeRow : Sp := fun vs H Q _ => ∃ (d : Addr) (n h : Int), vs = [.ref d, .int n, .int h] ∧ DiceAt H d ∧ 0 ≤ n ∧ n ≤ 300 ∧ 0 ≤ h ∧ h ≤ 100 ∧
  ∀ (p : Addr) (fs : List (Int × Int)) (H' : Hp), (∀ f ∈ fs, Side h f) → (fs.length : Int) ≤ n → cutF fs = fs → Mv d H H' → Dx (hide d H') (.ref p) (rowD fs) → Q (.ref p) H'
theorem log_small {t : Int} (h0 : 0 < t) (h : t ≤ 4000) : t.natAbs.log2 < 9000 := Nat.lt_of_le_of_lt (Nat.log2_le_self _) (by omega)
theorem hide_up {d p : Addr} {H : Hp} {o : HO} (n : p ≠ d) (h : H p = some o) : hide d H p = some o := by rw [hide_ne n]; exact h
section
variable {P : Program} {w : World} {K : PySem.W.Frag} {mg : Str → Option Value} {base : Heap}
theorem c_cut (T : Txt K mg) (D : DefAt K mg "_law_cut" s__law_cut ["_law_forms"]) : CalG P w K mg base 1 "_law_cut" ["_law_forms"] spCut := by
  refine calOk D sc__law_cut (fun xs H Q E h => ?_) (fun f cdv A out s H xs Q E hgd hr h => ?_)
  · obtain ⟨d, a, fs, xs, rfl, _⟩ := h
    rfl
  · obtain ⟨d, a, fs, xs, rfl, hd, na, ha, hx, hl, k⟩ := h
    have nd := sc__law_cut.nd
    refine ⟨_, (pss_cons (ps_set (i := 1) nd rfl (.inl rfl) (pe_callTy call_list_of (by rfl) T.list (by decide +kernel) (pa_cons (pv 0) pa_nil)))
      (pss_cons (ps_while PassesOwn.never (PW.pt (pw_and (pt_cmpR (op_neD hr.units) (pv 1) (pe_lst pa_nil) (nomark _)) (pw_and1 (pt_cmpR (op_eqD hr.units) (pe_ix ix_list (pv 1) (pe_un un_neg pe_int) (fun _ _ => rfl)) (pe_tup (pa_cons pe_int (pa_cons pe_int pa_nil))) (nomark _))))) (pss_one (ps_expr (pe_bm0 PySem.F.plainAttrs_list PySem.F.slot_list_pop PySem.F.type_list_pop mt_pop (pv 1)))))
      (pss_one (ps_ret (pe_callTy call_tuple_of (by rfl) T.tuple (by decide +kernel) (pa_cons (pv 1) pa_nil)))))), ?_⟩
    refine ⟨_, rfl, _, _, rfl, .inl (SqL.of ha), fun l nl => ?_⟩
    have nel := hd.ne nl
    refine ⟨fun m σ H' => ∃ gs zs, m = gs.length ∧ gs.length ≤ 1000 ∧ σ = [some (.ref a), some (.ref l)] ∧ H' l = some (.lst zs) ∧ Mv d H H' ∧ DxAll (hide d H) zs (gs.map formD) ∧ cutF gs = cutF fs, ?_, ?_⟩
    · have m1 : Mv d H (upd H l (.lst xs)) := (Mv.refl hd).new nl
      exact ⟨_, fs, xs, rfl, hl, rfl, upd_same, m1, hx, rfl⟩
    · rintro m σ H1 ⟨gs, zs, rfl, gl, rfl, hL, m1, hz, hc⟩
      refine ⟨_, rfl, (by show 0 ≤ sizeLine; decide), fun p np => ?_⟩
      have s1 : Same H1 (upd H1 p (.lst [])) := same_new np
      have m2 := m1.new (o := .lst []) np
      have hz2 := DxAll.grow m2.same hz
      refine ⟨.list (gs.map formD), .list [], .lst (SqL.of (s1 _ _ hL)) (DxAll.dp (DxAll.grow hide_le hz2) (forms_flat gs).2.2), .lst (SqL.of upd_same) .nil, shapedL gs, (by decide +kernel), ?_⟩
      rcases List.eq_nil_or_concat gs with z | ⟨gs0, g, z⟩
      · subst z
        refine ⟨false, rfl, ?_⟩
        -- return tuple(found)
        cases hz2
        refine ⟨_, rfl, l, _, rfl, .inl ⟨SqL.of (s1 _ _ hL), fun q nq => ?_⟩⟩
        refine k q _ (m2.new nq) ?_
        rw [← hc, cutF_nil]
        exact .tup (hide_up (m2.dice.ne nq) upd_same) .nil
      · rw [List.concat_eq_append] at z
        subst z
        refine ⟨true, congrArg V.bl (by rw [eqv_nil]; simp), ?_⟩
        obtain ⟨zs0, y, rfl⟩ : ∃ zs0 y, zs = zs0 ++ [y] := by
          rcases List.eq_nil_or_concat zs with z | ⟨i, y, z⟩
          · have := hz2.len
            rw [z] at this
            simp at this
          · exact ⟨i, y, by rw [z, List.concat_eq_append]⟩
        have hlen : zs0.length = gs0.length := by
          have := hz2.len
          simpa using this
        have hz0 : DxAll (hide d H) zs0 (gs0.map formD) := by
          have := DxAll.take zs0.length hz
          rw [List.take_left, List.map_append, hlen, ← List.length_map (f := formD), List.take_left] at this
          exact this
        obtain ⟨dy, e1, hy⟩ := hz2.get zs0.length y (by simp)
        have edy : dy = formD g := by
          rw [List.map_append, hlen, ← List.length_map (f := formD)] at e1
          simp at e1
          exact e1.symm
        subst edy
        have hL1 := s1 _ _ hL
        refine ⟨_, rfl, _, rfl, _, _, _, _, rfl, rfl, SqL.of hL1, atI_last zs0 y, (by show 2 ≤ sizeLine; decide), fun p2 np2 => ?_⟩
        have s2 := same_new (o := .tup [.int 0, .int 0]) np2
        have m3 := m2.new (o := .tup [.int 0, .int 0]) np2
        have g3 : Same (hide d (upd H1 p (.lst []))) (hide d (upd (upd H1 p (.lst [])) p2 (.tup [.int 0, .int 0]))) := ((Mv.refl m2.dice).new np2).same
        refine ⟨formD g, zeroD, ((Dx.grow hide_le hy).grow s2).dp (noDictF g), .tup (SqT.of upd_same) (.cons (.int 0) (.cons (.int 0) .nil)), shapedF g, (by decide +kernel), ?_⟩
        by_cases eg : g = (0, 0)
        · refine ⟨true, congrArg V.bl (by rw [formD_eqv, decide_eq_true eg]), ?_⟩
          refine ⟨_, fun _ _ n => n, ?_⟩
          refine ⟨_, rfl, .inl ⟨rfl, _, SqL.of (s2 _ _ hL1)⟩, l, _, y, rfl, rfl, s2 _ _ hL1, (by simp), ?_⟩
          have m4 := m3.set (o := .lst (zs0 ++ [y]).dropLast) nl nel
          refine ⟨gs0.length, (by simp), gs0, zs0, rfl, (by simp at gl; omega), rfl, ?_, m4, hz0, ?_⟩
          · rw [upd_same, List.dropLast_concat]
          · rw [← hc, eg, cutF_zero]
        · refine ⟨false, congrArg V.bl (by rw [formD_eqv, decide_eq_false eg]), ?_⟩
          refine ⟨_, rfl, l, _, rfl, .inl ⟨SqL.of (s2 _ _ hL1), fun q nq => ?_⟩⟩
          refine k q _ (m3.new nq) ?_
          rw [← hc, cutF_last _ eg]
          have g5 : Same (hide d (upd (upd H1 p (.lst [])) p2 (.tup [.int 0, .int 0]))) (hide d (upd (upd (upd H1 p (.lst [])) p2 (.tup [.int 0, .int 0])) q (.tup (zs0 ++ [y])))) := ((Mv.refl m3.dice).new nq).same
          exact .tup (hide_up (m3.dice.ne nq) upd_same) (DxAll.grow g5 (DxAll.grow g3 hz2))
end
/-- at the values xs stand the pairs fs -/
inductive FormsAt (H : Hp) : List V → List (Int × Int) → Prop
  | nil : FormsAt H [] []
  | cons {p : Addr} {f : Int × Int} {xs : List V} {fs : List (Int × Int)} : H p = some (.tup [.int f.1, .int f.2]) → FormsAt H xs fs → FormsAt H (.ref p :: xs) (f :: fs)
theorem FormsAt.keep {H H' : Hp} (s : ∀ p xs, H p = some (.tup xs) → H' p = some (.tup xs)) : ∀ {xs : List V} {fs : List (Int × Int)}, FormsAt H xs fs → FormsAt H' xs fs
  | _, _, .nil => .nil
  | _, _, .cons h r => .cons (s _ _ h) (FormsAt.keep s r)
theorem FormsAt.append {H : Hp} : ∀ {xs ys : List V} {fs gs : List (Int × Int)}, FormsAt H xs fs → FormsAt H ys gs → FormsAt H (xs ++ ys) (fs ++ gs)
  | _, _, _, _, .nil, h => h
  | _, _, _, _, .cons a b, h => .cons a (FormsAt.append b h)
theorem FormsAt.len {H : Hp} : ∀ {xs : List V} {fs : List (Int × Int)}, FormsAt H xs fs → xs.length = fs.length
  | _, _, .nil => rfl
  | _, _, .cons _ b => by rw [List.length_cons, List.length_cons, FormsAt.len b]
theorem FormsAt.get {H : Hp} : ∀ {xs : List V} {fs : List (Int × Int)}, FormsAt H xs fs → ∀ (i : Nat) (x : V), xs[i]? = some x → ∃ p f, x = .ref p ∧ fs[i]? = some f ∧ H p = some (.tup [.int f.1, .int f.2])
  | _, _, .nil, _, _, e => by cases e
  | _, _, .cons a b, 0, x, e => by
    cases e
    exact ⟨_, _, rfl, rfl, a⟩
  | _, _, .cons a b, i + 1, x, e => FormsAt.get b i x e
theorem FormsAt.dx {H : Hp} {d : Addr} (hd : DiceAt H d) : ∀ {xs : List V} {fs : List (Int × Int)}, FormsAt H xs fs → DxAll (hide d H) xs (fs.map formD)
  | _, _, .nil => .nil
  | _, _, .cons a b => .cons (.tup (hide_up (fun e => by
      obtain ⟨l, s, c, q⟩ := hd
      rw [e, q] at a
      cases a) a) (.cons (.int _) (.cons (.int _) .nil))) (FormsAt.dx hd b)
theorem FormsAt.of {H : Hp} : ∀ {xs : List V} (fs : List (Int × Int)), DxAll H xs (fs.map formD) → FormsAt H xs fs
  | xs, [], h => by
    cases h
    exact .nil
  | xs, f :: fs, h => by
    cases h with
    | cons a b =>
      cases a with
      | tup h1 h2 =>
        cases h2 with
        | cons y1 r =>
          cases r with
          | cons y2 r =>
            cases r
            cases y1
            cases y2
            exact .cons h1 (FormsAt.of fs b)
theorem Dx.form {H : Hp} {p : Addr} {f : Int × Int} (h : Dx H (.ref p) (formD f)) : H p = some (.tup [.int f.1, .int f.2]) := by
  cases h with
  | tup h1 h2 =>
    cases h2 with
    | cons y1 r =>
      cases r with
      | cons y2 r =>
        cases r
        cases y1
        cases y2
        exact h1
theorem Mv.tups {d : Addr} {H H' : Hp} (hd : DiceAt H d) (m : Mv d H H') (p : Addr) (xs : List V) (h : H p = some (.tup xs)) : H' p = some (.tup xs) := by
  refine m.get (fun e => ?_) h
  obtain ⟨l, s, c, q⟩ := hd
  rw [e, q] at h
  cases h
theorem tups_put {H : Hp} {l : Addr} {zs : List V} {o : HO} (hl : H l = some (.lst zs)) (p : Addr) (xs : List V) (h : H p = some (.tup xs)) : upd H l o p = some (.tup xs) := by
  rw [upd_ne (fun e => by rw [e, hl] at h; cases h)]
  exact h
theorem hide_le' {d p : Addr} {H : Hp} {o : HO} (h : hide d H p = some o) : H p = some o := hide_le _ _ h
section
variable {P : Program} {w : World} {K : PySem.W.Frag} {mg : Str → Option Value} {base : Heap}
theorem c_some_form (T : Txt K mg) (C__law_roll : CalG P w K mg base 1 "_law_roll" ["_law_dice_here", "_law_total"] spRoll) (D : DefAt K mg "_law_some_form" s__law_some_form ["_law_dice_here", "_law_high"]) :
    CalG P w K mg base 2 "_law_some_form" ["_law_dice_here", "_law_high"] spSomeForm := by
  refine calOk D sc__law_some_form (fun xs H Q E h => ?_) (fun f cdv A out s H xs Q E hgd hr h => ?_)
  · obtain ⟨d, h, rfl, _⟩ := h
    rfl
  · obtain ⟨d, n, rfl, hd, h0, h1, k⟩ := h
    have nd := sc__law_some_form.nd
    refine ⟨_, (pss_one (ps_ret (pe_tup (pa_cons (pe_k C__law_roll hgd hr (by decide) rfl (pa_cons (pv 0) (pa_cons (pe_op op_add (pv 1) pe_int) pa_nil))) (pa_cons (pe_k C__law_roll hgd hr (by decide) rfl (pa_cons (pv 0) (pa_cons (pe_op op_add (pv 1) pe_int) pa_nil))) pa_nil))))), ?_⟩
    have l1 : (n + 1).natAbs.log2 < 9000 := log_small (by omega) (by omega)
    refine ⟨_, rfl, _, rfl, _, _, rfl, rfl, d, _, rfl, hd, (by omega), l1, fun r1 H1 a1 b1 m1 f1 => ?_⟩
    refine ⟨_, rfl, _, rfl, _, _, rfl, rfl, d, _, rfl, m1.dice, (by omega), l1, fun r2 H2 a2 b2 m2 f2 => ?_⟩
    refine ⟨(by show 2 ≤ sizeLine; decide), fun p np => ?_⟩
    exact k p (r1, r2) _ ⟨a1, by omega, a2, by omega⟩ ((m1.trans m2).new np) (.tup (hide_up (m2.dice.ne np) upd_same) (.cons (.int _) (.cons (.int _) .nil)))
theorem c_some_row (T : Txt K mg) (C__law_roll : CalG P w K mg base 1 "_law_roll" ["_law_dice_here", "_law_total"] spRoll) (C__law_some_form : CalG P w K mg base 2 "_law_some_form" ["_law_dice_here", "_law_high"] spSomeForm)
    (C__law_cut : CalG P w K mg base 1 "_law_cut" ["_law_forms"] spCut) (D : DefAt K mg "_law_some_row" s__law_some_row ["_law_dice_here", "_law_levels", "_law_high"]) :
    CalG P w K mg base 3 "_law_some_row" ["_law_dice_here", "_law_levels", "_law_high"] spSomeRow := by
  refine calOk D sc__law_some_row (fun xs H Q E h => ?_) (fun f cdv A out s H xs Q E hgd hr h => ?_)
  · obtain ⟨d, n, h, rfl, _⟩ := h
    rfl
  · obtain ⟨d, n, h, rfl, hd, n0, n1, h0, h1, k⟩ := h
    have nd := sc__law_some_row.nd
    refine ⟨_, (pss_cons (ps_setLc (i := 3) (own := [("_law_turn", 4)]) (g := gName 4) (by rfl) nd rfl rfl (sw_true rfl rfl rfl (by decide +kernel)) (pi_range1 rfl T.range (pa_cons (pe_k C__law_roll hgd hr (by decide) rfl (pa_cons (pv 0) (pa_cons (pe_op op_add (pv 1) pe_int) pa_nil))) pa_nil)) (blkOk_by (own := [("_law_turn", 4)]) (N := N__law_some_row) (sc := defScope s__law_some_row) (by decide +kernel)) (fun _ _ _ _ _ => pg_name (i := 4) nd rfl (.inl rfl)) (fun _ _ _ _ _ => pts_nil) (fun _ _ _ _ _ => pe_k C__law_some_form hgd hr (by decide) rfl (pa_cons (pv 0) (pa_cons (pv 2) pa_nil))))
      (pss_cons (ps_setLc (i := 3) (own := [("_law_form", 5)]) (g := gName 5) (by rfl) nd rfl rfl (sw_true rfl rfl rfl (by decide +kernel)) (pi_list (pv 3)) (blkOk_by (own := [("_law_form", 5)]) (N := N__law_some_row) (sc := defScope s__law_some_row) (by decide +kernel)) (fun _ _ _ _ _ => pg_name (i := 5) nd rfl (.inl rfl)) (fun _ _ _ _ _ => pts_nil) (fun _ _ _ _ _ => pe_ifExp (pt_cmpR op_gt (pe_k C__law_roll hgd hr (by decide) rfl (pa_cons (pv 0) (pa_cons pe_int pa_nil))) pe_int (nomark _)) (pv 5) (pe_tup (pa_cons pe_int (pa_cons pe_int pa_nil)))))
      (pss_one (ps_ret (pe_k C__law_cut hgd hr (by decide) rfl (pa_cons (pv 3) pa_nil)))))), ?_⟩
    have l1 : (n + 1).natAbs.log2 < 9000 := log_small (by omega) (by omega)
    refine a_set (fun v H' => ∃ l xs fs, v = .ref l ∧ l ≠ d ∧ Mv d H H' ∧ H' l = some (.lst xs) ∧ FormsAt H' xs fs ∧ (fs.length : Int) ≤ n ∧ ∀ f ∈ fs, Side h f) (fun Q' kQ => ?_) ?_
    · refine ⟨_, rfl, _, rfl, _, _, rfl, rfl, d, _, rfl, hd, (by omega), l1, fun r1 H1 a1 b1 m1 f1 => ?_⟩
      refine ⟨_, rfl, (by omega), (by omega), fun Dl nD => ?_⟩
      have neD := m1.dice.ne nD
      refine lc_range (fun i H' => ∃ xs fs, Mv d H H' ∧ H' Dl = some (.lst xs) ∧ FormsAt H' xs fs ∧ fs.length = i ∧ ∀ f ∈ fs, Side h f) ?_ ?_ ?_
      · exact ⟨[], [], m1.new nD, upd_same, .nil, rfl, fun _ z => nomatch z⟩
      · rintro i H2 hi ⟨xs, fs, m2, hD, hF, hl, hs⟩
        refine ⟨rfl, ?_⟩
        refine ⟨_, rfl, _, rfl, d, h, rfl, m2.dice, h0, h1, fun p f H3 sf m3 hp => ?_⟩
        have hD3 := m3.get neD hD
        have hF3 := hF.keep (m3.tups m2.dice)
        refine ⟨xs, hD3, ?_, xs ++ [.ref p], fs ++ [f], (m2.trans m3).set (m1.free nD) neD, upd_same, ?_, ?_, ?_⟩
        · rw [hF3.len]
          exact small1000 (by omega)
        · exact (hF3.append (.cons (hide_le' hp.form) .nil)).keep (tups_put hD3)
        · rw [List.length_append, hl]
          rfl
        · intro g hg
          rcases List.mem_append.mp hg with q | q
          · exact hs g q
          · rw [List.mem_singleton.mp q]
            exact sf
      · rintro H2 ⟨xs, fs, m2, hD, hF, hl, hs⟩
        exact kQ _ _ ⟨Dl, xs, fs, rfl, neD, m2, hD, hF, by omega, hs⟩
    rintro _ H1 ⟨l, xs, fs, rfl, nel, m1, hL, hF, hn, hs⟩
    refine a_set (fun v H' => ∃ l xs fs, v = .ref l ∧ l ≠ d ∧ Mv d H H' ∧ H' l = some (.lst xs) ∧ FormsAt H' xs fs ∧ (fs.length : Int) ≤ n ∧ ∀ f ∈ fs, Side h f) (fun Q' kQ => ?_) ?_
    · refine ⟨_, rfl, l, rfl, ⟨_, SqL.of hL⟩, fun Dl nD => ?_⟩
      have neD := m1.dice.ne nD
      have neL : l ≠ Dl := ne_of_none hL nD
      have l5 : Nat.log2 5 < 9000 := by decide +kernel
      refine lc_list (K := K) (a := l) (xs := xs) (fun i H' => ∃ ys gs, Mv d H H' ∧ H' l = some (.lst xs) ∧ FormsAt H' xs fs ∧ H' Dl = some (.lst ys) ∧ FormsAt H' ys gs ∧ gs.length = i ∧ ∀ f ∈ gs, Side h f) ?_ ?_ ?_ ?_
      · refine ⟨[], [], m1.new nD, by rw [upd_ne neL]; exact hL, hF.keep fun p zs q => same_new nD _ _ q, upd_same, .nil, rfl, fun _ z => nomatch z⟩
      · rintro i H' _ ⟨ys, gs, _, hL', _⟩
        exact SqL.of hL'
      · rintro i x H2 hi ⟨ys, gs, m2, hL2, hF2, hD, hG, hl, hs2⟩
        obtain ⟨p, g, rfl, hg, hp⟩ := hF2.get i x hi
        have sg : Side h g := hs g (List.mem_of_getElem? hg)
        have lys : ys.length < sizeLine := by
          rw [hG.len, hl]
          have : i < xs.length := (List.getElem?_eq_some_iff.mp hi).1
          rw [hF.len] at this
          exact small1000 (by omega)
        refine ⟨rfl, ?_⟩
        refine ⟨_, rfl, d, 5, rfl, m2.dice, (by decide), l5, fun r3 H3 a3 b3 m3 f3 => ?_⟩
        have hD3 := m3.get neD hD
        have hL3 := m3.get nel hL2
        have hF3 := hF2.keep (m3.tups m2.dice)
        have hG3 := hG.keep (m3.tups m2.dice)
        refine ⟨_, _, rfl, rfl, _, rfl, ite2 (fun q => ?_) (fun q => ?_)⟩
        · have hp3 := m3.tups m2.dice _ _ hp
          refine ⟨_, rfl, ys, hD3, lys, ys ++ [.ref p], gs ++ [g], (m2.trans m3).set (m1.free nD) neD, by rw [upd_ne neL]; exact hL3, hF3.keep (tups_put hD3), upd_same, ?_, ?_, ?_⟩
          · exact (hG3.append (.cons hp3 .nil)).keep (tups_put hD3)
          · rw [List.length_append, hl]
            rfl
          · intro g' hg'
            rcases List.mem_append.mp hg' with z | z
            · exact hs2 g' z
            · rw [List.mem_singleton.mp z]
              exact sg
        · refine ⟨(by show 2 ≤ sizeLine; decide), fun p2 np2 => ?_⟩
          have s4 := same_new (o := .tup [.int 0, .int 0]) np2
          have hD4 := s4 _ _ hD3
          refine ⟨ys, hD4, lys, ys ++ [.ref p2], gs ++ [(0, 0)], ((m2.trans m3).new np2).set (m1.free nD) neD, by rw [upd_ne neL]; exact s4 _ _ hL3, (hF3.keep fun p zs q => s4 _ _ q).keep (tups_put hD4), upd_same, ?_, ?_, ?_⟩
          · exact ((hG3.keep fun p zs q => s4 _ _ q).append (.cons (f := (0, 0)) upd_same .nil)).keep (tups_put hD4)
          · rw [List.length_append, hl]
            rfl
          · intro g' hg'
            rcases List.mem_append.mp hg' with z | z
            · exact hs2 g' z
            · rw [List.mem_singleton.mp z]
              exact ⟨Int.le_refl _, h0, Int.le_refl _, h0⟩
      · rintro H2 ⟨ys, gs, m2, hL2, hF2, hD, hG, hl, hs2⟩
        exact kQ _ _ ⟨Dl, ys, gs, rfl, neD, m2, hD, hG, by rw [hl, hF.len]; exact hn, hs2⟩
    rintro _ H2 ⟨l2, ys, gs, rfl, ne2, m2, hL2, hG, hn2, hs2⟩
    refine ⟨_, rfl, d, l2, gs, ys, rfl, m2.dice, ne2, hL2, hG.dx m2.dice, (by omega), fun p H3 m3 hp => ?_⟩
    have sub := cutF_sub gs
    exact k p (cutF gs) H3 (fun f hf => hs2 f (sub.2 f hf)) (by have := sub.1; omega) (cutF_cut gs) (m2.trans m3) hp
end

/-! ## the law's own parts -/
def spTrue : Sp := fun vs H Q _ => ∃ d : Addr, vs = [.ref d] ∧ DiceAt H d ∧ ∀ H', Mv d H H' → Q (.bl true) H'
theorem abs_small (i : Int) : decide ((if i < 0 then -i else i) < 10 ^ Int.toNat 60) = smallB i := by
  have e : (10 : Int) ^ Int.toNat 60 = BIG := by decide +kernel
  rw [e]
  unfold smallB
  by_cases q : i < 0
  · rw [if_pos q]
    by_cases q1 : -BIG < i
    · rw [decide_eq_true q1, decide_eq_true (show -i < BIG by omega), decide_eq_true (show i < BIG by unfold BIG; omega)]
      rfl
    · rw [decide_eq_false q1, decide_eq_false (show ¬ -i < BIG by omega), Bool.false_and]
  · rw [if_neg q, decide_eq_true (show -BIG < i by unfold BIG; omega), Bool.true_and]
theorem boolsX {H : Hp} {p : Addr} (bs : List Bool) (h : H p = some (.lst (bs.map V.bl))) (K : PySem.W.Frag) : Dp K H (.ref p) (.list (bs.map .bool)) := by
  refine .lst (SqL.of h) ?_
  clear h
  induction bs with
  | nil => exact .nil
  | cons b r ih => exact .cons (.bl b) ih
theorem shwB (bs : List Bool) (h : bs.length ≤ 20) : Shw (.list (bs.map .bool)) := by
  have n1 : ∀ bs : List Bool, niceAll (bs.map .bool) = true ∧ PyData.depthAll (bs.map .bool) = 0 ∧ PyData.bulkAll (bs.map .bool) = bs.length := by
    intro bs
    induction bs with
    | nil => simp [niceAll, PyData.depthAll, PyData.bulkAll]
    | cons b r ih => simp [niceAll, nice, PyData.depthAll, PyData.depth, PyData.bulkAll, PyData.bulk, ih.1, ih.2.1, ih.2.2]; omega
  obtain ⟨a1, a2, a3⟩ := n1 bs
  refine shw (by simp only [nice]; exact a1) (by simp only [PyData.depth]; omega) (by simp only [PyData.bulk]; omega)
theorem shwB1 (b : Bool) : Shw (.bool b) := shw (by simp [nice]) (by simp [PyData.depth]) (by simp [PyData.bulk])
theorem shaped_bools (bs : List Bool) : SeqAt.shaped (.list (bs.map .bool)) = true := by
  show (PyData.canLay0 (.list _) && decide (PyData.depth (.list _) ≤ 64)) = true
  rw [Bool.and_eq_true_iff]
  refine ⟨by simp only [PyData.canLay0]; exact canAll _ _ fun b _ => by simp [PyData.canLay0], decide_eq_true ?_⟩
  have := depthAll0 0 PyData.bool bs fun b _ => by simp [PyData.depth]
  simp only [PyData.depth]
  omega
theorem eqv_bools (bs : List Bool) : PyData.eqv (.list (bs.map .bool)) (.list (bs.map .bool)) = true := by
  simp only [PyData.eqv]
  induction bs with
  | nil => simp [PyData.eqvAll]
  | cons b r ih => simp [PyData.eqvAll, PyData.eqv, ih]
section
variable {P : Program} {w : World} {K : PySem.W.Frag} {mg : Str → Option Value} {base : Heap}
theorem c_is_number (T : Txt K mg) (D : DefAt K mg "_law_is_number" s__law_is_number ["_law_value"]) : CalG P w K mg base 1 "_law_is_number" ["_law_value"] (spJ intB) := by
  refine calOk D sc__law_is_number (fun xs H Q E h => ?_) (fun f cdv A out s H xs Q E hgd hr h => ?_)
  · obtain ⟨x, d, rfl, _⟩ := h
    rfl
  · obtain ⟨x, d, rfl, hx, k⟩ := h
    have nd := sc__law_is_number.nd
    refine ⟨_, (pss_one (ps_ret (pe_and (pe_callB call_isi (by rfl) T.isinstance (by decide +kernel) (pa_cons (pv 0) (pa_cons (pe_ty "int" rfl T.int (by decide +kernel)) pa_nil))) (pe_and (pe_not (pe_callB call_isi (by rfl) T.isinstance (by decide +kernel) (pa_cons (pv 0) (pa_cons (pe_ty "bool" rfl T.bool (by decide +kernel)) pa_nil)))) (pe_one (pe_cmpR op_lt (pe_callB call_abs (by rfl) T.abs (by decide +kernel) (pa_cons (pv 0) pa_nil)) (pe_op op_pow pe_int pe_int) (nomark _))))))), ?_⟩
    refine a_ret (fun v H' => v = .bl (intB d) ∧ H' = H) (fun Q' kQ => ?_) (fun v H' e => by rw [e.1, e.2]; exact k H (Same.refl _))
    cases hx with
    | int i =>
      refine ⟨_, rfl, _, _, _, _, true, rfl, .ty _, .base (.int i), kit_ty (by decide +kernel), true, rfl, iteT ?_⟩
      refine ⟨_, rfl, _, _, _, _, false, rfl, .ty _, .base (.int i), kit_ty (by decide +kernel), false, rfl, true, rfl, iteT ?_⟩
      refine ⟨_, rfl, _, rfl, _, _, rfl, rfl, ⟨by decide, by decide, by decide⟩, _, _, rfl, rfl, ?_⟩
      exact kQ _ _ ⟨congrArg V.bl (abs_small i), rfl⟩
    | bl b =>
      refine ⟨_, rfl, _, _, _, _, true, rfl, .ty _, .base (.bl b), kit_ty (by decide +kernel), true, rfl, iteT ?_⟩
      exact ⟨_, rfl, _, _, _, _, true, rfl, .ty _, .base (.bl b), kit_ty (by decide +kernel), true, rfl, false, rfl, iteF (kQ _ _ ⟨rfl, rfl⟩)⟩
    | non => exact ⟨_, rfl, _, _, _, _, false, rfl, .ty _, Dx.ty .non, kit_ty (by decide +kernel), false, rfl, iteF (kQ _ _ ⟨rfl, rfl⟩)⟩
    | str x => exact ⟨_, rfl, _, _, _, _, false, rfl, .ty _, Dx.ty (.str x), kit_ty (by show kitB "str" _ = _; decide +kernel), false, rfl, iteF (kQ _ _ ⟨rfl, rfl⟩)⟩
    | lst h1 h2 => exact ⟨_, rfl, _, _, _, _, false, rfl, .ty _, Dx.ty (.lst h1 h2), kit_ty (by show kitB "list" _ = _; decide +kernel), false, rfl, iteF (kQ _ _ ⟨rfl, rfl⟩)⟩
    | tup h1 h2 => exact ⟨_, rfl, _, _, _, _, false, rfl, .ty _, Dx.ty (.tup h1 h2), kit_ty (by show kitB "tuple" _ = _; decide +kernel), false, rfl, iteF (kQ _ _ ⟨rfl, rfl⟩)⟩
    | dct h1 h2 => exact ⟨_, rfl, _, _, _, _, false, rfl, .ty _, Dx.ty (.dct h1 h2), kit_ty (by show kitB "dict" _ = _; decide +kernel), false, rfl, iteF (kQ _ _ ⟨rfl, rfl⟩)⟩
theorem c_pairs (T : Txt K mg) (C__law_roll : CalG P w K mg base 1 "_law_roll" ["_law_dice_here", "_law_total"] spRoll) (C__law_pick : CalG P w K mg base 2 "_law_pick" ["_law_dice_here", "_law_items"] (spPick K))
    (C__law_is_number : CalG P w K mg base 1 "_law_is_number" ["_law_value"] (spJ intB)) (C_is_pair : CalG P w K mg base 2 "is_pair" ["value"] (spJ pairB)) (C_is_form : CalG P w K mg base 4 "is_form" ["value"] (spJ formB))
    (D : DefAt K mg "_law_pairs_right" s__law_pairs_right ["_law_dice_here"]) : CalG P w K mg base 5 "_law_pairs_right" ["_law_dice_here"] spTrue := by
  refine calOk D sc__law_pairs_right (fun xs H Q E h => ?_) (fun f cdv A out s H xs Q E hgd hr h => ?_)
  · obtain ⟨d, rfl, _⟩ := h
    rfl
  · obtain ⟨d, rfl, hd, k⟩ := h
    have nd := sc__law_pairs_right.nd
    refine ⟨_, (pss_cons (ps_set (i := 1) nd rfl (.inl rfl) (pe_lst (pa_cons pe_int (pa_cons pe_int (pa_cons pe_int (pa_cons pe_int (pa_cons (pe_op op_sub pe_int pe_int) (pa_cons (pe_op op_sub (pe_op op_pow pe_int pe_int) pe_int) (pa_cons (pe_op op_pow pe_int pe_int) (pa_cons (pe_op op_sub pe_int (pe_op op_pow pe_int pe_int)) (pa_cons pe_bl (pa_cons pe_non (pa_cons pe_str (pa_cons (pe_tup (pa_cons pe_int pa_nil)) pa_nil))))))))))))))
      (pss_cons (ps_set (i := 2) nd rfl (.inl rfl) (pe_tup (pa_cons (pe_k C__law_pick hgd hr (by decide) rfl (pa_cons (pv 0) (pa_cons (pv 1) pa_nil))) (pa_cons (pe_k C__law_pick hgd hr (by decide) rfl (pa_cons (pv 0) (pa_cons (pe_op op_cat (pv 1) (pe_listRg rfl rfl T.list (prg_1 rfl T.range pe_int))) pa_nil))) pa_nil))))
      (pss_cons (ps_set (i := 3) nd rfl (.inl rfl) (pe_and (pe_k C__law_is_number hgd hr (by decide) rfl (pa_cons (pe_ix ix_tup (pv 2) pe_int (fun _ _ => rfl)) pa_nil)) (pe_one (pe_k C__law_is_number hgd hr (by decide) rfl (pa_cons (pe_ix ix_tup (pv 2) pe_int (fun _ _ => rfl)) pa_nil)))))
      (pss_cons (ps_set (i := 4) nd rfl (.inl rfl) (pe_lst (pa_cons (pv 3) (pa_cons (pe_and (pv 3) (pe_and (pe_cmpR op_le pe_int (pe_callB (cr_min2T rfl hr.units) (by rfl) T.min (by decide +kernel) (pa_cons (pv 2) pa_nil)) (nomark _)) (pe_one (pe_cmpR op_le (pe_callB (cr_max2T rfl hr.units) (by rfl) T.max (by decide +kernel) (pa_cons (pv 2) pa_nil)) pe_int (nomark _))))) pa_nil))))
      (pss_cons (ps_if (pt_cmpR op_ne (pe_callB (call_repr hgd hr.units) (by rfl) T.repr (by decide +kernel) (pa_cons (pe_lst (pa_cons (pe_k C_is_pair hgd hr (by decide) rfl (pa_cons (pv 2) pa_nil)) (pa_cons (pe_k C_is_form hgd hr (by decide) rfl (pa_cons (pv 2) pa_nil)) pa_nil))) pa_nil)) (pe_callB (call_repr hgd hr.units) (by rfl) T.repr (by decide +kernel) (pa_cons (pv 4) pa_nil)) (nomark _)) (pss_one (ps_ret pe_bl)) pss_nil)
      (pss_cons (ps_set (i := 5) nd rfl (.inl rfl) (pe_k C__law_pick hgd hr (by decide) rfl (pa_cons (pv 0) (pa_cons (pe_lst (pa_cons pe_non (pa_cons pe_int (pa_cons pe_str (pa_cons (pe_lst (pa_cons pe_int (pa_cons pe_int pa_nil))) (pa_cons (pe_tup (pa_cons pe_int pa_nil)) (pa_cons (pe_tup (pa_cons pe_int (pa_cons pe_int (pa_cons pe_int pa_nil)))) (pa_cons pe_dnewK (pa_cons (pe_tup pa_nil) (pa_cons (pe_disp (pps_cons pe_int pe_int pps_nil) (by rfl) (by rfl) (fun z => by cases z) (by decide)) (pa_cons (pe_tup (pa_cons (pe_tup (pa_cons pe_int (pa_cons pe_int pa_nil))) pa_nil)) pa_nil))))))))))) pa_nil))))
      (pss_one (ps_ret (pe_cmpR (op_eqD hr.units) (pe_lst (pa_cons (pe_k C_is_pair hgd hr (by decide) rfl (pa_cons (pv 5) pa_nil)) (pa_cons (pe_k C_is_form hgd hr (by decide) rfl (pa_cons (pv 5) pa_nil)) pa_nil))) (pe_lst (pa_cons pe_bl (pa_cons pe_bl pa_nil))) (nomark _)))))))))), ?_⟩
    -- some
    refine a_set (fun v H' => ∃ l xs ds, v = .ref l ∧ l ≠ d ∧ Mv d H H' ∧ H' l = some (.lst xs) ∧ DxAll (hide d H') xs ds ∧ xs.length = 12) (fun Q' kQ => ?_) ?_
    · refine ⟨_, _, rfl, rfl, _, _, rfl, rfl, ⟨by decide, by decide, by decide⟩, _, _, rfl, rfl, _, _, rfl, rfl, ⟨by decide, by decide, by decide⟩, _, _, rfl, rfl, ⟨by decide, by decide, by decide⟩, _, _, rfl, rfl, (by show 1 ≤ sizeLine; decide), fun p1 n1 => ?_⟩
      have m1 := (Mv.refl hd).new (o := .tup [.int 1]) n1
      have x1 : Dx (hide d (upd H p1 (.tup [.int 1]))) (.ref p1) (.tuple [.int 1]) := .tup (by rw [hide_ne (hd.ne n1)]; exact upd_same) (.cons (.int 1) .nil)
      refine ⟨(by show 12 ≤ sizeLine; decide), fun p2 n2 => ?_⟩
      refine kQ _ _ ⟨p2, _, [.int 0, .int 1, .int 7, .int 8, .int (0 - 1), .int (10 ^ Int.toNat 60 - 1), .int (10 ^ Int.toNat 60), .int (0 - 10 ^ Int.toNat 60), .bool true, .none, .str "1", .tuple [.int 1]], rfl, m1.dice.ne n2, m1.new n2, upd_same, ?_, rfl⟩
      exact DxAll.grow (fresh_same m1.dice n2) (.cons (.int _) (.cons (.int _) (.cons (.int _) (.cons (.int _) (.cons (.int _) (.cons (.int _) (.cons (.int _) (.cons (.int _) (.cons (.bl _) (.cons .non (.cons (.str _) (.cons x1 .nil))))))))))))
    rintro _ H1 ⟨l, xs, ds, rfl, nel, m1, hL, hds, hlen⟩
    -- pair
    refine a_set (fun v H' => ∃ p x y dx dy, v = .ref p ∧ Mv d H H' ∧ hide d H' p = some (.tup [x, y]) ∧ Dx (hide d H') x dx ∧ Dx (hide d H') y dy) (fun Q' kQ => ?_) ?_
    · refine ⟨_, rfl, _, rfl, d, l, xs, rfl, m1.dice, SqL.of hL, nel, by omega, by omega, fun i2 x2 H2 e2 m2 f2 => ?_⟩
      obtain ⟨dx, _, hx⟩ := picked hds m2 e2
      have hL2 := m2.get nel hL
      refine ⟨_, rfl, _, rfl, 8, rfl, ⟨by decide, by decide, by decide, by decide⟩, fun q nq => ?_⟩
      have s3 := same_new (o := .lst (rgV 0 8)) nq
      have m3 := (Mv.refl m2.dice).new (o := .lst (rgV 0 8)) nq
      have hq8 : (rgV 0 8).length = 8 := by decide +kernel
      refine ⟨l, q, xs, rgV 0 8, rfl, rfl, s3 _ _ hL2, upd_same, Nat.le_trans (show xs.length + (rgV 0 8).length ≤ 100 by omega) (by decide), fun r nr => ?_⟩
      have m4 := m3.new (o := .lst (xs ++ rgV 0 8)) nr
      have eights : DxAll (hide d (upd (upd H2 q (.lst (rgV 0 8))) r (.lst (xs ++ rgV 0 8)))) (rgV 0 8) [.int 0, .int 1, .int 2, .int 3, .int 4, .int 5, .int 6, .int 7] :=
        .cons (.int _) (.cons (.int _) (.cons (.int _) (.cons (.int _) (.cons (.int _) (.cons (.int _) (.cons (.int _) (.cons (.int _) .nil)))))))
      refine ⟨d, r, _, rfl, m4.dice, SqL.of upd_same, m3.dice.ne nr, by rw [List.length_append]; omega, by rw [List.length_append]; omega, fun i5 x5 H5 e5 m5 f5 => ?_⟩
      obtain ⟨dy, _, hy⟩ := picked ((DxAll.grow (m2.same.trans m4.same) hds).append eights) m5 e5
      refine ⟨(by show 2 ≤ sizeLine; decide), fun p np => ?_⟩
      refine kQ _ _ ⟨p, x2, x5, dx, dy, rfl, ((m1.trans m2).trans (m4.trans m5)).new np, by rw [hide_ne (m5.dice.ne np)]; exact upd_same, ?_, hy.grow (fresh_same m5.dice np)⟩
      exact ((hx.grow m4.same).grow m5.same).grow (fresh_same m5.dice np)
    rintro _ H2 ⟨p, x, y, dx, dy, rfl, m2, hp, hx, hy⟩
    have hpp : ∀ {H'}, Mv d H2 H' → H' p = some (.tup [x, y]) := fun m => hide_le' (m.same _ _ hp)
    -- is_fine
    refine a_set (fun v H' => v = .bl (intB dx && intB dy) ∧ Mv d H2 H') (fun Q' kQ => ?_) ?_
    · refine ⟨_, rfl, _, _, _, _, rfl, rfl, SqT.of (hide_le' hp), atI_nat (j := 0) rfl, _, dx, rfl, hx.seen, fun H3 s3 => ⟨_, rfl, ite2 (fun q => ?_) (fun q => ?_)⟩⟩
      · have m3 := (Mv.refl m2.dice).ofSame s3
        refine ⟨_, rfl, _, _, _, _, rfl, rfl, SqT.of (hpp m3), atI_nat (j := 1) rfl, _, dy, rfl, (m3.dx hy).seen, fun H4 s4 => ?_⟩
        exact kQ _ _ ⟨by rw [q, Bool.true_and], m3.ofSame s4⟩
      · exact kQ _ _ ⟨by rw [Bool.eq_false_iff.mpr q, Bool.false_and], (Mv.refl m2.dice).ofSame s3⟩
    rintro _ H3 ⟨rfl, m3⟩
    -- due
    have due : ∀ i j : Int, (decide ((0 : Int) ≤ min i j) && decide (max i j ≤ 7)) = formB (.tuple [.int i, .int j]) := fun i j => by
      simp only [formB, sideB]
      rw [Bool.eq_iff_iff]
      simp only [Bool.and_eq_true, decide_eq_true_eq]
      omega
    refine a_set (fun v H' => ∃ q, v = .ref q ∧ Mv d H2 H' ∧ H' q = some (.lst ([pairB (.tuple [dx, dy]), formB (.tuple [dx, dy])].map V.bl))) (fun Q' kQ => ?_) ?_
    · refine ⟨_, rfl, _, rfl, _, rfl, ite2 (fun q => ?_) (fun q => ?_)⟩
      · have q' : intB dx = true ∧ intB dy = true := by simpa using q
        obtain ⟨i, j, ep⟩ := pair_ints (show pairB (.tuple [dx, dy]) = true from q)
        obtain ⟨rfl, rfl⟩ : dx = .int i ∧ dy = .int j := by
          cases ep
          exact ⟨rfl, rfl⟩
        cases hx
        cases hy
        refine ⟨_, rfl, p, i, j, rfl, hpp m3, _, _, rfl, rfl, _, rfl, ite2 (fun q1 => ?_) (fun q1 => ?_)⟩
        · refine ⟨_, rfl, p, i, j, rfl, hpp m3, _, _, rfl, rfl, (by show 2 ≤ sizeLine; decide), fun r nr => ?_⟩
          refine kQ _ _ ⟨r, rfl, m3.new nr, ?_⟩
          rw [upd_same, ← due i j, q1, Bool.true_and]
          rfl
        · refine ⟨(by show 2 ≤ sizeLine; decide), fun r nr => ?_⟩
          refine kQ _ _ ⟨r, rfl, m3.new nr, ?_⟩
          rw [upd_same, ← due i j, Bool.eq_false_iff.mpr q1, Bool.false_and]
          rfl
      · refine ⟨(by show 2 ≤ sizeLine; decide), fun r nr => ?_⟩
        refine kQ _ _ ⟨r, rfl, m3.new nr, ?_⟩
        have nf : formB (.tuple [dx, dy]) = false := by
          cases z : formB (.tuple [dx, dy]) with
          | false => rfl
          | true => exact absurd (form_pair z) q
        rw [upd_same, nf, Bool.eq_false_iff.mpr q, show pairB (.tuple [dx, dy]) = false from Bool.eq_false_iff.mpr q]
        rfl
    rintro _ H4 ⟨q, rfl, m4, hq⟩
    -- if repr([..]) != repr(due)
    refine a_if (fun b H' => b = false ∧ Mv d H2 H') (fun Q' kQ => ?_) (fun H' h => nomatch h.1) (fun H5 h5 => ?_)
    · have dpair : ∀ {H'}, Mv d H2 H' → Dx H' (.ref p) (.tuple [dx, dy]) := fun {H'} m => .tup (hpp m) (.cons (m.dx hx).seen (.cons (m.dx hy).seen .nil))
      refine ⟨_, rfl, _, _, rfl, dpair m4, fun H5 s5 => ?_⟩
      refine ⟨_, rfl, _, _, rfl, dpair (m4.ofSame s5), fun H6 s6 => ?_⟩
      refine ⟨(by show 2 ≤ sizeLine; decide), fun r nr => ?_⟩
      have s7 := same_new (o := .lst ([pairB (.tuple [dx, dy]), formB (.tuple [dx, dy])].map V.bl)) nr
      refine ⟨_, _, rfl, boolsX [pairB (.tuple [dx, dy]), formB (.tuple [dx, dy])] upd_same K, shwB _ (by show 2 ≤ 20; decide), ?_⟩
      refine ⟨_, rfl, _, _, rfl, boolsX _ (s7 _ _ (s6 _ _ (s5 _ _ hq))) K, shwB _ (by show 2 ≤ 20; decide), rfl, false, congrArg V.bl ?_, kQ _ _ ⟨rfl, ((m4.ofSame s5).ofSame s6).new nr⟩⟩
      rw [decide_eq_true rfl]
      rfl
    refine go_nx ?_
    -- odd
    refine a_set (fun v H' => ∃ dat, pairB dat = false ∧ formB dat = false ∧ Dx H' v dat ∧ Mv d H H') (fun Q' kQ => ?_) ?_
    · have hd5 := h5.2.dice
      refine ⟨_, rfl, (by show 2 ≤ sizeLine; decide), fun p1 n1 => ?_⟩
      have m1' := (Mv.refl hd5).new (o := .lst [.int 1, .int 2]) n1
      refine ⟨(by show 1 ≤ sizeLine; decide), fun p2 n2 => ?_⟩
      have m2' := m1'.new (o := .tup [.int 1]) n2
      refine ⟨(by show 3 ≤ sizeLine; decide), fun p3 n3 => ?_⟩
      have m3' := m2'.new (o := .tup [.int 1, .int 2, .int 3]) n3
      refine fun p4 n4 => ?_
      have m4' := m3'.new (o := .dK []) n4
      refine ⟨(by show 0 ≤ sizeLine; decide), fun p5 n5 => ?_⟩
      have m5' := m4'.new (o := .tup []) n5
      refine fun p6 n6 => ⟨upd_same, [(.inl 1, .int 2)], rfl, (by decide), ?_⟩
      have m6' := m5'.new2 (o := .dK []) (u := .dK (mergeK [] [(.inl 1, .int 2)])) n6
      refine ⟨(by show 2 ≤ sizeLine; decide), fun p7 n7 => ?_⟩
      have m7' := m6'.new (o := .tup [.int 1, .int 2]) n7
      refine ⟨(by show 1 ≤ sizeLine; decide), fun p8 n8 => ?_⟩
      have m8' := m7'.new (o := .tup [.ref p7]) n8
      refine ⟨(by show 10 ≤ sizeLine; decide), fun p9 n9 => ?_⟩
      have m9' := m8'.new (o := .lst [.non, .int 0, .str "1.2", .ref p1, .ref p2, .ref p3, .ref p4, .ref p5, .ref p6, .ref p8]) n9
      refine ⟨d, p9, _, rfl, m9'.dice, SqL.of upd_same, m8'.dice.ne n9, (by show 0 < 10; decide), (by show 10 ≤ 1000; decide), fun j x H6 ej mm _ => ?_⟩
      have t1 := mm.get (hd5.ne n1) (same_new n9 _ _ (same_new n8 _ _ (same_new n7 _ _ (same_new2 n6 _ _ (same_new n5 _ _ (same_new n4 _ _ (same_new n3 _ _ (same_new n2 _ _ upd_same))))))))
      have t2 := mm.get (m1'.dice.ne n2) (same_new n9 _ _ (same_new n8 _ _ (same_new n7 _ _ (same_new2 n6 _ _ (same_new n5 _ _ (same_new n4 _ _ (same_new n3 _ _ upd_same)))))))
      have t3 := mm.get (m2'.dice.ne n3) (same_new n9 _ _ (same_new n8 _ _ (same_new n7 _ _ (same_new2 n6 _ _ (same_new n5 _ _ (same_new n4 _ _ upd_same))))))
      have t4 := mm.get (m3'.dice.ne n4) (same_new n9 _ _ (same_new n8 _ _ (same_new n7 _ _ (same_new2 n6 _ _ (same_new n5 _ _ upd_same)))))
      have t5 := mm.get (m4'.dice.ne n5) (same_new n9 _ _ (same_new n8 _ _ (same_new n7 _ _ (same_new2 n6 _ _ upd_same))))
      have t6 := mm.get (m5'.dice.ne n6) (same_new n9 _ _ (same_new n8 _ _ (same_new n7 _ _ upd_same)))
      have t7 := mm.get (m6'.dice.ne n7) (same_new n9 _ _ (same_new n8 _ _ upd_same))
      have t8 := mm.get (m7'.dice.ne n8) (same_new n9 _ _ upd_same)
      have fin : Mv d H H6 := m2.trans (h5.2.trans (m9'.trans mm))
      match j, ej with
      | 0, e => cases e; exact kQ _ _ ⟨_, rfl, rfl, .non, fin⟩
      | 1, e => cases e; exact kQ _ _ ⟨_, rfl, rfl, .int 0, fin⟩
      | 2, e => cases e; exact kQ _ _ ⟨_, rfl, rfl, .str _, fin⟩
      | 3, e => cases e; exact kQ _ _ ⟨.list [.int 1, .int 2], rfl, rfl, .lst t1 (.cons (.int 1) (.cons (.int 2) .nil)), fin⟩
      | 4, e => cases e; exact kQ _ _ ⟨.tuple [.int 1], rfl, rfl, .tup t2 (.cons (.int 1) .nil), fin⟩
      | 5, e => cases e; exact kQ _ _ ⟨.tuple [.int 1, .int 2, .int 3], rfl, rfl, .tup t3 (.cons (.int 1) (.cons (.int 2) (.cons (.int 3) .nil))), fin⟩
      | 6, e => cases e; exact kQ _ _ ⟨.dict [], rfl, rfl, .dct t4 .nil, fin⟩
      | 7, e => cases e; exact kQ _ _ ⟨.tuple [], rfl, rfl, .tup t5 .nil, fin⟩
      | 8, e => cases e; exact kQ _ _ ⟨.dict [(.int 1, .int 2)], rfl, rfl, .dct t6 (.cons (.int 2) .nil), fin⟩
      | 9, e => cases e; exact kQ _ _ ⟨.tuple [.tuple [.int 1, .int 2]], rfl, rfl, .tup t8 (.cons (.tup t7 (.cons (.int 1) (.cons (.int 2) .nil))) .nil), fin⟩
      | n + 10, e => cases e
    rintro x5 H6 ⟨dat, o1, o2, hdat, m6⟩
    refine a_ret (fun v H' => v = .bl true ∧ Mv d H H') (fun Q' kQ => ?_) (fun v H' e => by rw [e.1]; exact k H' e.2)
    refine ⟨_, rfl, _, dat, rfl, hdat, fun H7 s7 => ?_⟩
    refine ⟨_, rfl, _, dat, rfl, hdat.grow s7, fun H8 s8 => ?_⟩
    rw [o1, o2]
    refine ⟨(by show 2 ≤ sizeLine; decide), fun r nr => ⟨(by show 2 ≤ sizeLine; decide), fun t nt => ?_⟩⟩
    refine ⟨_, _, boolsX [false, false] (same_new nt _ _ upd_same) K, boolsX [false, false] upd_same K, shaped_bools _, shaped_bools _, ?_⟩
    exact kQ _ _ ⟨congrArg V.bl (eqv_bools [false, false]), (((m6.ofSame s7).ofSame s8).new nr).new nt⟩
end
theorem cut_take (ds : List PyData) (n : Nat) (h : n ≤ ds.length) : cutD ds none (some (n : Int)) = ds.take n := by
  unfold cutD
  rw [HT.sIx_none, HT.sIx_nat, Nat.min_eq_left h, List.drop_zero, Nat.sub_zero]
theorem cut_drop (ds : List PyData) (n : Nat) (h : n ≤ ds.length) : cutD ds (some (n : Int)) none = ds.drop n := by
  unfold cutD
  rw [HT.sIx_none, HT.sIx_nat, Nat.min_eq_left h]
  exact List.take_of_length_le (by rw [List.length_drop]; omega)
theorem row_bad (as bs : List PyData) {dat : PyData} (h : formB dat = false) : rowB (.tuple (as ++ [dat] ++ bs)) = false := by
  have q : (as ++ [dat] ++ bs).all formB = false := by
    rw [List.all_append, List.all_append, List.all_cons, h, Bool.false_and, Bool.and_false, Bool.false_and]
  simp only [rowB, formsB]
  rw [q, Bool.and_false, Bool.false_and]
theorem row_zero (as : List PyData) : rowB (.tuple (as ++ [zeroD])) = false := by
  have e1 : (as ++ [zeroD]).getLastD .none = zeroD := by simp
  have e2 : PyData.eqv zeroD zeroD = true := by decide +kernel
  have e3 : (as ++ [zeroD]).isEmpty = false := by simp
  simp only [rowB]
  rw [e1, e2, e3, Bool.not_true, Bool.or_false, Bool.and_false]
theorem last_not {fs : List (Int × Int)} (hc : cutF fs = fs) (h : fs ≠ []) : ∃ gs g, fs = gs ++ [g] ∧ g ≠ (0, 0) := by
  rcases List.eq_nil_or_concat fs with z | ⟨gs, g, z⟩
  · exact absurd z h
  · rw [List.concat_eq_append] at z
    refine ⟨gs, g, z, fun e => ?_⟩
    subst z
    rw [e, cutF_zero] at hc
    have := (cutF_sub gs).1
    rw [hc, List.length_append, List.length_singleton] at this
    omega
theorem row_put (fs : List (Int × Int)) (n : Nat) (hn : n ≤ fs.length) (hl : fs.length ≤ 100) (hs : ∀ f ∈ fs, Side 7 f) (hc : cutF fs = fs) :
    rowB (.tuple ((fs.map formD).take n ++ [zeroD] ++ (fs.map formD).drop n)) = decide (n < fs.length) := by
  by_cases q : n < fs.length
  · rw [decide_eq_true q]
    have e : (fs.map formD).take n ++ [zeroD] ++ (fs.map formD).drop n = (fs.take n ++ [(0, 0)] ++ fs.drop n).map formD := by
      rw [List.map_append, List.map_append, List.map_take, List.map_drop]
      rfl
    rw [e]
    refine rowB_D (fun f hf => ?_) ?_ ?_
    · rcases List.mem_append.mp hf with z | z
      · rcases List.mem_append.mp z with z | z
        · exact hs f (List.mem_of_mem_take z)
        · rw [List.mem_singleton.mp z]
          exact ⟨by decide, by decide, by decide, by decide⟩
      · exact hs f (List.mem_of_mem_drop z)
    · rw [List.length_append, List.length_append, List.length_take, List.length_drop, List.length_singleton]
      omega
    · obtain ⟨gs, g, e2, ng⟩ := last_not hc (fun z => by rw [z] at q; exact absurd q (Nat.not_lt_zero _))
      subst e2
      have e3 : (gs ++ [g]).drop n = gs.drop n ++ [g] := by
        rw [List.drop_append_of_le_length]
        rw [List.length_append, List.length_singleton] at q
        omega
      rw [e3, ← List.append_assoc]
      exact cutF_last _ ng
  · rw [decide_eq_false q, List.drop_of_length_le (by rw [List.length_map]; omega), List.append_nil]
    exact row_zero _
theorem shaped_of {d : PyData} (h1 : d.canLay0 = true) (h2 : d.depth ≤ 64) : SeqAt.shaped d = true := by
  show (PyData.canLay0 d && decide (PyData.depth d ≤ 64)) = true
  rw [h1, decide_eq_true h2]
  rfl
section
variable {P : Program} {w : World} {K : PySem.W.Frag} {mg : Str → Option Value} {base : Heap}
theorem c_rows (T : Txt K mg) (C__law_roll : CalG P w K mg base 1 "_law_roll" ["_law_dice_here", "_law_total"] spRoll) (C__law_pick : CalG P w K mg base 2 "_law_pick" ["_law_dice_here", "_law_items"] (spPick K))
    (C__law_some_row : CalG P w K mg base 3 "_law_some_row" ["_law_dice_here", "_law_levels", "_law_high"] spSomeRow) (C_is_row : CalG P w K mg base 6 "is_row" ["value"] (spJ rowB))
    (D : DefAt K mg "_law_rows_right" s__law_rows_right ["_law_dice_here"]) : CalG P w K mg base 7 "_law_rows_right" ["_law_dice_here"] spTrue := by
  refine calOk D sc__law_rows_right (fun xs H Q E h => ?_) (fun f cdv A out s H xs Q E hgd hr h => ?_)
  · obtain ⟨d, rfl, _⟩ := h
    rfl
  · obtain ⟨d, rfl, hd, k⟩ := h
    have nd := sc__law_rows_right.nd
    refine ⟨_, (pss_cons (ps_set (i := 1) nd rfl (.inl rfl) (pe_k C__law_some_row hgd hr (by decide) rfl (pa_cons (pv 0) (pa_cons pe_int (pa_cons pe_int pa_nil)))))
      (pss_cons (ps_if (PW.pt (pw_or (pt_cmpR op_notBl (pe_k C_is_row hgd hr (by decide) rfl (pa_cons (pv 1) pa_nil)) pe_bl (nomark _)) (pw_or1 (pt_cmpR op_notBl (pe_k C_is_row hgd hr (by decide) rfl (pa_cons (pe_callTy call_list_of (by rfl) T.list (by decide +kernel) (pa_cons (pv 1) pa_nil)) pa_nil)) pe_bl (nomark _))))) (pss_one (ps_ret pe_bl)) pss_nil)
      (pss_cons (ps_set (i := 2) nd rfl (.inl rfl) (pe_k C__law_roll hgd hr (by decide) rfl (pa_cons (pv 0) (pa_cons (pe_op op_add (pe_callB call_len_seq (by rfl) T.len (by decide +kernel) (pa_cons (pv 1) pa_nil)) pe_int) pa_nil))))
      (pss_cons (ps_set (i := 3) nd rfl (.inl rfl) (pe_k C__law_pick hgd hr (by decide) rfl (pa_cons (pv 0) (pa_cons (pe_lst (pa_cons pe_non (pa_cons (pe_tup (pa_cons pe_int pa_nil)) (pa_cons (pe_tup (pa_cons pe_int (pa_cons pe_int pa_nil))) (pa_cons (pe_tup (pa_cons pe_int (pa_cons (pe_op op_sub pe_int pe_int) pa_nil))) (pa_cons (pe_lst (pa_cons pe_int (pa_cons pe_int pa_nil))) (pa_cons (pe_tup (pa_cons pe_bl (pa_cons pe_int pa_nil))) (pa_cons pe_int (pa_cons pe_str pa_nil))))))))) pa_nil))))
      (pss_cons (ps_if (PW.pt (pw_or (pt_cmpR op_notBl (pe_k C_is_row hgd hr (by decide) rfl (pa_cons (pe_op op_catD (pe_op op_catD (pe_slice sl_tupD (pv 1) po_none (po_some (pv 2))) (pe_tup (pa_cons (pv 3) pa_nil))) (pe_slice sl_tupD (pv 1) (po_some (pv 2)) po_none)) pa_nil)) pe_bl (nomark _)) (pw_or1 (pt_cmpR op_notBl (pe_k C_is_row hgd hr (by decide) rfl (pa_cons (pe_op op_catD (pv 1) (pe_tup (pa_cons (pe_tup (pa_cons pe_int (pa_cons pe_int pa_nil))) pa_nil))) pa_nil)) pe_bl (nomark _))))) (pss_one (ps_ret pe_bl)) pss_nil)
      (pss_one (ps_ret (pe_cmpR op_eq (pe_callB (call_repr hgd hr.units) (by rfl) T.repr (by decide +kernel) (pa_cons (pe_k C_is_row hgd hr (by decide) rfl (pa_cons (pe_op op_catD (pe_op op_catD (pe_slice sl_tupD (pv 1) po_none (po_some (pv 2))) (pe_tup (pa_cons (pe_tup (pa_cons pe_int (pa_cons pe_int pa_nil))) pa_nil))) (pe_slice sl_tupD (pv 1) (po_some (pv 2)) po_none)) pa_nil)) pa_nil)) (pe_callB (call_repr hgd hr.units) (by rfl) T.repr (by decide +kernel) (pa_cons (pe_cmpR op_lt (pv 2) (pe_callB call_len_seq (by rfl) T.len (by decide +kernel) (pa_cons (pv 1) pa_nil)) (nomark _)) pa_nil)) (nomark _))))))))), ?_⟩
    -- row
    refine a_set (fun v H' => ∃ p fs, v = .ref p ∧ Mv d H H' ∧ Dx (hide d H') (.ref p) (rowD fs) ∧ (∀ f ∈ fs, Side 7 f) ∧ fs.length ≤ 6 ∧ cutF fs = fs) (fun Q' kQ => ?_) ?_
    · refine ⟨_, rfl, d, 6, 7, rfl, hd, (by decide), (by decide), (by decide), (by decide), fun p fs H1 sf hl hc m1 hp => ?_⟩
      exact kQ _ _ ⟨p, fs, rfl, m1, hp, sf, by omega, hc⟩
    rintro _ H1 ⟨p, fs, rfl, m1, hp, sf, hl, hc⟩
    have rowT : rowB (rowD fs) = true := rowB_D sf (by omega) hc
    -- if is_row(row) is not True or is_row(list(row)) is not False
    refine a_if (fun b H' => b = false ∧ Mv d H1 H') (fun Q' kQ => ?_) (fun H' h => nomatch h.1) (fun H2 h2 => ?_)
    · refine ⟨_, rfl, _, _, rfl, hp.seen, fun H2 s2 => ⟨_, _, rfl, rfl, false, congrArg V.bl (by rw [rowT]; rfl), ?_⟩⟩
      have m2 := (Mv.refl m1.dice).ofSame s2
      obtain ⟨a, ys, ea, ha, hys⟩ := (m2.dx hp).tupOf
      cases ea
      refine ⟨_, rfl, p, ys, rfl, .inr (SqT.of (hide_le' ha)), fun l nl => ?_⟩
      refine ⟨_, .list (fs.map formD), rfl, .lst upd_same (DxAll.grow (same_new nl) (DxAll.grow hide_le hys)), fun H3 s3 => ⟨_, _, rfl, rfl, false, rfl, ?_⟩⟩
      exact kQ _ _ ⟨rfl, (m2.new nl).ofSame s3⟩
    have m2 := h2.2
    have hp2 := m2.dx hp
    refine go_nx ?_
    -- at
    refine a_set (fun v H' => ∃ n : Nat, v = .int (n : Int) ∧ n ≤ fs.length ∧ Mv d H1 H') (fun Q' kQ => ?_) ?_
    · obtain ⟨a, ys, ea, ha, hys⟩ := hp2.tupOf
      cases ea
      have ly : ys.length = fs.length := by rw [hys.len, List.length_map]
      refine ⟨_, rfl, _, rfl, p, ys, rfl, .inr (SqT.of (hide_le' ha)), _, _, rfl, rfl, d, _, rfl, m2.dice, (by omega), log_small (by omega) (by omega), fun r H3 a3 b3 m3 f3 => ?_⟩
      exact kQ _ _ ⟨r.toNat, congrArg V.int (by omega), by omega, m2.trans m3⟩
    rintro _ H3 ⟨n, rfl, hn, m3⟩
    -- bad
    refine a_set (fun v H' => ∃ dat, formB dat = false ∧ Dx (hide d H') v dat ∧ Mv d H1 H') (fun Q' kQ => ?_) ?_
    · have d3 := m3.dice
      refine ⟨_, rfl, (by show 1 ≤ sizeLine; decide), fun p1 n1 => ?_⟩
      have m1' := (Mv.refl d3).new (o := .tup [.int 1]) n1
      refine ⟨(by show 2 ≤ sizeLine; decide), fun p2 n2 => ?_⟩
      have m2' := m1'.new (o := .tup [.int 8, .int 0]) n2
      refine ⟨_, _, rfl, rfl, (by show 2 ≤ sizeLine; decide), fun p3 n3 => ?_⟩
      have m3' := m2'.new (o := .tup [.int 0, .int (0 - 1)]) n3
      refine ⟨(by show 2 ≤ sizeLine; decide), fun p4 n4 => ?_⟩
      have m4' := m3'.new (o := .lst [.int 1, .int 1]) n4
      refine ⟨(by show 2 ≤ sizeLine; decide), fun p5 n5 => ?_⟩
      have m5' := m4'.new (o := .tup [.bl true, .int 1]) n5
      refine ⟨(by show 8 ≤ sizeLine; decide), fun p6 n6 => ?_⟩
      have m6' := m5'.new (o := .lst [.non, .ref p1, .ref p2, .ref p3, .ref p4, .ref p5, .int 3, .str "1.1"]) n6
      have g2 := fresh_same (o := .tup [.int 8, .int 0]) m1'.dice n2
      have g3 := fresh_same (o := .tup [.int 0, .int (0 - 1)]) m2'.dice n3
      have g4 := fresh_same (o := .lst [.int 1, .int 1]) m3'.dice n4
      have g5 := fresh_same (o := .tup [.bl true, .int 1]) m4'.dice n5
      have g6 := fresh_same (o := .lst [.non, .ref p1, .ref p2, .ref p3, .ref p4, .ref p5, .int 3, .str "1.1"]) m5'.dice n6
      have x1 : Dx (hide d (upd H3 p1 (.tup [.int 1]))) (.ref p1) (.tuple [.int 1]) := .tup (by rw [hide_ne (d3.ne n1)]; exact upd_same) (.cons (.int 1) .nil)
      have x2 := Dx.tup (H := hide d (upd (upd H3 p1 (.tup [.int 1])) p2 (.tup [.int 8, .int 0]))) (a := p2) (ds := [.int 8, .int 0]) (by rw [hide_ne (m1'.dice.ne n2)]; exact upd_same) (.cons (.int 8) (.cons (.int 0) .nil))
      have x3 := Dx.tup (H := hide d (upd (upd (upd H3 p1 (.tup [.int 1])) p2 (.tup [.int 8, .int 0])) p3 (.tup [.int 0, .int (0 - 1)]))) (a := p3) (ds := [.int 0, .int (0 - 1)]) (by rw [hide_ne (m2'.dice.ne n3)]; exact upd_same) (.cons (.int 0) (.cons (.int (0 - 1)) .nil))
      have x4 := Dx.lst (H := hide d (upd (upd (upd (upd H3 p1 (.tup [.int 1])) p2 (.tup [.int 8, .int 0])) p3 (.tup [.int 0, .int (0 - 1)])) p4 (.lst [.int 1, .int 1]))) (a := p4) (ds := [.int 1, .int 1]) (by rw [hide_ne (m3'.dice.ne n4)]; exact upd_same) (.cons (.int 1) (.cons (.int 1) .nil))
      have x5 := Dx.tup (H := hide d (upd (upd (upd (upd (upd H3 p1 (.tup [.int 1])) p2 (.tup [.int 8, .int 0])) p3 (.tup [.int 0, .int (0 - 1)])) p4 (.lst [.int 1, .int 1])) p5 (.tup [.bl true, .int 1]))) (a := p5) (ds := [.bool true, .int 1]) (by rw [hide_ne (m4'.dice.ne n5)]; exact upd_same) (.cons (.bl true) (.cons (.int 1) .nil))
      have all : DxAll _ [.non, .ref p1, .ref p2, .ref p3, .ref p4, .ref p5, .int 3, .str "1.1"] [.none, .tuple [.int 1], .tuple [.int 8, .int 0], .tuple [.int 0, .int (0 - 1)], .list [.int 1, .int 1], .tuple [.bool true, .int 1], .int 3, .str "1.1"] :=
        .cons .non (.cons (((((x1.grow g2).grow g3).grow g4).grow g5).grow g6) (.cons ((((x2.grow g3).grow g4).grow g5).grow g6) (.cons (((x3.grow g4).grow g5).grow g6) (.cons ((x4.grow g5).grow g6) (.cons (x5.grow g6) (.cons (.int 3) (.cons (.str "1.1") .nil)))))))
      refine ⟨d, p6, _, rfl, m6'.dice, SqL.of upd_same, m5'.dice.ne n6, (by show 0 < 8; decide), (by show 8 ≤ 1000; decide), fun j x H6 ej mm _ => ?_⟩
      obtain ⟨dat, hm, hx⟩ := picked all mm ej
      refine kQ _ _ ⟨dat, ?_, hx, m3.trans (m6'.trans mm)⟩
      have odd : ([.none, .tuple [.int 1], .tuple [.int 8, .int 0], .tuple [.int 0, .int (0 - 1)], .list [.int 1, .int 1], .tuple [.bool true, .int 1], .int 3, .str "1.1"] : List PyData).all (fun d => !formB d) = true := by decide +kernel
      have := List.all_eq_true.mp odd dat hm
      simpa using this
    rintro bad H4 ⟨dat, nf, hbad, m4⟩
    have lm : (fs.map formD).length = fs.length := List.length_map ..
    -- if is_row(row[:at] + (bad,) + row[at:]) is not False or is_row(row + ((0, 0),)) is not False
    refine a_if (fun b H' => b = false ∧ Mv d H1 H') (fun Q' kQ => ?_) (fun H' h => nomatch h.1) (fun H5 h5 => ?_)
    · refine ⟨_, rfl, _, rfl, _, rfl, d, _, m4.dice, m4.dx hp, fun v1 H5 m5 h1 => ?_⟩
      rw [cut_take _ _ (by omega)] at h1
      refine ⟨_, rfl, (by show 1 ≤ sizeLine; decide), fun p1 n1 => ?_⟩
      have m6 := m5.new (o := .tup [bad]) n1
      have hb1 : Dx (hide d (upd H5 p1 (.tup [bad]))) (.ref p1) (.tuple [dat]) := .tup (by rw [hide_ne (m5.dice.ne n1)]; exact upd_same) (.cons (m6.dx hbad) .nil)
      refine ⟨d, _, _, m6.dice, h1.grow (fresh_same m5.dice n1), hb1, (by rw [List.length_take]; simp only [List.length_singleton]; omega), fun v2 H7 m7 h2' => ?_⟩
      refine ⟨_, rfl, _, rfl, _, rfl, d, _, m7.dice, ((m4.trans m6).trans m7).dx hp, fun v3 H8 m8 h3' => ?_⟩
      rw [cut_drop _ _ (by omega)] at h3'
      refine ⟨d, _, _, m8.dice, m8.dx h2', h3', (by rw [List.length_append, List.length_take, List.length_drop]; simp only [List.length_singleton]; omega), fun v4 H9 m9 h4' => ?_⟩
      have m9' := (((m4.trans m6).trans m7).trans m8).trans m9
      refine ⟨_, _, rfl, h4'.seen, fun HA sA => ⟨_, _, rfl, rfl, false, congrArg V.bl (by rw [row_bad _ _ nf]; rfl), ?_⟩⟩
      have mA := m9'.ofSame sA
      refine ⟨_, rfl, (by show 2 ≤ sizeLine; decide), fun p2 n2 => ⟨(by show 1 ≤ sizeLine; decide), fun p3 n3 => ?_⟩⟩
      have mB := mA.new (o := .tup [.int 0, .int 0]) n2
      have mC := mB.new (o := .tup [.ref p2]) n3
      have z2 : Dx (hide d (upd HA p2 (.tup [.int 0, .int 0]))) (.ref p2) zeroD := .tup (by rw [hide_ne (mA.dice.ne n2)]; exact upd_same) (.cons (.int 0) (.cons (.int 0) .nil))
      have z3 : Dx (hide d (upd (upd HA p2 (.tup [.int 0, .int 0])) p3 (.tup [.ref p2]))) (.ref p3) (.tuple [zeroD]) := .tup (by rw [hide_ne (mB.dice.ne n3)]; exact upd_same) (.cons (z2.grow (fresh_same mB.dice n3)) .nil)
      refine ⟨d, _, _, mC.dice, mC.dx hp, z3, (by simp only [List.length_singleton]; omega), fun v5 HD mD h5' => ?_⟩
      refine ⟨_, _, rfl, h5'.seen, fun HE sE => ⟨_, _, rfl, rfl, false, congrArg V.bl (by rw [row_zero]; rfl), ?_⟩⟩
      exact kQ _ _ ⟨rfl, (mC.trans mD).ofSame sE⟩
    have m5 := h5.2
    refine go_nx ?_
    -- return repr(is_row(..)) == repr(at < len(row))
    refine a_ret (fun v H' => v = .bl true ∧ Mv d H1 H') (fun Q' kQ => ?_) (fun v H' e => by rw [e.1]; exact k H' (m1.trans e.2))
    refine ⟨_, rfl, _, rfl, _, rfl, d, _, m5.dice, m5.dx hp, fun v1 H6 m6 h1 => ?_⟩
    rw [cut_take _ _ (by omega)] at h1
    refine ⟨(by show 2 ≤ sizeLine; decide), fun p0 n0 => ⟨(by show 1 ≤ sizeLine; decide), fun p1 n1 => ?_⟩⟩
    have m7 := m6.new (o := .tup [.int 0, .int 0]) n0
    have m8 := m7.new (o := .tup [.ref p0]) n1
    have z0 : Dx (hide d (upd H6 p0 (.tup [.int 0, .int 0]))) (.ref p0) zeroD := .tup (by rw [hide_ne (m6.dice.ne n0)]; exact upd_same) (.cons (.int 0) (.cons (.int 0) .nil))
    have z1 : Dx (hide d (upd (upd H6 p0 (.tup [.int 0, .int 0])) p1 (.tup [.ref p0]))) (.ref p1) (.tuple [zeroD]) := .tup (by rw [hide_ne (m7.dice.ne n1)]; exact upd_same) (.cons (z0.grow (fresh_same m7.dice n1)) .nil)
    refine ⟨d, _, _, m8.dice, (h1.grow (fresh_same m6.dice n0)).grow (fresh_same m7.dice n1), z1, (by rw [List.length_take]; simp only [List.length_singleton]; omega), fun v2 H9 m9 h2' => ?_⟩
    refine ⟨_, rfl, _, rfl, _, rfl, d, _, m9.dice, ((m5.trans m8).trans m9).dx hp, fun v3 HA mA h3' => ?_⟩
    rw [cut_drop _ _ (by omega)] at h3'
    refine ⟨d, _, _, mA.dice, mA.dx h2', h3', (by rw [List.length_append, List.length_take, List.length_drop]; simp only [List.length_singleton]; omega), fun v4 HB mB h4' => ?_⟩
    have mB' := (((m5.trans m8).trans m9).trans mA).trans mB
    refine ⟨_, _, rfl, h4'.seen, fun HC sC => ?_⟩
    have mC := mB'.ofSame sC
    refine ⟨_, _, rfl, .bl _, shwB1 _, ?_⟩
    obtain ⟨a, ys, ea, ha, hys⟩ := (mC.dx hp).tupOf
    cases ea
    have ly : ys.length = fs.length := by rw [hys.len, List.length_map]
    refine ⟨_, rfl, _, rfl, p, ys, rfl, .inr (SqT.of (hide_le' ha)), _, _, rfl, rfl, ?_⟩
    refine ⟨_, _, rfl, .bl _, shwB1 _, rfl, ?_⟩
    refine kQ _ _ ⟨congrArg V.bl (decide_eq_true (congrArg V.str (congrArg PyData.shown (congrArg PyData.bool ?_)))), mC⟩
    rw [row_put fs n hn (by omega) sf hc, ly]
    by_cases q : n < fs.length
    · rw [decide_eq_true q, decide_eq_true (by omega)]
    · rw [decide_eq_false q, decide_eq_false (by omega)]
end
theorem flat1 (n : Nat) (x : PyData) : (List.replicate n [x]).flatten = List.replicate n x := by
  induction n with
  | zero => rfl
  | succ n ih => rw [List.replicate_succ, List.flatten_cons, ih, List.replicate_succ]; rfl
theorem row_rep {f : Int × Int} (hf : Side 7 f) (nf : f ≠ (0, 0)) (k : Nat) (hk : k < 200) (zs : List (Int × Int)) (hz : zs.length + k < 200) (hzs : ∀ g ∈ zs, Side 7 g) :
    rowB (.tuple (zs.map formD ++ List.replicate (k + 1) (formD f))) = true := by
  have e : zs.map formD ++ List.replicate (k + 1) (formD f) = (zs ++ List.replicate k f ++ [f]).map formD := by
    rw [List.map_append, List.map_append, List.map_replicate, List.append_assoc]
    congr 1
    exact List.replicate_succ' ..
  rw [e]
  refine rowB_D (fun g hg => ?_) ?_ (cutF_last _ nf)
  · rcases List.mem_append.mp hg with z | z
    · rcases List.mem_append.mp z with z | z
      · exact hzs g z
      · rw [(List.mem_replicate.mp z).2]
        exact hf
    · rw [List.mem_singleton.mp z]
      exact hf
  · rw [List.length_append, List.length_append, List.length_replicate, List.length_singleton]
    omega
theorem row_long (ds : List PyData) (h : 200 < ds.length) : rowB (.tuple ds) = false := by
  simp only [rowB, formsB]
  rw [decide_eq_false (by omega), Bool.false_and, Bool.false_and]
def spLaw (K : PySem.W.Frag) : Sp := fun vs H Q _ => ∃ (a : Addr) (ns : List Int), vs = [.ref a] ∧ SqL K H a (ns.map V.int) ∧ ns.length ≤ 63 ∧ ∀ H', Q (.bl true) H'
theorem Mv.out {d : Addr} {H H' : Hp} {o : HO} (n : H d = none) (m : Mv d (upd H d o) H') : Same H H' := fun b u e => by
  have nb : b ≠ d := ne_of_none e n
  exact m.get nb (by rw [upd_ne nb]; exact e)
section
variable {P : Program} {w : World} {K : PySem.W.Frag} {mg : Str → Option Value}
theorem c_law {fa : Addr} (T : Txt K mg) (hf : mg "law" = some (.ref fa)) (D1 : DefAt K mg "is_integer" s_is_integer ["value"]) (D2 : DefAt K mg "is_pair" s_is_pair ["value"]) (D2b : DefAt K mg "is_pair_within" s_is_pair_within ["value", "least", "greatest"]) (D3 : DefAt K mg "is_form" s_is_form ["value"])
    (D4 : DefAt K mg "are_forms" s_are_forms ["value"]) (D5 : DefAt K mg "is_row" s_is_row ["value"])
    (D8 : DefAt K mg "_law_dice" s__law_dice ["_law_script", "_law_spot"]) (D9 : DefAt K mg "_law_roll" s__law_roll ["_law_dice_here", "_law_total"]) (D10 : DefAt K mg "_law_pick" s__law_pick ["_law_dice_here", "_law_items"])
    (D11 : DefAt K mg "_law_cut" s__law_cut ["_law_forms"]) (D12 : DefAt K mg "_law_some_form" s__law_some_form ["_law_dice_here", "_law_high"]) (D13 : DefAt K mg "_law_some_row" s__law_some_row ["_law_dice_here", "_law_levels", "_law_high"])
    (D14 : DefAt K mg "_law_is_number" s__law_is_number ["_law_value"]) (D15 : DefAt K mg "_law_pairs_right" s__law_pairs_right ["_law_dice_here"]) (D16 : DefAt K mg "_law_rows_right" s__law_rows_right ["_law_dice_here"])
    (D17 : DefAt K mg "law" s_law ["_law_script"]) :
    ∃ fd : FuncData, (∀ (s : Shared) (u : Value), BindsTo s fd ⟨[u], []⟩ [("_law_script", u)]) ∧
      ∀ base : Heap, K.In base → base.Ns mainGlobals mg → FnG P w K mg base CX0 9 fa fd ["_law_script"] (spLaw K) := by
  refine lawOk hf D17 sc_law (fun xs H Q E h => ?_) (fun base hK hN f cdv A out s H xs Q E hgd hr h => ?_)
  · obtain ⟨a, ns, rfl, _⟩ := h
    rfl
  · obtain ⟨a, ns, rfl, hS, hlen, k⟩ := h
    have nd := sc_law.nd
    have C_is_integer : CalG P w K mg base 1 "is_integer" ["value"] (spJ intB) := c_is_integer T D1
    have C_is_pair : CalG P w K mg base 2 "is_pair" ["value"] (spJ pairB) := c_is_pair T C_is_integer D2
    have C_is_pair_within : CalG P w K mg base 3 "is_pair_within" ["value", "least", "greatest"] spPairWithin := c_is_pair_within T C_is_pair D2b
    have C_is_form : CalG P w K mg base 4 "is_form" ["value"] (spJ formB) := c_is_form T C_is_pair_within D3
    have C_are_forms : CalG P w K mg base 5 "are_forms" ["value"] (spJ formsB) := c_are_forms T C_is_form D4
    have C_is_row : CalG P w K mg base 6 "is_row" ["value"] (spJ rowB) := c_is_row T C_are_forms D5
    have C__law_dice : CalG P w K mg base 1 "_law_dice" ["_law_script", "_law_spot"] (spDice K) := c_dice T D8
    have C__law_roll : CalG P w K mg base 1 "_law_roll" ["_law_dice_here", "_law_total"] spRoll := c_roll T D9
    have C__law_pick : CalG P w K mg base 2 "_law_pick" ["_law_dice_here", "_law_items"] (spPick K) := c_pick T C__law_roll D10
    have C__law_cut : CalG P w K mg base 1 "_law_cut" ["_law_forms"] spCut := c_cut T D11
    have C__law_some_form : CalG P w K mg base 2 "_law_some_form" ["_law_dice_here", "_law_high"] spSomeForm := c_some_form T C__law_roll D12
    have C__law_some_row : CalG P w K mg base 3 "_law_some_row" ["_law_dice_here", "_law_levels", "_law_high"] spSomeRow := c_some_row T C__law_roll C__law_some_form C__law_cut D13
    have C__law_is_number : CalG P w K mg base 1 "_law_is_number" ["_law_value"] (spJ intB) := c_is_number T D14
    have C__law_pairs_right : CalG P w K mg base 5 "_law_pairs_right" ["_law_dice_here"] spTrue := c_pairs T C__law_roll C__law_pick C__law_is_number C_is_pair C_is_form D15
    have C__law_rows_right : CalG P w K mg base 7 "_law_rows_right" ["_law_dice_here"] spTrue := c_rows T C__law_roll C__law_pick C__law_some_row C_is_row D16
    refine ⟨_, (pss_cons (ps_for PassesOwn.never rfl (pi_range1 rfl T.range (pa_cons (pe_callB (call_max2 rfl) (by rfl) T.max (by decide +kernel) (pa_cons pe_int (pa_cons (pe_callB (call_min2 rfl) (by rfl) T.min (by decide +kernel) (pa_cons pe_int (pa_cons (pe_callB call_len_seq (by rfl) T.len (by decide +kernel) (pa_cons (pv 0) pa_nil)) pa_nil))) pa_nil))) pa_nil)) (pg_name (i := 1) nd rfl (.inl rfl)) (pss_cons (ps_set (i := 2) nd rfl (.inl rfl) (pe_k C__law_dice hgd hr (by decide) rfl (pa_cons (pv 0) (pa_cons (pv 1) pa_nil))))
        (pss_cons (ps_for PassesOwn.never rfl (pi_range1 rfl T.range (pa_cons pe_int pa_nil)) (pg_name (i := 3) nd rfl (.inl rfl)) (pss_one (ps_if (PW.pt (pw_or (pt_not (pt_val (pe_k C__law_pairs_right hgd hr (by decide) rfl (pa_cons (pv 2) pa_nil)))) (pw_or1 (pt_not (pt_val (pe_k C__law_rows_right hgd hr (by decide) rfl (pa_cons (pv 2) pa_nil))))))) (pss_one (ps_ret pe_bl)) pss_nil)))
        (pss_cons (ps_set (i := 4) nd rfl (.inl rfl) (pe_tup (pa_cons (pe_k C__law_roll hgd hr (by decide) rfl (pa_cons (pv 2) (pa_cons pe_int pa_nil))) (pa_cons (pe_op op_add pe_int (pe_k C__law_roll hgd hr (by decide) rfl (pa_cons (pv 2) (pa_cons pe_int pa_nil)))) pa_nil))))
        (pss_cons (ps_set (i := 5) nd rfl (.inl rfl) (pe_lst (pa_cons (pe_k C_is_row hgd hr (by decide) rfl (pa_cons (pe_op op_repD (pe_tup (pa_cons (pv 4) pa_nil)) pe_int) pa_nil)) (pa_cons (pe_k C_is_row hgd hr (by decide) rfl (pa_cons (pe_op op_repD (pe_tup (pa_cons (pv 4) pa_nil)) pe_int) pa_nil)) (pa_cons (pe_k C_is_row hgd hr (by decide) rfl (pa_cons (pe_op op_catD (pe_op op_repD (pe_tup (pa_cons (pe_tup (pa_cons pe_int (pa_cons pe_int pa_nil))) pa_nil)) pe_int) (pe_tup (pa_cons (pv 4) pa_nil))) pa_nil)) (pa_cons (pe_k C_is_row hgd hr (by decide) rfl (pa_cons (pe_op op_repD (pe_tup (pa_cons (pe_tup (pa_cons pe_int (pa_cons pe_int pa_nil))) pa_nil)) pe_int) pa_nil)) pa_nil))))))
        (pss_one (ps_if (pt_cmpR (op_neD hr.units) (pv 5) (pe_lst (pa_cons pe_bl (pa_cons pe_bl (pa_cons pe_bl (pa_cons pe_bl pa_nil))))) (nomark _)) (pss_one (ps_ret pe_bl)) pss_nil)))))))
      (pss_one (ps_ret (pe_cmpR (op_eqD hr.units) (pe_lst (pa_cons (pe_k C_is_row hgd hr (by decide) rfl (pa_cons (pe_tup pa_nil) pa_nil)) (pa_cons (pe_k C_is_row hgd hr (by decide) rfl (pa_cons pe_str pa_nil)) (pa_cons (pe_k C_is_row hgd hr (by decide) rfl (pa_cons pe_non pa_nil)) (pa_cons (pe_gv rfl T.gMAX_LEVELS) (pa_cons (pe_gv rfl T.gMAX_SIDE) pa_nil)))))) (pe_lst (pa_cons pe_bl (pa_cons pe_bl (pa_cons pe_bl (pa_cons pe_int (pa_cons pe_int pa_nil)))))) (nomark _))))), ?_⟩
    refine ⟨_, rfl, _, _, rfl, .inl hS, _, _, rfl, _, _, rfl, _, rfl, ?_, ?_, ?_⟩
    · rw [List.length_map]; split <;> split <;> omega
    · rw [List.length_map]; split <;> split <;> omega
    refine for_range (fun i σ H' => ∃ v1 v2 v3 v4 v5, σ = [some (.ref a), v1, v2, v3, v4, v5] ∧ Same H H') ?_ ?_ ?_
    · exact ⟨_, _, _, _, _, rfl, Same.refl _⟩
    · rintro i σ H0 hi ⟨v1, v2, v3, v4, v5, rfl, s0⟩
      refine ⟨_, rfl, _, rfl, a, ns, i, (by show [V.ref a, V.int (0 + (i : Int))] = _; rw [Int.zero_add]), s0.seq hS, Nat.le_trans hlen (by decide), fun d l0 t0 c0 nd0 => ?_⟩
      have dd : DiceAt (upd H0 d (.lst [.int l0, .int t0, .int c0])) d := ⟨_, _, _, upd_same⟩
      refine ⟨6, rfl, (by decide), (by decide), ?_⟩
      refine for_range (fun i σ H' => ∃ v1 v3 v4 v5, σ = [some (.ref a), v1, some (.ref d), v3, v4, v5] ∧ Mv d (upd H0 d (.lst [.int l0, .int t0, .int c0])) H') ?_ ?_ ?_
      · exact ⟨_, _, _, _, rfl, Mv.refl dd⟩
      · rintro i' σ H1 hi' ⟨v1, v3, v4, v5, rfl, m0⟩
        refine a_if1 (fun b H' => b = false ∧ Mv d (upd H0 d (.lst [.int l0, .int t0, .int c0])) H') (fun Q' kQ => ?_) (fun H' h => nomatch h.1) (fun H6 h => ?_)
        · refine ⟨_, rfl, d, rfl, m0.dice, fun H2 m2 => ⟨_, rfl, ?_⟩⟩
          refine ⟨_, rfl, d, rfl, m2.dice, fun H3 m3 => ⟨_, rfl, ?_⟩⟩
          exact kQ _ _ ⟨rfl, (m0.trans m2).trans m3⟩
        · exact ⟨_, _, _, _, rfl, h.2⟩
      · rintro σ H1 ⟨v1, v3, v4, v5, rfl, m0⟩
        refine go_nx ?_
        -- form
        refine a_set (fun v H' => ∃ p f, v = .ref p ∧ Side 7 f ∧ f ≠ (0, 0) ∧ Dx (hide d H') (.ref p) (formD f) ∧ Mv d (upd H0 d (.lst [.int l0, .int t0, .int c0])) H') (fun Q' kQ => ?_) ?_
        · refine ⟨_, rfl, d, 8, rfl, m0.dice, (by decide), log_small (by decide) (by decide), fun r1 H2 a1 b1 m1 f1 => ?_⟩
          refine ⟨_, rfl, d, 7, rfl, m1.dice, (by decide), log_small (by decide) (by decide), fun r2 H3 a2 b2 m2 f2 => ⟨_, _, rfl, rfl, (by show 2 ≤ sizeLine; decide), fun p np => ?_⟩⟩
          refine kQ _ _ ⟨p, (r1, 1 + r2), rfl, ⟨a1, by omega, by show 0 ≤ 1 + r2; omega, by show 1 + r2 ≤ 7; omega⟩, fun e => ?_, .tup (by rw [hide_ne (m2.dice.ne np)]; exact upd_same) (.cons (.int _) (.cons (.int _) .nil)), ((m0.trans m1).trans m2).new np⟩
          have : 1 + r2 = 0 := congrArg Prod.snd e
          omega
        rintro _ H2 ⟨p, f, rfl, sf, nf, hp, m1⟩
        -- told
        refine a_set (fun v H' => ∃ q, v = .ref q ∧ H' q = some (.lst ([true, false, true, false].map V.bl)) ∧ Mv d (upd H0 d (.lst [.int l0, .int t0, .int c0])) H') (fun Q' kQ => ?_) ?_
        · have one : ∀ {H'} (m : Mv d H2 H') {p1 : Addr} (n1 : H' p1 = none), Mv d H2 (upd H' p1 (.tup [.ref p])) ∧ Dx (hide d (upd H' p1 (.tup [.ref p]))) (.ref p1) (.tuple [formD f]) := fun {H'} m {p1} n1 =>
            ⟨m.new n1, .tup (by rw [hide_ne (m.dice.ne n1)]; exact upd_same) (.cons ((m.new n1).dx hp) .nil)⟩
          have zero : ∀ {H'} (m : Mv d H2 H') {p1 p2 : Addr} (n1 : H' p1 = none) (n2 : upd H' p1 (.tup [.int 0, .int 0]) p2 = none), Mv d H2 (upd (upd H' p1 (.tup [.int 0, .int 0])) p2 (.tup [.ref p1])) ∧
              Dx (hide d (upd (upd H' p1 (.tup [.int 0, .int 0])) p2 (.tup [.ref p1]))) (.ref p2) (.tuple [zeroD]) := fun {H'} m {p1 p2} n1 n2 =>
            ⟨(m.new n1).new n2, .tup (by rw [hide_ne ((m.new (o := .tup [.int 0, .int 0]) n1).dice.ne n2)]; exact upd_same)
              (.cons (Dx.grow (fresh_same (m.new n1).dice n2) (.tup (by rw [hide_ne (m.dice.ne n1)]; exact upd_same) (.cons (.int 0) (.cons (.int 0) .nil)))) .nil)⟩
          have mm := Mv.refl m1.dice
          refine ⟨_, rfl, (by show 1 ≤ sizeLine; decide), fun p1 n1 => ?_⟩
          obtain ⟨m2, x2⟩ := one mm n1
          refine ⟨d, 200, _, rfl, m2.dice, x2, List.cons_ne_nil _ _, (by decide), (by decide), (by show 1 ≤ 1000; decide), fun v3 H3 m3 h3 => ?_⟩
          refine ⟨_, _, rfl, h3.seen, fun H4 s4 => ?_⟩
          have m4 := (m2.trans m3).ofSame s4
          refine ⟨_, rfl, (by show 1 ≤ sizeLine; decide), fun p5 n5 => ?_⟩
          obtain ⟨m5, x5⟩ := one m4 n5
          refine ⟨d, 201, _, rfl, m5.dice, x5, List.cons_ne_nil _ _, (by decide), (by decide), (by show 1 ≤ 1000; decide), fun v6 H6 m6 h6 => ?_⟩
          refine ⟨_, _, rfl, h6.seen, fun H7 s7 => ?_⟩
          have m7 := (m5.trans m6).ofSame s7
          refine ⟨(by show 2 ≤ sizeLine; decide), fun p8 n8 => ⟨(by show 1 ≤ sizeLine; decide), fun p9 n9 => ?_⟩⟩
          obtain ⟨m9, x9⟩ := zero m7 n8 n9
          refine ⟨d, 199, _, rfl, m9.dice, x9, List.cons_ne_nil _ _, (by decide), (by decide), (by show 1 ≤ 1000; decide), fun vA HA mA hA => ?_⟩
          have mA' := m9.trans mA
          refine ⟨_, rfl, (by show 1 ≤ sizeLine; decide), fun pB nB => ?_⟩
          obtain ⟨mB, xB⟩ := one mA' nB
          refine ⟨d, _, _, mB.dice, hA.grow (fresh_same mA'.dice nB), xB, (by rw [flat1, List.length_replicate]; show 199 + 1 ≤ 100000; decide), fun vC HC mC hC => ?_⟩
          refine ⟨_, _, rfl, hC.seen, fun HD sD => ?_⟩
          have mD := (mB.trans mC).ofSame sD
          refine ⟨(by show 2 ≤ sizeLine; decide), fun pE nE => ⟨(by show 1 ≤ sizeLine; decide), fun pF nF => ?_⟩⟩
          obtain ⟨mF, xF⟩ := zero mD nE nF
          refine ⟨d, 3, _, rfl, mF.dice, xF, List.cons_ne_nil _ _, (by decide), (by decide), (by show 1 ≤ 1000; decide), fun vG HG mG hG => ?_⟩
          refine ⟨_, _, rfl, hG.seen, fun HI sI => ?_⟩
          have mI := (mF.trans mG).ofSame sI
          refine ⟨(by show 4 ≤ sizeLine; decide), fun q nq => kQ _ _ ⟨q, rfl, ?_, (m1.trans mI).new nq⟩⟩
          have r1 : rowB (.tuple (List.replicate (Int.toNat 200) [formD f]).flatten) = true := by
            rw [flat1]
            exact row_rep sf nf 199 (by decide) [] (by decide) (fun _ z => nomatch z)
          have r2 : rowB (.tuple (List.replicate (Int.toNat 201) [formD f]).flatten) = false := row_long _ (by rw [flat1, List.length_replicate]; decide)
          have r3 : rowB (.tuple ((List.replicate (Int.toNat 199) [zeroD]).flatten ++ [formD f])) = true := by
            rw [flat1]
            have e : List.replicate (Int.toNat 199) zeroD = (List.replicate 199 ((0 : Int), (0 : Int))).map formD := by
              rw [List.map_replicate]
              rfl
            rw [e]
            refine row_rep sf nf 0 (by decide) _ (by rw [List.length_replicate]; decide) fun g hg => ?_
            rw [(List.mem_replicate.mp hg).2]
            exact ⟨by decide, by decide, by decide, by decide⟩
          have r4 : rowB (.tuple (List.replicate (Int.toNat 3) [zeroD]).flatten) = false := by decide +kernel
          rw [upd_same, r1, r2, r3, r4]
          rfl
        rintro _ H3 ⟨q, rfl, hq, m3⟩
        refine a_if1 (fun b H' => b = false ∧ Mv d (upd H0 d (.lst [.int l0, .int t0, .int c0])) H') (fun Q' kQ => ?_) (fun H' h => nomatch h.1) (fun H6 h => ?_)
        · refine ⟨_, rfl, (by show 4 ≤ sizeLine; decide), fun r nr => ?_⟩
          refine ⟨_, _, boolsX [true, false, true, false] (same_new nr _ _ hq) K, boolsX [true, false, true, false] upd_same K, shaped_bools _, shaped_bools _, false, congrArg V.bl (by rw [eqv_bools]; rfl), kQ _ _ ⟨rfl, m3.new nr⟩⟩
        · exact ⟨_, _, _, _, _, rfl, s0.trans (Mv.out nd0 h.2)⟩
    · rintro σ H' ⟨v1, v2, v3, v4, v5, rfl, s0⟩
      refine go_nx ?_
      refine a_ret (fun v _ => v = .bl true) (fun Q' kQ => ?_) (fun v H2 e => by rw [e]; exact k H2)
      refine ⟨(by show 0 ≤ sizeLine; decide), fun p1 n1 => ?_⟩
      refine ⟨_, .tuple [], rfl, .tup upd_same .nil, fun H2 s2 => ?_⟩
      refine ⟨_, .str "-", rfl, .str "-", fun H3 s3 => ?_⟩
      refine ⟨_, .none, rfl, .non, fun H4 s4 => ?_⟩
      refine ⟨(by show 5 ≤ sizeLine; decide), fun p np => ⟨(by show 5 ≤ sizeLine; decide), fun q nq => ?_⟩⟩
      have dp : ∀ (H : Hp) (p : Addr) (b c e : Bool), H p = some (.lst [.bl b, .bl c, .bl e, .int 200, .int 7]) → Dp K H (.ref p) (.list [.bool b, .bool c, .bool e, .int 200, .int 7]) := fun H p b c e h =>
        .lst (SqL.of h) (.cons (.bl b) (.cons (.bl c) (.cons (.bl e) (.cons (.int _) (.cons (.int _) .nil)))))
      refine ⟨_, _, dp _ p true false false (same_new nq _ _ upd_same), dp _ q true false false upd_same, (by decide +kernel), (by decide +kernel), kQ _ _ (congrArg V.bl (by decide +kernel))⟩
end

end G

set_option Elab.async false
set_option linter.all false
namespace G
open PySem PySem.Spec PyProof.Rows L2
theorem walk_fingerbooks_k03_forms_and_rows {q : Program} {loose : List Str} {XP : (Str → Option Value) → Heap → Prop} {YP : World → Heap → Prop} {d : DefRec} {K : Params → PySem.W.Frag}
    (hdf : d.params.defaults = []) (hY : ∀ (w : World) (h : Heap), YP w h → (K w.params).In h)
    (F : ∀ (w : World) (mg : Str → Option Value) (fa : Addr) (h : Heap), (K w.params).In h → h.Ns mainGlobals mg → mg d.name = some (.ref fa) →
      ∃ fd : FuncData, (∀ (s : Shared) (u : Value), BindsTo s fd ⟨[u], []⟩ [("_law_script", u)]) ∧
        ∀ base : Heap, (K w.params).In base → base.Ns mainGlobals mg → FnG PySem.Challenge.rw_fingerbooks_k03_forms_and_rows.prog w (K w.params) mg base CX0 9 fa fd ["_law_script"] (spLaw (K w.params))) :
    PySem.W.WalkO q loose XP YP PySem.Challenge.rw_fingerbooks_k03_forms_and_rows.row.toRowW d [] (fun f vs => PySem.call f vs) :=
  endG (n := 63) (k := 9) (sp := fun K => spLaw K) rfl (by decide) hdf ⟨rfl, by decide, by decide⟩ hY F (fun K H a ns hl hS => ⟨a, ns, rfl, hS, hl, fun _ => rfl⟩)
end G

open PySem PySem.W PyProof.Rows in
set_option maxRecDepth 100000 in
set_option maxHeartbeats 0 in
theorem PySem.Challenge.cw_fingerbooks_k03_forms_and_rows_holds : PySem.Challenge.rw_fingerbooks_k03_forms_and_rows.Holds := by
  w_on; o_law; k_head; (case hw => w_witness2)
  k_fill
  refine G.walk_fingerbooks_k03_forms_and_rows rfl (fun w h Y => PySem.W.kIn_of Y) ?F
  case F =>
    intro w mg fa h KX gl hmg
    refine' G.c_law ?T hmg (G.defAt KX gl ?b0 ?a0 ?l0 ?c0 ?k0) (G.defAt KX gl ?b1 ?a1 ?l1 ?c1 ?k1) (G.defAt KX gl ?b2 ?a2 ?l2 ?c2 ?k2) (G.defAt KX gl ?b3 ?a3 ?l3 ?c3 ?k3) (G.defAt KX gl ?b4 ?a4 ?l4 ?c4 ?k4) (G.defAt KX gl ?b5 ?a5 ?l5 ?c5 ?k5) (G.defAt KX gl ?b6 ?a6 ?l6 ?c6 ?k6) (G.defAt KX gl ?b7 ?a7 ?l7 ?c7 ?k7) (G.defAt KX gl ?b8 ?a8 ?l8 ?c8 ?k8) (G.defAt KX gl ?b9 ?a9 ?l9 ?c9 ?k9) (G.defAt KX gl ?b10 ?a10 ?l10 ?c10 ?k10) (G.defAt KX gl ?b11 ?a11 ?l11 ?c11 ?k11) (G.defAt KX gl ?b12 ?a12 ?l12 ?c12 ?k12) (G.defAt KX gl ?b13 ?a13 ?l13 ?c13 ?k13) (G.defAt KX gl ?b14 ?a14 ?l14 ?c14 ?k14) (G.defAt KX gl ?b15 ?a15 ?l15 ?c15 ?k15)
    (case a0 => k_is)
    (case l0 => k_is)
    (case c0 => k_is)
    (case k0 => k_is)
    (case a1 => k_is)
    (case l1 => k_is)
    (case c1 => k_is)
    (case k1 => k_is)
    (case a2 => k_is)
    (case l2 => k_is)
    (case c2 => k_is)
    (case k2 => k_is)
    (case a3 => k_is)
    (case l3 => k_is)
    (case c3 => k_is)
    (case k3 => k_is)
    (case a4 => k_is)
    (case l4 => k_is)
    (case c4 => k_is)
    (case k4 => k_is)
    (case a5 => k_is)
    (case l5 => k_is)
    (case c5 => k_is)
    (case k5 => k_is)
    (case a6 => k_is)
    (case l6 => k_is)
    (case c6 => k_is)
    (case k6 => k_is)
    (case a7 => k_is)
    (case l7 => k_is)
    (case c7 => k_is)
    (case k7 => k_is)
    (case a8 => k_is)
    (case l8 => k_is)
    (case c8 => k_is)
    (case k8 => k_is)
    (case a9 => k_is)
    (case l9 => k_is)
    (case c9 => k_is)
    (case k9 => k_is)
    (case a10 => k_is)
    (case l10 => k_is)
    (case c10 => k_is)
    (case k10 => k_is)
    (case a11 => k_is)
    (case l11 => k_is)
    (case c11 => k_is)
    (case k11 => k_is)
    (case a12 => k_is)
    (case l12 => k_is)
    (case c12 => k_is)
    (case k12 => k_is)
    (case a13 => k_is)
    (case l13 => k_is)
    (case c13 => k_is)
    (case k13 => k_is)
    (case a14 => k_is)
    (case l14 => k_is)
    (case c14 => k_is)
    (case k14 => k_is)
    (case a15 => k_is)
    (case l15 => k_is)
    (case c15 => k_is)
    (case k15 => k_is)
    (case b0 => exact fun us hl => match us, hl with | [_], _ => rfl)
    (case b1 => exact fun us hl => match us, hl with | [_], _ => rfl)
    (case b2 => exact fun us hl => match us, hl with | [_, _, _], _ => rfl)
    (case b3 => exact fun us hl => match us, hl with | [_], _ => rfl)
    (case b4 => exact fun us hl => match us, hl with | [_], _ => rfl)
    (case b5 => exact fun us hl => match us, hl with | [_], _ => rfl)
    (case b6 => exact fun us hl => match us, hl with | [_, _], _ => rfl)
    (case b7 => exact fun us hl => match us, hl with | [_, _], _ => rfl)
    (case b8 => exact fun us hl => match us, hl with | [_, _], _ => rfl)
    (case b9 => exact fun us hl => match us, hl with | [_], _ => rfl)
    (case b10 => exact fun us hl => match us, hl with | [_, _], _ => rfl)
    (case b11 => exact fun us hl => match us, hl with | [_, _, _], _ => rfl)
    (case b12 => exact fun us hl => match us, hl with | [_], _ => rfl)
    (case b13 => exact fun us hl => match us, hl with | [_], _ => rfl)
    (case b14 => exact fun us hl => match us, hl with | [_], _ => rfl)
    (case b15 => exact fun us hl => match us, hl with | [_], _ => rfl)
    (case T =>
      refine' ⟨PySem.W.mg_none_of KX gl ?t0, PySem.W.mg_none_of KX gl ?t1, PySem.W.mg_none_of KX gl ?t2, PySem.W.mg_none_of KX gl ?t3, PySem.W.mg_none_of KX gl ?t4, PySem.W.mg_none_of KX gl ?t5, PySem.W.mg_none_of KX gl ?t6, PySem.W.mg_none_of KX gl ?t7, PySem.W.mg_none_of KX gl ?t8, PySem.W.mg_none_of KX gl ?t9, PySem.W.mg_none_of KX gl ?t10, PySem.W.mg_none_of KX gl ?t11, PySem.W.mg_none_of KX gl ?t12, ⟨_, PySem.W.mg_of KX gl ?t13, ?r13⟩, ⟨_, PySem.W.mg_of KX gl ?t14, ?r14⟩, ⟨_, PySem.W.mg_of KX gl ?t15, ?r15⟩⟩
      (case t0 => k_is)
      (case t1 => k_is)
      (case t2 => k_is)
      (case t3 => k_is)
      (case t4 => k_is)
      (case t5 => k_is)
      (case t6 => k_is)
      (case t7 => k_is)
      (case t8 => k_is)
      (case t9 => k_is)
      (case t10 => k_is)
      (case t11 => k_is)
      (case t12 => k_is)
      (case t13 => k_is)
      (case r13 => exact ⟨_, rfl⟩)
      (case t14 => k_is)
      (case r14 => exact ⟨_, rfl⟩)
      (case t15 => k_is)
      (case r15 => exact ⟨_, rfl⟩))


