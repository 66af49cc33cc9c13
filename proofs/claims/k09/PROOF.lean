import PyProof.Rows.All
import Wide.All
import OpenK.AllK
import Wide.FinOn
import PyProof.ReprRoads
import PyProof.CallFns
import HandS.ForMost
import HandS.IsInst
import HandS.TupAny
import HandS.TupMul
import HandS.Wide
import HandS.EndBits
import HandS.Defaults
import HandS.Evl
import PyProof.ReprLen
import PyProof.Rows.ReprOcc
import HandS.Set
import HandS.SetFor
import HandS.Strs
import HandS.Style
import HandS.Zip
import HandS.StrMore
import HandS.Flow
import KE.KExcSuper
import KE.KSuper
import HandS.Exc
import HandS.Ends
import HandS.ExcInit
import HandS.ExcCtx
import HandS.TryMany
import HandS.HotCalls
import KE.KExcIs
import HandS.SetBool
import HandS.Star
import HandS.Dict
import HandS.Conv
import HandS.WordsDict
import PyProof.AutoSeq1
import PyProof.Rows.StrDigits
import HandS.DictComp
import HandS.More
import HandS.List
import HandS.CallSlots
import PySem.Challenge.RW_farfiles_k09_cells_of_parts
set_option Elab.async false
set_option linter.all false
set_option maxRecDepth 100000
set_option maxHeartbeats 4000000
/-! FB, part a: defs whose callers stand within no repr (guards known), repr of data. -/
namespace FB
open PySem PySem.Spec PyProof.Rows L2

/-- a promise kept wherever no repr is under way -/
structure FnG (P : Program) (w : World) (K : PySem.W.Frag) (mg : Str → Option Value) (base : Heap) (CX : CXT) (k : Nat) (f : Addr) (fd : FuncData) (ps : List Str) (sp : Sp) : Prop where
  n : ∀ vs H Q E, sp vs H Q E → vs.length = ps.length
  go : ∀ (A : Around) (outer : List Env) (s : Shared) (H : Hp) (args : Args) (us : List Value) (vs : List V) (Q : VK) (E : XK), A.guards = some [] → Room k A → Env0 P w K mg base A outer s H →
    BindsTo s fd args (ps.zip us) → Vals vs us → sp vs H Q E → codeAny (model P w) A (.call (.ref f) args) (CR CX outer P w H s Q E) s

section
variable {P : Program} {w : World} {K : PySem.W.Frag} {mg : Str → Option Value} {base : Heap}
theorem FnG.of {CX : CXT} {k : Nat} {f : Addr} {fd : FuncData} {ps : List Str} {sp : Sp} (F : FnOk P w K mg base CX k f fd ps sp) : FnG P w K mg base CX k f fd ps sp :=
  ⟨F.len, fun A outer s H args us vs Q E _ hr => F.run A outer s H args us vs Q E hr⟩
theorem FnG.up {CX : CXT} {j k : Nat} {f : Addr} {fd : FuncData} {ps : List Str} {sp : Sp} (F : FnG P w K mg base CX j f fd ps sp) (h : j ≤ k) : FnG P w K mg base CX k f fd ps sp :=
  ⟨F.n, fun A outer s H args us vs Q E hg hr => F.go A outer s H args us vs Q E hg (hr.mono h)⟩

/-- a def by its body, guards known -/
theorem fng_of {CX : CXT} {k : Nat} {x qual : Str} {st : Stmt} {f : Addr} {fd : FuncData} {N ps : List Str} {sp : Sp} (F : Fun K x qual st f fd) (S : FnScope N ps (defScope st)) (ln : ∀ vs H Q E, sp vs H Q E → vs.length = ps.length)
    (hb : ∀ (cdv : Value) (A : Around) (outer : List Env) (s : Shared) (H : Hp) (vs : List V) (Q : VK) (E : XK), A.guards = some [] → Room k (A.deeper (envOfC qual (defScope st) s.heap.objs.size f cdv)) → sp vs H Q E →
      ∃ t, PSs (cxOf CX P w K mg base N qual (defScope st) f cdv A outer s H E) (defBody st) t ∧ t { nx := fun _ H' => Q .non H', rt := Q } (start N vs) H) : FnG P w K mg base CX (k + 1) f fd ps sp := by
  obtain ⟨oc, od, kV, doc, pm, an, cdv, ct, osl, rfl, lk, hcd⟩ := F.ex
  refine ⟨ln, ?_⟩
  intro A outer s H args us vs Q E hg hr e0 hbd r hsp
  have hl : vs.length = ps.length := ln _ _ _ _ hsp
  have KX : K.In s.heap := e0.mod.kin.keeps (fun b o e => (e0.bs b o e).1)
  have lim : s.heap.NoLimit := e0.mod.nolimit.keeps (fun b o e => (e0.bs b o e).1)
  have hkd : ∀ y ∈ ps.zip us, (defScope st).names.lookup y.1 = some .local ∨ ((defScope st).names.lookup y.1 = some .cell ∧ ((cellsFrom (s.heap.objs.size + 1) (defScope st).names []).lookup y.1).isSome = true) := by
    rintro ⟨n, v⟩ hy
    cases S.par n (List.of_mem_zip hy).1 with
    | inl q => exact Or.inl q
    | inr q => exact Or.inr ⟨q, PySem.W.cellsFrom_some _ _ _ (Or.inl q)⟩
  refine codeAny_call_function hr.depth (KX _ _ lk) rfl S.co S.gen rfl (PySem.W.codeRec_of KX hcd) (hbd _ _ _ _ ?_)
  refine wpAny_newFunctionEnv_cells S.kind hkd ?_
  intro env he s1 x1
  subst he
  refine ⟨lim.keeps x1.toInCall.keep, codeAny_func ?_⟩
  obtain ⟨t, ht, hq⟩ := hb cdv A outer s H vs Q E hg (hr.deeper _) hsp
  have I : Inv (cxOf CX P w K mg base N qual (defScope st) f cdv A outer s H E) [] (start N vs) H s1 := inv_start S hr.hd e0 hl r x1
  refine wpAny_mono (ht.run [] s1 (start N vs) H _ I hq) ?_ (fun e s' hs => hs)
  intro fl s' hs
  have fin : ∀ {σ' : L2.St} {H' : Hp} {v : V} {u : Value}, Inv (cxOf CX P w K mg base N qual (defScope st) f cdv A outer s H E) [] σ' H' s' → RelV v u → Q v H' → CE outer P w H s Q u s' := by
    intro σ' H' v u J rv q
    exact ⟨v, H', J.os, J.bare, J.base, J.hok, rv, q⟩
  cases fl with
  | next => exact (let ⟨_, _, J, q⟩ := hs; fin (v := V.non) (u := Value.none) J rfl q)
  | ret u => exact (let ⟨_, _, _, J, rv, q⟩ := hs; fin J rv q)
  | brk => exact (let ⟨_, _, _, q⟩ := hs; False.elim q)
  | cont => exact (let ⟨_, _, _, q⟩ := hs; False.elim q)
end

section
variable {X : Cx} {CX : CXT} {k : Nat} {f : Addr} {fd : FuncData} {ps : List Str} {sp : Sp} {dvs : List V} {ds : List Value} {E : XK} {x : Str} {p pos : Pos} {e : Expr} {es : List Expr} {t : TA}
theorem run_g {pins : List (Addr × Obj)} {σ : L2.St} {H : Hp} {s : Shared} {Q : VK} {us : List Value} {vs : List V} (F : FnG X.prog X.w X.K X.mg X.base CX k f fd ps sp) (hg : X.A.guards = some []) (hr : Room k X.A) (hb : Binds X.K fd ps ds)
    (hd : Vals dvs ds) (hx : Passes CX X E) (I : Inv X pins σ H s) (r : Vals vs us) (h : sp (vs ++ dvs) H Q E) : wpAny (model X.prog X.w) X.A (call (.ref f) us) (EP X pins σ Q) X.xe s := by
  have r2 : Vals (vs ++ dvs) (us ++ ds) := Vals.append r hd
  have hl : (us ++ ds).length = ps.length := (r2.length).symm.trans (F.n _ _ _ _ h)
  have main := F.go X.A X.stack s H ⟨us, []⟩ (us ++ ds) (vs ++ dvs) Q E hg hr I.env0 (hb s us I.kIn hl) r2 h
  refine wpAny_call (codeAny_mono main ?_)
  intro r s' hq
  match r, hq with
  | .error e, hq => exact hx pins σ H s e s' I hq
  | .ok (.ret u), hq => exact I.after hq
  | .ok .next, hq => exact hq.elim
  | .ok .brk, hq => exact hq.elim
  | .ok .cont, hq => exact hq.elim
/-- f(..) of such a def -/
theorem pe_g (F : FnG X.prog X.w X.K X.mg X.base CX k f fd ps sp) (hgd : X.A.guards = some []) (hr : Room k X.A) (hg : Gl X x) (hm : X.mg x = some (.ref f)) (hk : PySem.W.keepIn X.K (.ref f) = true) (hb : Binds X.K fd ps ds) (hd : Vals dvs ds)
    (hx : Passes CX X E) (ha : PA X (e :: es) t) (hdb : (x == ("__debug__" : Str)) = false := by decide) (he : starEach (e :: es) X.env = (false, eval e X.env) :: starEach es X.env := by rfl)
    (hpl : (backTo pos (starEach es X.env)).any (·.1) = false := by rfl) : PE X (.Call (.Name x p) (e :: es) [] pos) (tCall sp dvs E t) :=
  ⟨fun pins s σ H Q I h => wpAny_Call_Name_kw (ld_glob I hg hm (PySem.W.callWith_K (h₀ := X.base) I.ok.mod.kin hk (thn (ha.run pos pins s σ H _ I h) fun us s1 hq => by
    obtain ⟨vs, H1, I1, r, q⟩ := hq
    exact ⟨I1.kIn, run_g F hgd hr hb hd hx I1 r q⟩) he hpl) hdb)⟩
end

section
variable {X : Cx} {CX : CXT} {k n : Nat} {f : Addr} {fd : FuncData} {ps ks : List Str} {sp : Sp} {E : XK} {x : Str} {p pos : Pos} {kws : List Keyword} {tk : TA} {g : List Value → List Value → List Value} {gV : List V → List V → List V}
/-- f(k = v, ..), keywords alone -/
theorem pe_kw0 (F : FnOk X.prog X.w X.K X.mg X.base CX k f fd ps sp) (hr : Room k X.A) (hg : Gl X x) (hm : X.mg x = some (.ref f)) (hk : PySem.W.keepIn X.K (.ref f) = true) (hb : KBn X.K fd ps 0 ks g gV) (hx : Passes CX X E)
    (hkw : PK X kws tk) (hall : (backToKw pos (keywordEach kws X.env)).all (·.1.isSome) = true := by rfl) (hks : (backToKw pos (keywordEach kws X.env)).filterMap (·.1) = ks := by rfl)
    (hdb : (x == ("__debug__" : Str)) = false := by decide) (hpl : ((backTo pos (starEach [] X.env)).any (·.1) || (backToKw pos (keywordEach kws X.env)).any (·.1.isNone)) = false := by rfl) :
    PE X (.Call (.Name x p) [] kws pos) (tCallN 0 ks.length sp gV E tNil tk) := by
  constructor
  intro pins s σ H Q I h
  refine wpAny_Call_Name_kw (ld_glob I hg hm (PySem.W.callWith_KW0 (h₀ := X.base) I.ok.mod.kin hk hall ?_ hpl) hdb)
  refine thn (hkw.run pos pins s σ H _ I h) fun ws s2 hq => ?_
  obtain ⟨zs, H2, I2, rz, l1, l2, q2⟩ := hq
  rw [hks]
  exact ⟨I2.kIn, run_fnN (us := []) (vs := []) F hr hb hx I2 .nil rz l1 l2 q2⟩
end
end FB

set_option Elab.async false
set_option linter.all false
set_option maxRecDepth 100000
set_option maxHeartbeats 4000000
/-! FB, part b: data as values over the abstract heap; repr. -/
namespace FB
open PySem PySem.Spec PyProof.Rows L2

def kD : Key → PyData
  | .inl i => .int i
  | .inr x => .str x
/-! ### data, none of whose objects stands in U -/
mutual
inductive DU (U : Addr → Prop) (H : Hp) : V → PyData → Prop where
  | non : DU U H .non .none
  | bl (b : Bool) : DU U H (.bl b) (.bool b)
  | int (i : Int) : DU U H (.int i) (.int i)
  | str (x : Str) : DU U H (.str x) (.str x)
  | lst {a : Addr} {vs : List V} {ds : List PyData} : ¬ U a → H a = some (.lst vs) → DUA U H vs ds → DU U H (.ref a) (.list ds)
  | tup {a : Addr} {vs : List V} {ds : List PyData} : ¬ U a → H a = some (.tup vs) → DUA U H vs ds → DU U H (.ref a) (.tuple ds)
  | dct {a : Addr} {kvs : List (Key × V)} {ds : List PyData} : ¬ U a → H a = some (.dK kvs) → DUA U H (kvs.map (·.2)) ds → DU U H (.ref a) (.dict ((kvs.map fun p => kD p.1).zip ds))
inductive DUA (U : Addr → Prop) (H : Hp) : List V → List PyData → Prop where
  | nil : DUA U H [] []
  | cons {v : V} {d : PyData} {vs : List V} {ds : List PyData} : DU U H v d → DUA U H vs ds → DUA U H (v :: vs) (d :: ds)
end
theorem DUA.len0 {U : Addr → Prop} {H : Hp} : ∀ {vs : List V} {ds : List PyData}, DUA U H vs ds → vs.length = ds.length
  | _, _, .nil => rfl
  | _, _, .cons _ t => congrArg (· + 1) (DUA.len0 t)
/-! ### lists within -/
mutual
def hasL : PyData → Bool
  | .none => false
  | .bool _ => false
  | .int _ => false
  | .str _ => false
  | .list _ => true
  | .tuple xs => hasLA xs
  | .dict kvs => hasLK kvs
def hasLA : List PyData → Bool
  | [] => false
  | x :: xs => hasL x || hasLA xs
def hasLK : List (PyData × PyData) → Bool
  | [] => false
  | (_, v) :: r => hasL v || hasLK r
end
theorem hasLK_zip : ∀ (ks ds : List PyData), ks.length = ds.length → hasLK (ks.zip ds) = hasLA ds
  | [], [], _ => by simp [hasLK, hasLA]
  | k :: ks, d :: ds, h => by
    have ih := hasLK_zip ks ds (Nat.succ.inj h)
    simp only [List.zip_cons_cons, hasLK, hasLA, ih]
  | [], _ :: _, h => by cases h
  | _ :: _, [], h => by cases h

/-! ### to the library's Reads -/
section
variable {P : Program} {w : World} {U : Addr → Prop} {H : Hp} {h : Heap}
theorem pairs_keys (h : Heap) : ∀ {es : List DictEntry} {vs : List (Key × Value)}, Pairs (mixKind P w) es vs → ReadsAll h (es.map (·.key)) (vs.map fun p => kD p.1) []
  | _, _, .nil => .nil
  | _, _, .cons hk _ t => by
    have ih := pairs_keys h t
    have hk' := hk
    rw [mixKind_is] at hk'
    rcases keyIs_shape hk' with ⟨i, tt, e1, e2⟩ | ⟨x, tt, e1, e2⟩
    · rw [List.map_cons, List.map_cons, e1, e2]
      exact ReadsAll.cons (as := []) (bs := []) (Reads.int i tt) ih
    · rw [List.map_cons, List.map_cons, e1, e2]
      exact ReadsAll.cons (as := []) (bs := []) (Reads.str x tt) ih
theorem kv_keys : ∀ {kvs : List (Key × V)} {vs : List (Key × Value)}, KV kvs vs → (vs.map fun p => kD p.1) = kvs.map fun p => kD p.1
  | _, _, .nil => rfl
  | _, _, .cons r t => by rw [List.map_cons, List.map_cons, kv_keys t, r.1]
theorem kv_vals : ∀ {kvs : List (Key × V)} {vs : List (Key × Value)} {es : List DictEntry}, KV kvs vs → Pairs (mixKind P w) es vs → Vals (kvs.map (·.2)) (es.map (·.val))
  | _, _, _, .nil, .nil => .nil
  | _, _, _, .cons r t, .cons _ e s => by
    rw [List.map_cons, List.map_cons, e]
    exact .cons r.2 (kv_vals t s)
theorem zip_fst : ∀ (ks ds : List PyData), ks.length = ds.length → (ks.zip ds).map (·.1) = ks
  | [], [], _ => rfl
  | k :: ks, d :: ds, e => by rw [List.zip_cons_cons, List.map_cons, zip_fst ks ds (Nat.succ.inj e)]
  | [], _ :: _, e => by cases e
  | _ :: _, [], e => by cases e
theorem zip_snd : ∀ (ks ds : List PyData), ks.length = ds.length → (ks.zip ds).map (·.2) = ds
  | [], [], _ => rfl
  | k :: ks, d :: ds, e => by rw [List.zip_cons_cons, List.map_cons, zip_snd ks ds (Nat.succ.inj e)]
  | [], _ :: _, e => by cases e
  | _ :: _, [], e => by cases e
mutual
theorem DU.rd (ok : HOk P w H h) : ∀ {v : V} {d : PyData}, DU U H v d → ∀ {x : Value}, RelV v x → ∃ as, Reads h x d as ∧ (hasL d = false → sysModules ∉ as)
  | _, _, .non, x, r => by
    cases (show x = Value.none from r)
    exact ⟨_, .none, fun _ z => by cases z⟩
  | _, _, .bl b, x, r => by
    cases (show x = Value.bool b from r)
    exact ⟨_, .bool b, fun _ z => by cases z⟩
  | _, _, .int i, x, r => by
    obtain ⟨t, e⟩ := (show ∃ t, x = Value.int i t from r)
    subst e
    exact ⟨_, .int i t, fun _ z => by cases z⟩
  | _, _, .str y, x, r => by
    obtain ⟨t, e⟩ := (show ∃ t, x = Value.str y t from r)
    subst e
    exact ⟨_, .str y t, fun _ z => by cases z⟩
  | _, _, .lst (a := a) (vs := vs) _ e t, x, r => by
    cases (show x = Value.ref a from r)
    obtain ⟨_, its, n, rv, ho⟩ := (show ObjOk P w H h a (.lst vs) from ok a _ e)
    obtain ⟨as, q, _⟩ := DUA.rd ok t rv
    exact ⟨_, .list ho rfl rfl q, fun z => by simp [hasL] at z⟩
  | _, _, .tup (a := a) (vs := vs) _ e t, x, r => by
    cases (show x = Value.ref a from r)
    obtain ⟨_, its, rv, o, ho, hc, n, hd⟩ := (show ObjOk P w H h a (.tup vs) from ok a _ e)
    obtain ⟨as, q, nl⟩ := DUA.rd ok t rv
    exact ⟨_, .tuple ho hc hd q, fun z => nl (by simpa [hasL] using z)⟩
  | _, _, .dct (a := a) (kvs := kvs) (ds := ds) _ e t, x, r => by
    cases (show x = Value.ref a from r)
    obtain ⟨_, hs, vs, kv, o, es, ep, ho, hx, hd, _, pr, _⟩ := (show ObjOk P w H h a (.dK kvs) from ok a _ e)
    have lk : (kvs.map fun p => kD p.1).length = ds.length := by
      rw [List.length_map, ← DUA.len0 t, List.length_map]
    obtain ⟨bs, q, nl⟩ := DUA.rd ok t (kv_vals kv pr)
    have q1 : ReadsAll h (es.toList.map (·.key)) (((kvs.map fun p => kD p.1).zip ds).map (·.1)) [] := by
      rw [zip_fst _ _ lk, ← kv_keys kv]
      exact pairs_keys h pr
    have q2 : ReadsAll h (es.toList.map (·.val)) (((kvs.map fun p => kD p.1).zip ds).map (·.2)) bs := by
      rw [zip_snd _ _ lk]
      exact q
    refine ⟨_, .dict ho hx.1 hd q1 q2, fun z hm => ?_⟩
    rw [show hasL (.dict ((kvs.map fun p => kD p.1).zip ds)) = hasLA ds by rw [hasL, hasLK_zip _ _ lk]] at z
    rcases List.mem_cons.mp hm with e1 | hm
    · rw [← e1] at hs
      simp at hs
    · rcases List.mem_append.mp hm with z1 | z1
      · cases z1
      · exact nl z z1
theorem DUA.rd (ok : HOk P w H h) : ∀ {vs : List V} {ds : List PyData}, DUA U H vs ds → ∀ {xs : List Value}, Vals vs xs → ∃ as, ReadsAll h xs ds as ∧ (hasLA ds = false → sysModules ∉ as)
  | _, _, .nil, _, .nil => ⟨_, .nil, fun _ z => by cases z⟩
  | _, _, .cons h1 t, _, .cons r rt => by
    obtain ⟨as, q, n1⟩ := DU.rd ok h1 r
    obtain ⟨bs, q2, n2⟩ := DUA.rd ok t rt
    refine ⟨_, .cons q q2, fun z hm => ?_⟩
    simp only [hasLA, Bool.or_eq_false_iff] at z
    rcases List.mem_append.mp hm with z1 | z1
    · exact n1 z.1 z1
    · exact n2 z.2 z1
end
end

/-! ### what can be shown -/
/-- data that repr tells: small, not both dicts and lists within -/
structure Sm (d : PyData) : Prop where
  sh : d.showable = true
  dp : d.depth ≤ 40
  ln : d.shown.length ≤ 10000000
  mx : d.hasDict = false ∨ hasL d = false
def rRepr : List V → Hp → VK → Prop := fun xs H Q => ∃ (U : Addr → Prop) (v : V) (d : PyData), xs = [v] ∧ DU U H v d ∧ Sm d ∧ Q (.str d.shown) H
theorem call_rp {X : Cx} (hg : X.A.guards = some []) (hu : X.A.units + 64 < cLine) : CallR X (.builtin "repr") rRepr := by
  intro pins s σ H xs us Q I r h
  obtain ⟨U, v, d, rfl, hd, sm, q⟩ := h
  obtain ⟨x, rfl, rx⟩ := vals1 r
  have szl : sizeLine = 16777216 := by decide
  have l1 := sm.ln
  have hz : d.shown.length ≤ sizeLine := by omega
  have fin : ∀ (s' : Shared) (t : Tok), Inv X pins σ H s' → EP X pins σ Q (.str d.shown t) s' := fun s' t I' => ⟨.str d.shown, H, I', ⟨t, rfl⟩, q⟩
  cases hd with
  | non =>
    cases (show x = Value.none from rx)
    exact PySem.P.repr_of_none (fin _ _ (I.tok _))
  | bl b =>
    cases (show x = Value.bool b from rx)
    exact PySem.P.repr_of_bool (fin _ _ (I.tok _))
  | int i =>
    obtain ⟨t, e⟩ := (show ∃ t, x = Value.int i t from rx)
    subst e
    have := sm.sh
    exact PySem.P.repr_of_int (by simpa [PyData.showable] using this) (fin _ _ (I.tok _))
  | str y =>
    obtain ⟨t, e⟩ := (show ∃ t, x = Value.str y t from rx)
    subst e
    exact PySem.P.repr_of_str (fin _ _ (I.tok _)) hz
  | @lst a vs ds n e t =>
    obtain ⟨as, q1, q2⟩ := DU.rd I.hok (.lst n e t) rx
    cases (show x = Value.ref a from rx)
    have dp := sm.dp
    refine repr_of_reads' q1 sm.sh (fun z => sm.mx.elim (fun y => by rw [y] at z; cases z) q2) hg (by omega) (fun _ _ e => e) (fun h' t tk k => fin _ _ (I.kept k)) hz
  | @tup a vs ds n e t =>
    obtain ⟨as, q1, q2⟩ := DU.rd I.hok (.tup n e t) rx
    cases (show x = Value.ref a from rx)
    have dp := sm.dp
    refine repr_of_reads' q1 sm.sh (fun z => sm.mx.elim (fun y => by rw [y] at z; cases z) q2) hg (by omega) (fun _ _ e => e) (fun h' t tk k => fin _ _ (I.kept k)) hz
  | @dct a kvs ds n e t =>
    obtain ⟨as, q1, q2⟩ := DU.rd I.hok (.dct n e t) rx
    cases (show x = Value.ref a from rx)
    have dp := sm.dp
    refine repr_of_reads' q1 sm.sh (fun z => sm.mx.elim (fun y => by rw [y] at z; cases z) q2) hg (by omega) (fun _ _ e => e) (fun h' t tk k => fin _ _ (I.kept k)) hz
end FB

set_option Elab.async false
set_option linter.all false
set_option maxRecDepth 100000
set_option maxHeartbeats 4000000
/-! FB, part c: zones. A zone z says which addresses may change and how (I), and on which addresses what is told of values may not hang (U). -/
namespace FB
open PySem PySem.Spec PyProof.Rows L2

structure Zn where
  I : Addr → Option (HO → Prop)
  U : Addr → Prop
  cov : ∀ a, I a ≠ none → U a
/-- what may happen to the heap -/
structure Zn.R (z : Zn) (H H' : Hp) : Prop where
  kp : ∀ a o, z.I a = none → H a = some o → H' a = some o
  i1 : ∀ a φ, z.I a = some φ → ∃ o, H a = some o ∧ φ o
  i2 : ∀ a φ, z.I a = some φ → ∃ o, H' a = some o ∧ φ o
  l1 : ∀ a, z.U a → H a ≠ none
  l2 : ∀ a, z.U a → H' a ≠ none
/-- what told values lean on stays -/
def Zn.W (z : Zn) (H H' : Hp) : Prop := ∀ a o, ¬ z.U a → H a = some o → H' a = some o
section
variable {z : Zn} {H H1 H2 H' : Hp} {p : Addr} {o : HO}
theorem Zn.W.refl : z.W H H := fun _ _ _ h => h
theorem Zn.W.tr (a : z.W H H1) (b : z.W H1 H2) : z.W H H2 := fun x o n h => b x o n (a x o n h)
theorem Zn.R.w (r : z.R H H') : z.W H H' := fun a o n h => r.kp a o (by
  cases e : z.I a with
  | none => rfl
  | some φ => exact absurd (z.cov a (by rw [e]; simp)) n) h
theorem Zn.R.dl (r : z.R H H') : z.R H H := ⟨fun _ _ _ h => h, r.i1, r.i1, r.l1, r.l1⟩
theorem Zn.R.dr (r : z.R H H') : z.R H' H' := ⟨fun _ _ _ h => h, r.i2, r.i2, r.l2, r.l2⟩
theorem Zn.R.tr (a : z.R H H1) (b : z.R H1 H2) : z.R H H2 := ⟨fun x o n h => b.kp x o n (a.kp x o n h), a.i1, b.i2, a.l1, b.l2⟩
theorem Zn.R.mut (r : z.R H H') (h : H p = none) : z.R H (upd H' p o) := by
  refine ⟨fun a u n e => ?_, r.i1, fun a φ e => ?_, r.l1, fun a u => ?_⟩
  · rw [upd_ne (ne_of_none e h)]
    exact r.kp a u n e
  · obtain ⟨x, hx, _⟩ := r.i1 a φ e
    rw [upd_ne (ne_of_none hx h)]
    exact r.i2 a φ e
  · by_cases hp : a = p
    · rw [hp, upd_same]
      simp
    · rw [upd_ne hp]
      exact r.l2 a u
theorem Zn.R.new (r : z.R H H) (h : H p = none) : z.R H (upd H p o) := r.mut h
theorem Zn.R.back (r : z.R H H') (h : H' p = none) : H p = none := by
  cases e : H p with
  | none => rfl
  | some u =>
    cases ei : z.I p with
    | none =>
      rw [r.kp p u ei e] at h
      cases h
    | some φ =>
      obtain ⟨x, hx, _⟩ := r.i2 p φ ei
      rw [hx] at h
      cases h
theorem Zn.R.nu (r : z.R H H) (h : H p = none) : ¬ z.U p := fun u => r.l1 p u h
theorem Zn.R.ni (r : z.R H H) (h : H p = none) : z.I p = none := by
  cases ei : z.I p with
  | none => rfl
  | some φ =>
    obtain ⟨x, hx, _⟩ := r.i1 p φ ei
    rw [hx] at h
    cases h
/-- plain growth is within every zone -/
theorem Zn.R.ex (r : z.R H H) (e : ∀ a o, H a = some o → H' a = some o) : z.R H H' :=
  ⟨fun a o _ h => e a o h, r.i1, fun a φ h => let ⟨x, hx, q⟩ := r.i1 a φ h; ⟨x, e a x hx, q⟩, r.l1, fun a u q => by
    cases h : H a with
    | none => exact r.l1 a u h
    | some x => rw [e a x h] at q; cases q⟩
/-- one more address on which told values may not hang -/
def Zn.add (z : Zn) (D : Addr) : Zn := ⟨z.I, fun a => z.U a ∨ a = D, fun a h => Or.inl (z.cov a h)⟩
theorem Zn.R.up {D : Addr} (r : z.R H H') (h1 : H D ≠ none) (h2 : H' D ≠ none) : (z.add D).R H H' :=
  ⟨r.kp, r.i1, r.i2, fun a u => u.elim (r.l1 a) fun e => e ▸ h1, fun a u => u.elim (r.l2 a) fun e => e ▸ h2⟩
theorem Zn.R.dn {D : Addr} (r : (z.add D).R H H') : z.R H H' := ⟨r.kp, r.i1, r.i2, fun a u => r.l1 a (Or.inl u), fun a u => r.l2 a (Or.inl u)⟩
theorem Zn.W.dn {D : Addr} (w : z.W H H') : (z.add D).W H H' := fun a o n h => w a o (fun u => n (Or.inl u)) h
end
/-- a zone in which nothing that stands changes -/
def Zn.still (U : Addr → Prop) : Zn := ⟨fun _ => none, U, fun _ h => absurd rfl h⟩
theorem still_r {U : Addr → Prop} {H : Hp} (h : ∀ a, U a → H a ≠ none) : (Zn.still U).R H H := ⟨fun _ _ _ h => h, fun _ _ h => (by cases h), fun _ _ h => (by cases h), h, h⟩

section
variable {U U' : Addr → Prop} {H H' : Hp}
mutual
theorem DU.go (k : ∀ a o, ¬ U a → H a = some o → ¬ U' a ∧ H' a = some o) : ∀ {v : V} {d : PyData}, DU U H v d → DU U' H' v d
  | _, _, .non => .non
  | _, _, .bl b => .bl b
  | _, _, .int i => .int i
  | _, _, .str x => .str x
  | _, _, .lst n e t => .lst (k _ _ n e).1 (k _ _ n e).2 (DUA.go k t)
  | _, _, .tup n e t => .tup (k _ _ n e).1 (k _ _ n e).2 (DUA.go k t)
  | _, _, .dct n e t => .dct (k _ _ n e).1 (k _ _ n e).2 (DUA.go k t)
theorem DUA.go (k : ∀ a o, ¬ U a → H a = some o → ¬ U' a ∧ H' a = some o) : ∀ {vs : List V} {ds : List PyData}, DUA U H vs ds → DUA U' H' vs ds
  | _, _, .nil => .nil
  | _, _, .cons h t => .cons (DU.go k h) (DUA.go k t)
end
theorem DU.w {z : Zn} {v : V} {d : PyData} (w : z.W H H') (h : DU z.U H v d) : DU z.U H' v d := h.go fun a o n e => ⟨n, w a o n e⟩
theorem DUA.w {z : Zn} {v : List V} {d : List PyData} (w : z.W H H') (h : DUA z.U H v d) : DUA z.U H' v d := h.go fun a o n e => ⟨n, w a o n e⟩
/-- an address that was free ahead: the value doesn't reach it -/
theorem DU.add {z : Zn} {D : Addr} {v : V} {d : PyData} (hD : H D = none) (w : z.W H H') (h : DU z.U H v d) : DU (z.add D).U H' v d :=
  h.go fun a o n e => ⟨fun u => u.elim n fun q => (by rw [q, hD] at e; cases e), w a o n e⟩
theorem DU.sub {z : Zn} {D : Addr} {v : V} {d : PyData} (h : DU (z.add D).U H v d) : DU z.U H v d := h.go fun a o n e => ⟨fun u => n (Or.inl u), e⟩
/-- other zones -/
theorem DU.to {V' : Addr → Prop} {v : V} {d : PyData} (k : ∀ a, V' a → U a) (h : DU U H v d) : DU V' H v d := h.go fun a o n e => ⟨fun u => n (k a u), e⟩
theorem DUA.len : ∀ {vs : List V} {ds : List PyData}, DUA U H vs ds → vs.length = ds.length
  | _, _, .nil => rfl
  | _, _, .cons _ t => congrArg (· + 1) t.len
theorem DUA.at : ∀ {vs : List V} {ds : List PyData} {i : Nat} {v : V}, DUA U H vs ds → vs[i]? = some v → ∃ d, ds[i]? = some d ∧ DU U H v d
  | _, _, _, _, .nil, e => by simp at e
  | _, _, 0, v, .cons h _, e => by
    have e2 : _ = v := Option.some.inj e
    subst e2
    exact ⟨_, rfl, h⟩
  | _, _, i + 1, v, .cons _ t, e => DUA.at (i := i) t e
theorem DUA.app : ∀ {vs ws : List V} {ds es : List PyData}, DUA U H vs ds → DUA U H ws es → DUA U H (vs ++ ws) (ds ++ es)
  | _, _, _, _, .nil, s => s
  | _, _, _, _, .cons h t, s => .cons h (DUA.app t s)
theorem DUA.take : ∀ {vs : List V} {ds : List PyData} (n : Nat), DUA U H vs ds → DUA U H (vs.take n) (ds.take n)
  | _, _, 0, _ => .nil
  | _, _, _ + 1, .nil => .nil
  | _, _, n + 1, .cons h t => .cons h (DUA.take n t)
theorem DUA.drop : ∀ {vs : List V} {ds : List PyData} (n : Nat), DUA U H vs ds → DUA U H (vs.drop n) (ds.drop n)
  | _, _, 0, h => h
  | _, _, _ + 1, .nil => .nil
  | _, _, n + 1, .cons _ t => DUA.drop n t
theorem DUA.one {v : V} {d : PyData} (h : DU U H v d) : DUA U H [v] [d] := .cons h .nil
theorem DUA.strs : ∀ xs : List Str, DUA U H (xs.map V.str) (xs.map PyData.str)
  | [] => .nil
  | x :: r => .cons (.str x) (DUA.strs r)
end

/-! ### what a piece of syntax gives -/
abbrev VP := V → Hp → Prop
def Is (c : V) : VP := fun v _ => v = c
/-- an int below n -/
def Nn (n : Nat) : VP := fun v _ => ∃ i : Nat, v = .int (i : Int) ∧ i < n
def Dd (z : Zn) (d : PyData) : VP := fun v H => DU z.U H v d
section
variable (z : Zn)
/-- run at H, k ends within the zone with a value of which φ holds as long as the zone is kept -/
def Rn (k : VK → Prop) (H : Hp) (φ : VP) : Prop := ∀ Q : VK, (∀ v H2, z.R H H2 → (∀ H3, z.W H2 H3 → φ v H3) → Q v H2) → k Q
def Ev (te : TE) (σ : L2.St) (H : Hp) (φ : VP) : Prop := ∀ H1, z.R H H1 → Rn z (te σ H1) H1 φ
def EvT (tt : TT) (σ : L2.St) (H : Hp) (ψ : Bool → Prop) : Prop := ∀ H1, z.R H H1 → ∀ Q : Bool → Hp → Prop, (∀ b H2, z.R H1 H2 → ψ b → Q b H2) → tt σ H1 Q
def EvA (ta : TA) (σ : L2.St) (H : Hp) (Φ : List V → Hp → Prop) : Prop := ∀ H1, z.R H H1 → ∀ Q : List V → Hp → Prop, (∀ vs H2, z.R H1 H2 → (∀ H3, z.W H2 H3 → Φ vs H3) → Q vs H2) → ta σ H1 Q
def EvO (to : TO) (σ : L2.St) (H : Hp) (ψ : Option Int → Prop) : Prop := ∀ H1, z.R H H1 → ∀ Q : Option Int → Hp → Prop, (∀ o H2, z.R H1 H2 → ψ o → Q o H2) → to σ H1 Q
end
section
variable {z : Zn} {σ : L2.St} {H : Hp} {ta tb tc te : TE} {φ ψ χ : VP}
theorem Rn.imp {k : VK → Prop} (h : Rn z k H φ) (i : ∀ v H', z.R H H' → φ v H' → ψ v H') (st : ∀ H' H'', z.R H H' → z.W H' H'' → z.W H H'' → True := by intros; trivial) (iw : ∀ v H', z.W H H' → φ v H' → ψ v H') : Rn z k H ψ :=
  fun Q q => h Q fun v H2 r f => q v H2 r fun H3 w => iw v H3 (r.w.tr w) (f H3 w)
theorem Ev.imp (h : Ev z te σ H φ) (i : ∀ v H', z.W H H' → φ v H' → ψ v H') : Ev z te σ H ψ := fun H1 r Q q => h H1 r Q fun v H2 r2 f => q v H2 r2 fun H3 w => i v H3 ((r.tr r2).w.tr w) (f H3 w)
theorem Ev.up {H' : Hp} (r : z.R H H') (h : Ev z te σ H φ) : Ev z te σ H' φ := fun H1 r1 => h H1 (r.tr r1)
theorem ev_var {i : Nat} {v : V} (e : σ[i]? = some (some v)) (h : ∀ H', z.W H H' → φ v H') : Ev z (tVar i) σ H φ := fun H1 r Q q => ⟨v, e, q v H1 r.dr fun H3 w => h H3 (r.w.tr w)⟩
theorem ev_is {i : Nat} {v : V} (e : σ[i]? = some (some v)) : Ev z (tVar i) σ H (Is v) := ev_var e fun _ _ => rfl
theorem ev_c {v : V} (h : ∀ H', z.W H H' → φ v H') : Ev z (tC v) σ H φ := fun H1 r Q q => q v H1 r.dr fun H3 w => h H3 (r.w.tr w)
theorem ev_k {v : V} : Ev z (tC v) σ H (Is v) := ev_c fun _ _ => rfl
/-- an operator: its two parts, then itself -/
theorem ev_op {r : R2} (ha : Ev z ta σ H φ) (hb : ∀ x H1, z.R H H1 → φ x H1 → Ev z tb σ H1 ψ) (hr : ∀ x y H1, z.R H H1 → φ x H1 → ψ y H1 → Rn z (r x y H1) H1 χ) : Ev z (tOp r ta tb) σ H χ := fun H1 e Q q =>
  ha H1 e _ fun x H2 e2 fx => hb x H2 (e.tr e2) (fx H2 .refl) H2 e2.dr _ fun y H3 e3 fy => hr x y H3 ((e.tr e2).tr e3) (fx H3 e3.w) (fy H3 .refl) Q fun v H4 e4 fv => q v H4 ((e2.tr e3).tr e4) fv
/-- .. of two known values -/
theorem ev_op2 {r : R2} {x y : V} (ha : Ev z ta σ H (Is x)) (hb : Ev z tb σ H (Is y)) (hr : ∀ H1, z.R H H1 → Rn z (r x y H1) H1 χ) : Ev z (tOp r ta tb) σ H χ :=
  ev_op ha (fun _ H1 r _ => hb.up r) fun x' y' H1 r e1 e2 => by
    cases e1
    cases e2
    exact hr H1 r
theorem rn_val {k : VK → Prop} {v : V} (hR : z.R H H) (h : ∀ Q : VK, Q v H → k Q) (hφ : ∀ H', z.W H H' → φ v H') : Rn z k H φ := fun Q q => h Q (q v H hR hφ)
theorem ev_un {r : V → Hp → VK → Prop} (ha : Ev z ta σ H φ) (hr : ∀ x H1, z.R H H1 → φ x H1 → Rn z (r x H1) H1 χ) : Ev z (tUn r ta) σ H χ := fun H1 e Q q =>
  ha H1 e _ fun x H2 e2 fx => hr x H2 (e.tr e2) (fx H2 .refl) Q fun v H3 e3 fv => q v H3 (e2.tr e3) fv
/-! ints, truths, texts -/
theorem ev_i0 {g : Int → Int → V} {i j : Int} (ha : Ev z ta σ H (Is (.int i))) (hb : Ev z tb σ H (Is (.int j))) : Ev z (tOp (rI0 g) ta tb) σ H (Is (g i j)) :=
  ev_op2 ha hb fun H1 r => rn_val r.dr (fun Q q => ⟨i, j, rfl, rfl, q⟩) fun _ _ => rfl
theorem ev_i {C : Int → Int → Prop} {g : Int → Int → V} {i j : Int} (ha : Ev z ta σ H (Is (.int i))) (hb : Ev z tb σ H (Is (.int j))) (hc : C i j) : Ev z (tOp (rI C g) ta tb) σ H (Is (g i j)) :=
  ev_op2 ha hb fun H1 r => rn_val r.dr (fun Q q => ⟨i, j, rfl, rfl, hc, q⟩) fun _ _ => rfl
theorem ev_eq {x y : V} (ha : Ev z ta σ H (Is x)) (hb : Ev z tb σ H (Is y)) (hc : scal x y = true) : Ev z (tOp rEq ta tb) σ H (Is (.bl (decide (x = y)))) :=
  ev_op2 ha hb fun H1 r => rn_val r.dr (fun Q q => ⟨hc, q⟩) fun _ _ => rfl
theorem ev_ne {x y : V} (ha : Ev z ta σ H (Is x)) (hb : Ev z tb σ H (Is y)) (hc : scal x y = true) : Ev z (tOp rNe ta tb) σ H (Is (.bl (!decide (x = y)))) :=
  ev_op2 ha hb fun H1 r => rn_val r.dr (fun Q q => ⟨hc, q⟩) fun _ _ => rfl
theorem ev_to {x y : V} (h : Ev z te σ H (Is x)) (e : x = y) : Ev z te σ H (Is y) := e ▸ h
/-- from a value that is known to be somehow: go on with it -/
theorem Ev.byI {n : Nat} (h : Ev z te σ H (Nn n)) {k : VK → Hp → VK → Prop} : True := trivial

/-! ### tests -/
variable {t u : TT} {P1 P2 P3 : Bool → Prop}
theorem EvT.imp (h : EvT z t σ H P1) (i : ∀ b, P1 b → P2 b) : EvT z t σ H P2 := fun H1 e Q q => h H1 e Q fun b H2 e2 p => q b H2 e2 (i b p)
theorem EvT.up {H' : Hp} (r : z.R H H') (h : EvT z t σ H P1) : EvT z t σ H' P1 := fun H1 r1 => h H1 (r.tr r1)
theorem et_test {b : Bool} (h : Ev z te σ H (Is (.bl b))) : EvT z (tTest te) σ H (· = b) := fun H1 e Q q => h H1 e _ fun v H2 e2 f => ⟨b, f H2 .refl, q b H2 e2 rfl⟩
theorem et_B {b : Bool} (h : Ev z te σ H (Is (.bl b))) : EvT z (tB te) σ H (· = b) := fun H1 e Q q => h H1 e _ fun v H2 e2 f => ⟨b, f H2 .refl, q b H2 e2 rfl⟩
theorem et_not {b : Bool} (h : EvT z t σ H (· = b)) : EvT z (tNot t) σ H (· = !b) := fun H1 e Q q => h H1 e _ fun c H2 e2 p => q _ H2 e2 (by rw [p])
theorem et_and {a b : Bool} (h1 : EvT z t σ H (· = a)) (h2 : a = true → EvT z u σ H (· = b)) : EvT z (tAnd t u) σ H (· = (a && b)) := fun H1 e Q q => h1 H1 e _ fun c H2 e2 p => by
  subst p
  cases c with
  | true => exact h2 rfl H2 (e.tr e2) Q fun d H3 e3 p => q d H3 (e2.tr e3) p
  | false => exact q false H2 e2 rfl
theorem et_or {a b : Bool} (h1 : EvT z t σ H (· = a)) (h2 : a = false → EvT z u σ H (· = b)) : EvT z (tOr t u) σ H (· = (a || b)) := fun H1 e Q q => h1 H1 e _ fun c H2 e2 p => by
  subst p
  cases c with
  | false => exact h2 rfl H2 (e.tr e2) Q fun d H3 e3 p => q d H3 (e2.tr e3) p
  | true => exact q true H2 e2 rfl
theorem et_to {a b : Bool} (h : EvT z t σ H (· = a)) (e : a = b) : EvT z t σ H (· = b) := e ▸ h
theorem ev_and {a b : Bool} (h1 : Ev z ta σ H (Is (.bl a))) (h2 : a = true → Ev z tb σ H (Is (.bl b))) : Ev z (tAndV ta tb) σ H (Is (.bl (a && b))) := fun H1 e Q q => h1 H1 e _ fun c H2 e2 p => ⟨a, p H2 .refl, by
  cases a with
  | true => exact h2 rfl H2 (e.tr e2) Q fun d H3 e3 p => q d H3 (e2.tr e3) p
  | false => exact q _ H2 e2 fun _ _ => rfl⟩
theorem ev_or {a b : Bool} (h1 : Ev z ta σ H (Is (.bl a))) (h2 : a = false → Ev z tb σ H (Is (.bl b))) : Ev z (tOrV ta tb) σ H (Is (.bl (a || b))) := fun H1 e Q q => h1 H1 e _ fun c H2 e2 p => ⟨a, p H2 .refl, by
  cases a with
  | false => exact h2 rfl H2 (e.tr e2) Q fun d H3 e3 p => q d H3 (e2.tr e3) p
  | true => exact q _ H2 e2 fun _ _ => rfl⟩
theorem ev_not {a : Bool} (h1 : Ev z ta σ H (Is (.bl a))) : Ev z (tNotV ta) σ H (Is (.bl (!a))) := fun H1 e Q q => h1 H1 e _ fun c H2 e2 p => ⟨a, p H2 .refl, q _ H2 e2 fun _ _ => rfl⟩
theorem ev_if {b : Bool} (h : EvT z t σ H (· = b)) (h1 : b = true → Ev z ta σ H φ) (h2 : b = false → Ev z tb σ H φ) : Ev z (tIf t ta tb) σ H φ := fun H1 e Q q => h H1 e _ fun c H2 e2 p => by
  subst p
  cases c with
  | true => exact h1 rfl H2 (e.tr e2) Q fun d H3 e3 p => q d H3 (e2.tr e3) p
  | false => exact h2 rfl H2 (e.tr e2) Q fun d H3 e3 p => q d H3 (e2.tr e3) p
/-- a chain of two comparisons of known values, each a truth -/
theorem ev_chain {r r' : R2} {x y w : V} {a b : Bool} (ha : Ev z ta σ H (Is x)) (hb : Ev z tb σ H (Is y)) (hc : a = true → Ev z tc σ H (Is w)) (hr : ∀ H1, z.R H H1 → Rn z (r x y H1) H1 (Is (.bl a))) (hr' : ∀ H1, z.R H H1 → Rn z (r' y w H1) H1 (Is (.bl b))) :
    Ev z (tChain r r' ta tb tc) σ H (Is (.bl (a && b))) := fun H1 e Q q => ha H1 e _ fun x1 H2 e2 fx => hb H2 (e.tr e2) _ fun y1 H3 e3 fy => by
  have ex : x1 = x := fx H2 .refl
  have ey : y1 = y := fy H3 .refl
  subst ex
  subst ey
  refine hr H3 ((e.tr e2).tr e3) _ fun v H4 e4 fv => ⟨a, fv H4 .refl, ?_⟩
  cases a with
  | false => exact q _ H4 ((e2.tr e3).tr e4) fun _ _ => rfl
  | true =>
    refine hc rfl H4 (((e.tr e2).tr e3).tr e4) _ fun w1 H5 e5 fw => ?_
    have ew : w1 = w := fw H5 .refl
    subst ew
    exact hr' H5 ((((e.tr e2).tr e3).tr e4).tr e5) Q fun v H6 e6 f6 => q v H6 ((((e2.tr e3).tr e4).tr e5).tr e6) f6

/-! ### lists of arguments, displays -/
theorem ea_nil : EvA z tNil σ H (fun vs _ => vs = []) := fun H1 _ Q q => q [] H1 (Zn.R.dr ‹_›) fun _ _ => rfl
theorem ea_cons {tr : TA} {Φ : List V → Hp → Prop} (h : Ev z te σ H φ) (hr : ∀ v H1, z.R H H1 → φ v H1 → EvA z tr σ H1 Φ) : EvA z (tCons te tr) σ H (fun vs H' => ∃ v r, vs = v :: r ∧ φ v H' ∧ Φ r H') := fun H1 e Q q =>
  h H1 e _ fun v H2 e2 fv => hr v H2 (e.tr e2) (fv H2 .refl) H2 e2.dr _ fun vs H3 e3 fr => q _ H3 (e2.tr e3) fun H4 w => ⟨v, vs, rfl, fv H4 (e3.w.tr w), fr H4 w⟩
theorem EvA.imp {ta : TA} {Φ Ψ : List V → Hp → Prop} (h : EvA z ta σ H Φ) (i : ∀ vs H', z.W H H' → Φ vs H' → Ψ vs H') : EvA z ta σ H Ψ := fun H1 r Q q => h H1 r Q fun v H2 r2 f => q v H2 r2 fun H3 w => i v H3 ((r.tr r2).w.tr w) (f H3 w)
theorem EvA.up {H' : Hp} {ta : TA} {Φ : List V → Hp → Prop} (r : z.R H H') (h : EvA z ta σ H Φ) : EvA z ta σ H' Φ := fun H1 r1 => h H1 (r.tr r1)
/-- known arguments -/
theorem ea_is {v : V} {vs : List V} {tr : TA} (h : Ev z te σ H (Is v)) (hr : EvA z tr σ H (fun ws _ => ws = vs)) : EvA z (tCons te tr) σ H (fun ws _ => ws = v :: vs) :=
  (ea_cons h fun _ H1 r _ => hr.up r).imp fun ws H' _ ⟨a, b, e, e1, e2⟩ => by rw [e, show a = v from e1, e2]
/-- a new list, a new tuple at p -/
def Lst (z : Zn) (Φ : List V → Hp → Prop) : VP := fun v H => ∃ p ws, v = .ref p ∧ ¬ z.U p ∧ H p = some (.lst ws) ∧ Φ ws H
def Tup (z : Zn) (Φ : List V → Hp → Prop) : VP := fun v H => ∃ p ws, v = .ref p ∧ ¬ z.U p ∧ H p = some (.tup ws) ∧ Φ ws H
theorem ev_lst {ta : TA} {Φ : List V → Hp → Prop} (h : EvA z ta σ H Φ) (hl : ∀ vs H', Φ vs H' → vs.length ≤ 100000) : Ev z (tLst ta) σ H (Lst z Φ) := fun H1 e Q q =>
  h H1 e _ fun vs H2 e2 f => ⟨Nat.le_trans (hl _ _ (f H2 .refl)) (by decide), fun p hp => q _ _ (e2.tr (e2.dr.new hp)) fun H3 w =>
    ⟨p, vs, rfl, e2.dr.nu hp, w p _ (e2.dr.nu hp) upd_same, f H3 ((e2.dr.new hp).w.tr w)⟩⟩
theorem ev_tup {ta : TA} {Φ : List V → Hp → Prop} (h : EvA z ta σ H Φ) (hl : ∀ vs H', Φ vs H' → vs.length ≤ 100000) : Ev z (tTup ta) σ H (Tup z Φ) := fun H1 e Q q =>
  h H1 e _ fun vs H2 e2 f => ⟨Nat.le_trans (hl _ _ (f H2 .refl)) (by decide), fun p hp => q _ _ (e2.tr (e2.dr.new hp)) fun H3 w =>
    ⟨p, vs, rfl, e2.dr.nu hp, w p _ (e2.dr.nu hp) upd_same, f H3 ((e2.dr.new hp).w.tr w)⟩⟩
/-- xs[i], the list just made, i known to be somehow -/
theorem ev_ixl {K : PySem.W.Frag} {Φ : List V → Hp → Prop} (ha : Ev z ta σ H (Lst z Φ)) (hb : ∀ (x : V) H1, z.R H H1 → Ev z tb σ H1 ψ) (hr : ∀ ws y H1, z.R H H1 → Φ ws H1 → ψ y H1 → ∃ (i : Nat) (v : V), y = .int (i : Int) ∧ ws[i]? = some v ∧ ∀ H2, z.W H1 H2 → χ v H2) :
    Ev z (tOp (rIxL K) ta tb) σ H χ := ev_op ha (fun x H1 r _ => hb x H1 r) fun x y H1 r ⟨p, ws, ex, nu, hp, fw⟩ fy => by
  obtain ⟨i, v, ey, ew, fv⟩ := hr ws y H1 r fw fy
  exact rn_val r.dr (fun Q q => ⟨p, ws, i, v, ex, ey, .inl (.inl hp), atI_nat ew, q⟩) fv

/-! ### calls -/
theorem ev_call {sp : Sp} {dvs : List V} {E : XK} {t : TA} {Φ : List V → Hp → Prop} (h : EvA z t σ H Φ) (hs : ∀ vs H1, z.R H H1 → Φ vs H1 → Rn z (fun Q => sp (vs ++ dvs) H1 Q E) H1 χ) : Ev z (tCall sp dvs E t) σ H χ := fun H1 e Q q =>
  h H1 e _ fun vs H2 e2 f => hs vs H2 (e.tr e2) (f H2 .refl) Q fun v H3 e3 fv => q v H3 (e2.tr e3) fv
theorem ev_cb {r : List V → Hp → VK → Prop} {t : TA} {Φ : List V → Hp → Prop} (h : EvA z t σ H Φ) (hs : ∀ vs H1, z.R H H1 → Φ vs H1 → Rn z (r vs H1) H1 χ) : Ev z (tCB r t) σ H χ := fun H1 e Q q =>
  h H1 e _ fun vs H2 e2 f => hs vs H2 (e.tr e2) (f H2 .refl) Q fun v H3 e3 fv => q v H3 (e2.tr e3) fv
theorem ev_callN {n m : Nat} {sp : Sp} {gV : List V → List V → List V} {E : XK} {t tk : TA} {Φ Ψ : List V → Hp → Prop} (h : EvA z t σ H Φ) (hk : ∀ vs H1, z.R H H1 → Φ vs H1 → EvA z tk σ H1 Ψ)
    (hs : ∀ vs zs H1, z.R H H1 → Φ vs H1 → Ψ zs H1 → vs.length = n ∧ zs.length = m ∧ Rn z (fun Q => sp (gV vs zs) H1 Q E) H1 χ) : Ev z (tCallN n m sp gV E t tk) σ H χ := fun H1 e Q q =>
  h H1 e _ fun vs H2 e2 f => hk vs H2 (e.tr e2) (f H2 .refl) H2 e2.dr _ fun zs H3 e3 g => by
    obtain ⟨l1, l2, l3⟩ := hs vs zs H3 ((e.tr e2).tr e3) (f H3 e3.w) (g H3 .refl)
    exact ⟨l1, l2, l3 Q fun v H4 e4 fv => q v H4 ((e2.tr e3).tr e4) fv⟩

/-! ### slices -/
theorem eo_none : EvO z tNoPart σ H (· = none) := fun H1 e Q q => q none H1 e.dr rfl
theorem eo_some {i : Int} (h : Ev z te σ H (Is (.int i))) : EvO z (tPart te) σ H (· = some i) := fun H1 e Q q => h H1 e _ fun v H2 e2 f => ⟨i, f H2 .refl, q _ H2 e2 rfl⟩
theorem ev_sl {r : V → Option Int → Option Int → Hp → VK → Prop} {tl th : TO} {lo hi : Option Int} (h : Ev z te σ H φ) (h1 : EvO z tl σ H (· = lo)) (h2 : EvO z th σ H (· = hi)) (hr : ∀ x H1, z.R H H1 → φ x H1 → Rn z (r x lo hi H1) H1 χ) :
    Ev z (L2.tSl r te tl th) σ H χ := fun H1 e Q q => h H1 e _ fun v H2 e2 f => h1 H2 (e.tr e2) _ fun o1 H3 e3 p1 => h2 H3 ((e.tr e2).tr e3) _ fun o2 H4 e4 p2 => by
  subst p1
  subst p2
  exact hr v H4 (((e.tr e2).tr e3).tr e4) (f H4 (e3.tr e4).w) Q fun v H5 e5 fv => q v H5 (((e2.tr e3).tr e4).tr e5) fv

/-! ### statements -/
variable {D : Ends} {ts tw : TS} {g : TG}
theorem s_set {i : Nat} (hR : z.R H H) (h : Ev z te σ H φ) (k : ∀ v H1, z.R H H1 → (∀ H2, z.W H1 H2 → φ v H2) → D.nx (σ.set i (some v)) H1) : tAsg te (gName i) D σ H := h H hR _ fun v H1 e f => k v H1 e f
theorem s_ret (hR : z.R H H) (h : Ev z te σ H φ) (k : ∀ v H1, z.R H H1 → (∀ H2, z.W H1 H2 → φ v H2) → D.rt v H1) : tRet te D σ H := h H hR _ fun v H1 e f => k v H1 e f
theorem s_if {b : Bool} (hR : z.R H H) (h : EvT z t σ H (· = b)) (h1 : b = true → ∀ H1, z.R H H1 → ts D σ H1) (h2 : b = false → ∀ H1, z.R H H1 → tw D σ H1) : tIfS t ts tw D σ H := h H hR _ fun c H1 e p => by
  subst p
  cases c with
  | true => exact h1 rfl H1 e
  | false => exact h2 rfl H1 e
/-- if without else -/
theorem s_if0 {b : Bool} (hR : z.R H H) (h : EvT z t σ H (· = b)) (h1 : b = true → ∀ H1, z.R H H1 → ts D σ H1) (h2 : b = false → ∀ H1, z.R H H1 → D.nx σ H1) : tIfS t ts tNext D σ H := s_if hR h h1 h2
/-! .. with what stands behind them -/
variable {tu : TS}
theorem q_set {i : Nat} (hR : z.R H H) (h : Ev z te σ H φ) (k : ∀ v H1, z.R H H1 → (∀ H2, z.W H1 H2 → φ v H2) → tu D (σ.set i (some v)) H1) : tSeq (tAsg te (gName i)) tu D σ H := h H hR _ fun v H1 e f => k v H1 e f
theorem q_if {b : Bool} (hR : z.R H H) (h : EvT z t σ H (· = b)) (h1 : b = true → ∀ H1, z.R H H1 → ts { D with nx := tu D } σ H1) (h2 : b = false → ∀ H1, z.R H H1 → tu D σ H1) : tSeq (tIfS t ts tNext) tu D σ H := s_if (D := { D with nx := tu D }) hR h h1 h2
theorem q_par {i j : Nat} {ta : TA} {Φ : V → V → Hp → Prop} (hR : z.R H H) (h : EvA z ta σ H (fun vs H' => ∃ v w, vs = [v, w] ∧ Φ v w H')) (k : ∀ v w H1, z.R H H1 → (∀ H2, z.W H1 H2 → Φ v w H2) → tu D ((σ.set i (some v)).set j (some w)) H1) : tSeq (tPar i j ta) tu D σ H :=
  h H hR _ fun vs H1 e f => by
    obtain ⟨v, w, ev, _⟩ := f H1 .refl
    refine ⟨v, w, ev, k v w H1 e fun H2 w2 => ?_⟩
    obtain ⟨v', w', e', q⟩ := f H2 w2
    rw [ev] at e'
    cases e'
    exact q
end
end FB

set_option Elab.async false
set_option linter.all false
set_option maxRecDepth 100000
set_option maxHeartbeats 4000000
/-! FB, part d: what loops and comprehensions walk; comprehensions; built-ins. -/
namespace FB
open PySem PySem.Spec PyProof.Rows L2

/-- J walks n turns over things that stand still in the zone -/
structure Srcs (z : Zn) (J : It) (H : Hp) (n : Nat) (it : Nat → V → Prop) : Prop where
  go : ∀ i H', z.W H H' → i < n → J.go i H'
  stop : ∀ H', z.W H H' → J.stop n H'
  yld : ∀ i H' x H'', z.W H H' → i < n → J.yld i H' x H'' → H'' = H' ∧ it i x
def EvI (z : Zn) (wi : TI) (σ : L2.St) (H : Hp) (P : Nat → Prop) (it : Nat → V → Prop) : Prop :=
  ∀ H1, z.R H H1 → ∀ R' : It → Hp → Prop, (∀ J H2 n, P n → z.R H1 H2 → Srcs z J H2 n it → R' J H2) → wi σ H1 R'
section
variable {z : Zn} {K : PySem.W.Frag} {σ : L2.St} {H : Hp} {te : TE} {ta : TA}
theorem ei_rangeP {P : Nat → Prop} (h : EvA z ta σ H (fun vs _ => ∃ n : Nat, vs = [.int (n : Int)] ∧ n ≤ 1000000 ∧ P n)) : EvI z (iRng1 ta) σ H P (fun i v => v = .int (i : Int)) := fun H1 e R' k =>
  h H1 e _ fun vs H2 e2 f => by
    obtain ⟨n, e3, hn, hP⟩ := f H2 .refl
    exact ⟨n, e3, by omega, by omega, k _ H2 _ hP e2 ⟨fun i _ _ hi => hi, fun _ _ => Nat.le_refl _, fun i H' x H'' _ _ y => ⟨y.1, by rw [y.2, Int.zero_add]⟩⟩⟩
theorem ei_range {n : Nat} (h : EvA z ta σ H (fun vs _ => vs = [.int (n : Int)])) (h0 : n ≤ 1000000) : EvI z (iRng1 ta) σ H (· = n) (fun i v => v = .int (i : Int)) := ei_rangeP (h.imp fun vs H' _ e => ⟨n, e, h0, rfl⟩)
theorem ei_str {x : Str} (h : Ev z te σ H (Is (.str x))) : EvI z (iStr te) σ H (· = x.cps.size) (fun i v => ∃ c, x.cps[i]? = some c ∧ v = .str ⟨#[c]⟩) := fun H1 e R' k =>
  h H1 e _ fun v H2 e2 f => ⟨x, f H2 .refl, k _ H2 _ rfl e2 ⟨fun i _ _ hi => hi, fun _ _ => Nat.le_refl _, fun i H' x H'' _ _ y => y⟩⟩
theorem srcs_lst {H : Hp} {a : Addr} {xs : List V} (nu : ¬ z.U a) (h : SqL K H a xs) : Srcs z (Itl K a) H xs.length (fun i v => xs[i]? = some v) := by
  have k : ∀ H', z.W H H' → SqL K H' a xs := fun H' w => by
    rcases h with (h | ⟨o, h⟩) | h
    · exact .inl (.inl (w a _ nu h))
    · exact .inl (.inr ⟨o, w a _ nu h⟩)
    · exact .inr h
  exact ⟨fun i H' w hi => ⟨xs, xs[i], k H' w, List.getElem?_eq_getElem hi⟩, fun H' w => ⟨xs, k H' w, Nat.le_refl _⟩, fun i H' x H'' w _ y => ⟨y.1, y.2 xs (k H' w)⟩⟩
theorem srcs_tup {H : Hp} {a : Addr} {xs : List V} (nu : ¬ z.U a) (h : H a = some (.tup xs)) : Srcs z (Itt K a) H xs.length (fun i v => xs[i]? = some v) := by
  have k : ∀ H', z.W H H' → SqT K H' a xs := fun H' w => .inl (.inl (w a _ nu h))
  exact ⟨fun i H' w hi => ⟨xs, xs[i], k H' w, List.getElem?_eq_getElem hi⟩, fun H' w => ⟨xs, k H' w, Nat.le_refl _⟩, fun i H' x H'' w _ y => ⟨y.1, y.2 xs (k H' w)⟩⟩
theorem ei_lst {xs : List V} (h : Ev z te σ H (Lst z fun ws _ => ws = xs)) : EvI z (iList K te) σ H (· = xs.length) (fun i v => xs[i]? = some v) := fun H1 e R' k =>
  h H1 e _ fun v H2 e2 f => by
    obtain ⟨p, ws, ev, nu, hp, ew⟩ := f H2 .refl
    subst ew
    exact ⟨p, ev, ⟨ws, .inl (.inl hp)⟩, k _ H2 _ rfl e2 (srcs_lst nu (.inl (.inl hp)))⟩
theorem ei_tup {xs : List V} (h : Ev z te σ H (Tup z fun ws _ => ws = xs)) : EvI z (iTup K te) σ H (· = xs.length) (fun i v => xs[i]? = some v) := fun H1 e R' k =>
  h H1 e _ fun v H2 e2 f => by
    obtain ⟨p, ws, ev, nu, hp, ew⟩ := f H2 .refl
    subst ew
    exact ⟨p, ev, ⟨ws, .inl (.inl hp)⟩, k _ H2 _ rfl e2 (srcs_tup nu hp)⟩

/-- [elt for x in source], each item's φ -/
theorem ev_lc {wi : TI} {j : Nat} {P : Nat → Prop} {vs : List Nat} {it : Nat → V → Prop} {φ : Nat → VP} (hs : EvI z wi σ H P it) (hn : ∀ n, P n → n ≤ 100000) (hv : ∀ x, wipe ((wipe σ vs).set j (some x)) vs = wipe σ vs)
    (hb : ∀ n i x D H1, P n → i < n → it i x → H D = none → z.R H H1 → (z.add D).R H1 H1 → Ev (z.add D) te ((wipe σ vs).set j (some x)) H1 (φ i)) :
    Ev z (tLc wi (gName j) tYes te vs) σ H (Lst z fun ws H' => P ws.length ∧ ∀ i w, ws[i]? = some w → φ i w H') := fun H1 e Q q => by
  refine hs H1 e _ fun J H2 n hP e2 S D hD => ?_
  have hn2 := hn n hP
  have hD0 : H D = none := (e.tr e2).back hD
  have nU : ¬ z.U D := e2.dr.nu hD
  have nI : z.I D = none := e2.dr.ni hD
  refine ⟨fun i m H' => i + m = n ∧ z.R H2 H' ∧ ∃ acc : List V, H' D = some (.lst acc) ∧ acc.length = i ∧ ∀ k w, acc[k]? = some w → ∀ H3, (z.add D).W H' H3 → φ k w H3,
    ⟨n, by omega, e2.dr.new hD, [], upd_same, rfl, fun k w h => by simp at h⟩, fun i m H' hW => ?_⟩
  obtain ⟨em, r, acc, hacc, hl, hφ⟩ := hW
  have w2 : z.W H2 H' := r.w
  by_cases hi : i < n
  · right
    refine ⟨S.go i H' w2 hi, fun H'' => z.R H2 H'' ∧ ∃ acc : List V, H'' D = some (.lst acc) ∧ acc.length = i + 1 ∧ ∀ k w, acc[k]? = some w → ∀ H3, (z.add D).W H'' H3 → φ k w H3,
      fun H'' h => ⟨m - 1, by omega, by omega, h⟩, fun x H'' hy => ?_⟩
    obtain ⟨rfl, hx⟩ := S.yld i H' x H'' w2 hi hy
    have rD : (z.add D).R H'' H'' := r.dr.up (by rw [hacc]; simp) (by rw [hacc]; simp)
    refine ⟨hv x, ?_⟩
    refine hb n i x D H'' hP hi hx hD0 ((e.tr e2).tr r) rD H'' rD _ fun y H4 e4 fy => ?_
    have h4D : H4 D = some (.lst acc) := e4.kp D _ nI hacc
    refine ⟨acc, h4D, Nat.lt_of_le_of_lt (show acc.length ≤ 100000 by omega) (by decide), (r.tr e4.dn).mut hD, acc ++ [y], upd_same, by rw [List.length_append, hl]; rfl, fun k w hk H3 w3 => ?_⟩
    have w45 : (z.add D).W H4 (upd H4 D (.lst (acc ++ [y]))) := fun a o na ha => by
      rw [upd_ne fun ea => na (Or.inr ea)]
      exact ha
    by_cases hk2 : k < acc.length
    · rw [List.getElem?_append_left hk2] at hk
      exact hφ k w hk H3 ((e4.w.tr w45).tr w3)
    · have ek : k = acc.length := by
        have h5 := (List.getElem?_eq_some_iff.mp hk).1
        rw [List.length_append, List.length_cons, List.length_nil] at h5
        omega
      subst ek
      rw [List.getElem?_append_right (Nat.le_refl _), Nat.sub_self] at hk
      have ey : y = w := Option.some.inj hk
      subst ey
      rw [hl]
      exact fy H3 (w45.tr w3)
  · left
    have ei : i = n := by omega
    subst ei
    exact ⟨S.stop H' w2, q _ H' (e2.tr r) fun H3 w3 => ⟨D, acc, rfl, nU, w3 D _ nU hacc, hl ▸ hP, fun k w hk => hφ k w hk H3 w3.dn⟩⟩

/-! ### lists of truths -/
theorem bl_of {α : Type} {xs : List α} {g : α → Bool} {ws : List V} (hl : ws.length = xs.length) (h : ∀ (i : Nat) w, ws[i]? = some w → ∃ x, xs[i]? = some x ∧ w = .bl (g x)) : ws = (xs.map g).map V.bl := by
  apply List.ext_getElem?
  intro i
  rw [List.getElem?_map, List.getElem?_map]
  cases e : ws[i]? with
  | none =>
    have := List.getElem?_eq_none_iff.mp e
    rw [List.getElem?_eq_none (by omega)]
    rfl
  | some w =>
    obtain ⟨x, hx, ew⟩ := h i w e
    rw [hx, ew]
    rfl
theorem ev_all {bs : List Bool} {te : TE} (h : Ev z te σ H (Lst z fun ws _ => ws = bs.map V.bl)) : Ev z (tCB (rAll K) (tCons te tNil)) σ H (Is (.bl (bs.all id))) := fun H1 e Q q =>
  h H1 e _ fun v H2 e2 f => by
    obtain ⟨p, ws, ev, nu, hp, ew⟩ := f H2 .refl
    exact ⟨p, bs, by rw [ev], .inl (.inl (by rw [hp, ew])), q _ H2 e2 fun _ _ => rfl⟩
/-- all([g(c) for c in text]) | all([g(v) for v in tuple]) -/
theorem ev_allS {x : Str} {j : Nat} {vs : List Nat} {ts : TE} {g : Nat → Bool} (h : Ev z ts σ H (Is (.str x))) (hn : x.length ≤ 100000) (hv : ∀ v, wipe ((wipe σ vs).set j (some v)) vs = wipe σ vs)
    (hb : ∀ (c : Nat) (D : Addr) H1, c ∈ x.cps.toList → (z.add D).R H1 H1 → Ev (z.add D) te ((wipe σ vs).set j (some (.str ⟨#[c]⟩))) H1 (Is (.bl (g c)))) :
    Ev z (tCB (rAll K) (tCons (tLc (iStr ts) (gName j) tYes te vs) tNil)) σ H (Is (.bl (x.cps.toList.all g))) := by
  have hl := ev_lc (φ := fun i w _ => ∃ c, x.cps.toList[i]? = some c ∧ w = .bl (g c)) (ei_str h) (fun n e => by rw [e]; exact hn) hv fun n i v D H1 _ hi hx hD r rD => by
    obtain ⟨c, hc, rfl⟩ := hx
    have hc2 : x.cps.toList[i]? = some c := by rw [Array.getElem?_toList]; exact hc
    exact (hb c D H1 (List.mem_of_getElem? hc2) rD).imp fun v H' _ e => ⟨c, hc2, e⟩
  refine ev_to (ev_all (bs := x.cps.toList.map g) (hl.imp fun v H' _ ⟨p, ws, e1, e2, e3, e4, e5⟩ => ⟨p, ws, e1, e2, e3, bl_of (by rw [e4]; rfl) e5⟩)) ?_
  rw [List.all_map]
  rfl
theorem ev_allT {xs : List V} {j : Nat} {vs : List Nat} {ts : TE} {g : V → Bool} (h : Ev z ts σ H (Tup z fun ws _ => ws = xs)) (hn : xs.length ≤ 100000) (hv : ∀ v, wipe ((wipe σ vs).set j (some v)) vs = wipe σ vs)
    (hb : ∀ (v : V) (D : Addr) H1, v ∈ xs → H D = none → z.R H H1 → (z.add D).R H1 H1 → Ev (z.add D) te ((wipe σ vs).set j (some v)) H1 (Is (.bl (g v)))) :
    Ev z (tCB (rAll K) (tCons (tLc (iTup K ts) (gName j) tYes te vs) tNil)) σ H (Is (.bl (xs.all g))) := by
  have hl := ev_lc (φ := fun i w _ => ∃ c, xs[i]? = some c ∧ w = .bl (g c)) (ei_tup (K := K) h) (fun n e => by rw [e]; exact hn) hv fun n i v D H1 _ hi hx hD r rD =>
    (hb v D H1 (List.mem_of_getElem? hx) hD r rD).imp fun w H' _ e => ⟨v, hx, e⟩
  refine ev_to (ev_all (bs := xs.map g) (hl.imp fun v H' _ ⟨p, ws, e1, e2, e3, e4, e5⟩ => ⟨p, ws, e1, e2, e3, bl_of e4 e5⟩)) ?_
  rw [List.all_map]
  rfl
theorem ev_allL {xs : List V} {j : Nat} {vs : List Nat} {ts : TE} {g : V → Bool} (h : Ev z ts σ H (Lst z fun ws _ => ws = xs)) (hn : xs.length ≤ 100000) (hv : ∀ v, wipe ((wipe σ vs).set j (some v)) vs = wipe σ vs)
    (hb : ∀ (v : V) (D : Addr) H1, v ∈ xs → H D = none → z.R H H1 → (z.add D).R H1 H1 → Ev (z.add D) te ((wipe σ vs).set j (some v)) H1 (Is (.bl (g v)))) :
    Ev z (tCB (rAll K) (tCons (tLc (iList K ts) (gName j) tYes te vs) tNil)) σ H (Is (.bl (xs.all g))) := by
  have hl := ev_lc (φ := fun i w _ => ∃ c, xs[i]? = some c ∧ w = .bl (g c)) (ei_lst (K := K) h) (fun n e => by rw [e]; exact hn) hv fun n i v D H1 _ hi hx hD r rD =>
    (hb v D H1 (List.mem_of_getElem? hx) hD r rD).imp fun w H' _ e => ⟨v, hx, e⟩
  refine ev_to (ev_all (bs := xs.map g) (hl.imp fun v H' _ ⟨p, ws, e1, e2, e3, e4, e5⟩ => ⟨p, ws, e1, e2, e3, bl_of e4 e5⟩)) ?_
  rw [List.all_map]
  rfl

/-! ### texts -/
theorem ev_join {ts tl : TE} {s : Str} {P : List Str → Prop} (h1 : Ev z ts σ H (Is (.str s))) (h2 : Ev z tl σ H (Lst z fun ws _ => ∃ ys : List Str, ws = ys.map V.str ∧ P ys)) (hz : ∀ ys, P ys → (ys.map (·.length)).sum + ys.length * s.length ≤ 16777216) :
    Ev z (tM1 (fun x xs H Q => ∃ a p, ∃ ys : List Str, x = .str a ∧ xs = [.ref p] ∧ (SqL K H p (ys.map V.str) ∨ SqT K H p (ys.map V.str)) ∧ (ys.map (·.length)).sum + ys.length * a.length ≤ 16777216 ∧ Q (.str (Txt.join a ys)) H) ts tl) σ H
      (fun v _ => ∃ ys, P ys ∧ v = .str (Txt.join s ys)) := fun H1 e Q q =>
  h1 H1 e _ fun v H2 e2 f => ⟨⟨s, f H2 .refl⟩, h2 H2 (e.tr e2) _ fun y H3 e3 g => by
    obtain ⟨p, ws, ev, nu, hp, ys, ew, py⟩ := g H3 .refl
    exact ⟨s, p, ys, f H3 e3.w, by rw [ev], .inl (.inl (.inl (by rw [hp, ew]))), hz ys py, q _ H3 (e2.tr e3) fun _ _ => ⟨ys, py, rfl⟩⟩⟩
theorem ev_addS {ta tb : TE} {x y : Str} (ha : Ev z ta σ H (Is (.str x))) (hb : Ev z tb σ H (Is (.str y))) (hl : x.length + y.length ≤ 100000) :
    Ev z (tOp (fun x y H Q => ∃ i j, x = .str i ∧ y = .str j ∧ i.length + j.length ≤ sizeLine ∧ Q (.str (i ++ j)) H) ta tb) σ H (Is (.str (x ++ y))) :=
  ev_op2 ha hb fun H1 r => rn_val r.dr (fun Q q => ⟨x, y, rfl, rfl, Nat.le_trans hl (by decide), q⟩) fun _ _ => rfl
theorem ev_slS {tx : TE} {tl th : TO} {x : Str} {lo hi : Option Int} (h : Ev z tx σ H (Is (.str x))) (h1 : EvO z tl σ H (· = lo)) (h2 : EvO z th σ H (· = hi)) (hl : x.length ≤ 100000) : Ev z (L2.tSl rSlS tx tl th) σ H (Is (.str (cutS x lo hi))) :=
  ev_sl h h1 h2 fun v H1 r e => rn_val r.dr (fun Q q => ⟨x, e, Nat.le_trans hl (by decide), q⟩) fun _ _ => rfl
theorem ev_inC {ta tb : TE} {c : Nat} {y : Str} (ha : Ev z ta σ H (Is (.str ⟨#[c]⟩))) (hb : Ev z tb σ H (Is (.str y))) :
    Ev z (tOp (fun x y H Q => ∃ (c : Nat) (z : Str), x = .str ⟨#[c]⟩ ∧ y = .str z ∧ Q (.bl (decide (c ∈ z.cps.toList))) H) ta tb) σ H (Is (.bl (decide (c ∈ y.cps.toList)))) :=
  ev_op2 ha hb fun H1 r => rn_val r.dr (fun Q q => ⟨c, y, rfl, rfl, q⟩) fun _ _ => rfl
theorem ev_ixS {ta tb : TE} {x : Str} {i : Nat} {c : Nat} (ha : Ev z ta σ H (Is (.str x))) (hb : Ev z tb σ H (Is (.int (i : Int)))) (hl : x.length ≤ 100000) (hc : x.cps.toList[i]? = some c) : Ev z (tOp rIxS ta tb) σ H (Is (.str ⟨#[c]⟩)) :=
  ev_op2 ha hb fun H1 r => rn_val r.dr (fun Q q => ⟨x, i, c, rfl, rfl, Nat.le_trans hl (by decide), atI_nat hc, q⟩) fun _ _ => rfl

/-! ### lengths, isinstance -/
theorem ev_lenS {te : TE} {x : Str} (h : Ev z te σ H (Is (.str x))) (hl : x.length ≤ 100000) : Ev z (tCB (fun xs H Q => ∃ y n, xs = [y] ∧ LenV K y H n ∧ Q (.int n) H) (tCons te tNil)) σ H (Is (.int (x.length : Int))) := fun H1 e Q q =>
  h H1 e _ fun v H2 e2 f => ⟨.str x, x.length, by rw [show v = .str x from f H2 .refl], ⟨Nat.le_trans hl (by decide), rfl⟩, q _ H2 e2 fun _ _ => rfl⟩
theorem ev_lenT {te : TE} {xs : List V} (h : Ev z te σ H (Tup z fun ws _ => ws = xs)) : Ev z (tCB (fun xs H Q => ∃ y n, xs = [y] ∧ LenV K y H n ∧ Q (.int n) H) (tCons te tNil)) σ H (Is (.int (xs.length : Int))) := fun H1 e Q q =>
  h H1 e _ fun v H2 e2 f => by
    obtain ⟨p, ws, ev, nu, hp, ew⟩ := f H2 .refl
    subst ew
    exact ⟨v, ws.length, rfl, by rw [ev]; exact Or.inr ⟨ws, .inl (.inl hp), rfl⟩, q _ H2 e2 fun _ _ => rfl⟩
/-- the built-in type of data -/
def tyD : PyData → String
  | .none => "NoneType"
  | .bool _ => "bool"
  | .int _ => "int"
  | .str _ => "str"
  | .list _ => "list"
  | .tuple _ => "tuple"
  | .dict _ => "dict"
theorem DU.ty {U : Addr → Prop} {v : V} {d : PyData} (h : DU U H v d) : TyX K H v (.type (tyD d)) := by
  cases h with
  | non => exact .base .non
  | bl b => exact .base (.bl b)
  | int i => exact .base (.int i)
  | str x => exact .base (.str x)
  | lst n e t => exact .base (.lst e)
  | tup n e t => exact .base (.tup e)
  | dct n e t => exact .base (.dK e)
theorem ev_isi {te : TE} {d : PyData} {T : String} {b : Bool} (h : Ev z te σ H (Dd z d)) (hk : kitB (tyD d) T = some b) : Ev z (tCB (rIsi K) (tCons te (tCons (tC (.ty T)) tNil))) σ H (Is (.bl b)) := fun H1 e Q q =>
  h H1 e _ fun v H2 e2 f => ⟨v, .ty T, _, _, b, rfl, .ty T, (f H2 .refl).ty, kit_ty hk, q _ H2 e2 fun _ _ => rfl⟩
end
section
variable {z : Zn} {K : PySem.W.Frag} {σ : L2.St} {H : Hp} {te : TE} {ta tb : TE} {D : Ends} {ts : TS} {j : Nat}
/-- for x in a list just made, or in one that a name holds -/
theorem s_forL {Φ : List V → Hp → Prop} (hR : z.R H H) (h : Ev z te σ H (Lst z Φ)) (main : ∀ ws H1, z.R H H1 → (∀ H2, z.W H1 H2 → Φ ws H2) → ∃ Pv : Nat → L2.St → Hp → Prop, Pv 0 σ H1 ∧ (∀ i σ' H', Pv i σ' H' → z.W H1 H') ∧
      (∀ i x σ' H', ws[i]? = some x → Pv i σ' H' → ts { D with nx := Pv (i + 1), ct := Pv (i + 1), bk := D.nx } (σ'.set j (some x)) H') ∧ ∀ σ' H', Pv ws.length σ' H' → D.nx σ' H') : tFor (iList K te) (gName j) ts D σ H :=
  h H hR _ fun v H1 e f => by
    obtain ⟨p, ws, ev, nu, hp, fw⟩ := f H1 .refl
    have hΦ : ∀ H2, z.W H1 H2 → Φ ws H2 := fun H2 w => by
      obtain ⟨p', ws', ev', _, hp', fw'⟩ := f H2 w
      rw [ev] at ev'
      cases ev'
      rw [w p _ nu hp] at hp'
      cases hp'
      exact fw'
    obtain ⟨Pv, p0, pw, ps, pd⟩ := main ws H1 e hΦ
    refine ⟨p, ev, ⟨ws, .inl (.inl hp)⟩, for_list (K := K) (a := p) (xs := ws) Pv p0 (fun i σ' H' _ q => .inl (.inl (pw i σ' H' q p _ nu hp))) (fun i x σ' H' hx q => ps i x σ' H' hx q) pd⟩
theorem q_forL {tu : TS} {Φ : List V → Hp → Prop} (hR : z.R H H) (h : Ev z te σ H (Lst z Φ)) (main : ∀ ws H1, z.R H H1 → (∀ H2, z.W H1 H2 → Φ ws H2) → ∃ Pv : Nat → L2.St → Hp → Prop, Pv 0 σ H1 ∧ (∀ i σ' H', Pv i σ' H' → z.W H1 H') ∧
      (∀ i x σ' H', ws[i]? = some x → Pv i σ' H' → ts { D with nx := Pv (i + 1), ct := Pv (i + 1), bk := tu D } (σ'.set j (some x)) H') ∧ ∀ σ' H', Pv ws.length σ' H' → tu D σ' H') : tSeq (tFor (iList K te) (gName j) ts) tu D σ H := s_forL (D := { D with nx := tu D }) hR h main
/-- for i in range(n) -/
theorem s_forR {tn : TA} {n : Int} (hR : z.R H H) (h : EvA z tn σ H (fun vs _ => vs = [.int n])) (hn : -1000000 ≤ n ∧ n ≤ 1000000) (Pv : Nat → L2.St → Hp → Prop) (h0 : ∀ H1, z.R H H1 → Pv 0 σ H1)
    (hs : ∀ (i : Nat) σ' H', (i : Int) < n → Pv i σ' H' → ts { D with nx := Pv (i + 1), ct := Pv (i + 1), bk := D.nx } (σ'.set j (some (.int (i : Int)))) H') (hd : ∀ σ' H', Pv n.toNat σ' H' → D.nx σ' H') : tFor (iRng1 tn) (gName j) ts D σ H :=
  h H hR _ fun vs H1 e f => ⟨n, f H1 .refl, by omega, by omega, for_range (lo := 0) (n := n.toNat) Pv (h0 H1 e) (fun i σ' H' hi q => by
    show ts _ (σ'.set j (some (.int (0 + (i : Int))))) H'
    rw [Int.zero_add]
    exact hs i σ' H' (by omega) q) hd⟩
theorem q_forR {tu : TS} {tn : TA} {n : Int} (hR : z.R H H) (h : EvA z tn σ H (fun vs _ => vs = [.int n])) (hn : -1000000 ≤ n ∧ n ≤ 1000000) (Pv : Nat → L2.St → Hp → Prop) (h0 : ∀ H1, z.R H H1 → Pv 0 σ H1)
    (hs : ∀ (i : Nat) σ' H', (i : Int) < n → Pv i σ' H' → ts { D with nx := Pv (i + 1), ct := Pv (i + 1), bk := tu D } (σ'.set j (some (.int (i : Int)))) H') (hd : ∀ σ' H', Pv n.toNat σ' H' → tu D σ' H') : tSeq (tFor (iRng1 tn) (gName j) ts) tu D σ H := s_forR (D := { D with nx := tu D }) hR h hn Pv h0 hs hd
/-! lists of truths compared -/
theorem dp_bls {p : Addr} {bs : List Bool} (h : H p = some (.lst (bs.map V.bl))) : Dp K H (.ref p) (.list (bs.map PyData.bool)) := by
  refine .lst (.inl (.inl h)) ?_
  clear h
  induction bs with
  | nil => exact .nil
  | cons b r ih => exact .cons (.bl b) ih
theorem ev_neBls {as bs : List Bool} (ha : Ev z ta σ H (Lst z fun ws _ => ws = as.map V.bl)) (hb : Ev z tb σ H (Lst z fun ws _ => ws = bs.map V.bl)) (s1 : SeqAt.shaped (.list (as.map PyData.bool)) = true) (s2 : SeqAt.shaped (.list (bs.map PyData.bool)) = true) :
    Ev z (tOp (rNeD K) ta tb) σ H (Is (.bl (!PyData.eqv (.list (as.map PyData.bool)) (.list (bs.map PyData.bool))))) :=
  ev_op ha (fun _ H1 r _ => hb.up r) fun x y H1 r ⟨p, ws, e1, _, h1, e2⟩ ⟨q, vs, e3, _, h3, e4⟩ => by
    subst e2
    subst e4
    subst e1
    subst e3
    exact rn_val r.dr (fun Q k => ⟨_, _, dp_bls h1, dp_bls h3, s1, s2, k⟩) fun _ _ => rfl
theorem ev_repr {d : PyData} (h : Ev z te σ H (Dd z d)) (sm : Sm d) : Ev z (tCB rRepr (tCons te tNil)) σ H (Is (.str d.shown)) :=
  ev_cb (ea_cons h fun v H1 r _ => ea_nil) fun vs H1 r ⟨v, rr, e, hv, er⟩ => by
    subst er
    subst e
    exact rn_val r.dr (fun Q k => ⟨z.U, v, d, rfl, hv, sm, k⟩) fun _ _ => rfl
end
end FB

set_option Elab.async false
set_option linter.all false
set_option maxRecDepth 100000
set_option maxHeartbeats 4000000
/-! FB, part e: defs of a text at hand; words. -/
namespace FB
open PySem PySem.Spec PyProof.Rows L2

/-- a def of the top, where it stands -/
structure Df (K : PySem.W.Frag) (mg : Str → Option Value) (x : Str) (st : Stmt) (ps : List Str) where
  f : Addr
  fd : FuncData
  F : Fun K x x st f fd
  g : mg x = some (.ref f)
  b : Binds K fd ps []

/-- no exception leaves such a def -/
theorem fng_ok {P : Program} {w : World} {K : PySem.W.Frag} {mg : Str → Option Value} {base : Heap} {k : Nat} {x qual : Str} {st : Stmt} {f : Addr} {fd : FuncData} {N ps : List Str} {sp : Sp} (F : Fun K x qual st f fd) (S : FnScope N ps (defScope st))
    (ln : ∀ vs H Q E, sp vs H Q E → vs.length = ps.length)
    (hb : ∀ (cdv : Value) (A : Around) (outer : List Env) (s : Shared) (H : Hp) (vs : List V) (Q : VK) (E : XK), A.guards = some [] → Room k (A.deeper (envOfC qual (defScope st) s.heap.objs.size f cdv)) → sp vs H Q E →
      ∃ t, PSs (cxOf CX0 P w K mg base N qual (defScope st) f cdv A outer s H E).nox (defBody st) t ∧ t { nx := fun _ H' => Q .non H', rt := Q } (start N vs) H) : FnG P w K mg base CX0 (k + 1) f fd ps sp :=
  fng_of F S ln fun cdv A outer s H vs Q E hg hr h => let ⟨t, a, b⟩ := hb cdv A outer s H vs Q E hg hr h; ⟨t, a.nox, b⟩

/-! ### kinds of data -/
def isStrD : PyData → Bool
  | .str _ => true
  | _ => false
def isTupD : PyData → Bool
  | .tuple _ => true
  | _ => false
def isBlD : PyData → Bool
  | .bool _ => true
  | _ => false
theorem kit_str (d : PyData) : kitB (tyD d) "str" = some (isStrD d) := by
  cases d <;> (simp only [tyD, isStrD]; decide +kernel)
theorem kit_tup (d : PyData) : kitB (tyD d) "tuple" = some (isTupD d) := by
  cases d <;> (simp only [tyD, isTupD]; decide +kernel)
theorem kit_bool (d : PyData) : kitB (tyD d) "bool" = some (isBlD d) := by
  cases d <;> (simp only [tyD, isBlD]; decide +kernel)

/-! ### words -/
def low (c : Nat) : Bool := decide (97 ≤ c) && decide (c ≤ 122)
def isW (x : Str) : Bool := decide (1 ≤ x.length) && decide (x.length ≤ 8) && x.cps.toList.all low
def isWordD : PyData → Bool
  | .str x => isW x
  | _ => false
def isPathD : PyData → Bool
  | .tuple ds => decide (ds.length ≤ 6) && ds.all isWordD
  | _ => false
/-- texts not too long -/
def Sl (d : PyData) : Prop := ∀ x, d = .str x → x.length ≤ 1000
def Tl (d : PyData) : Prop := ∀ ds, d = .tuple ds → ds.length ≤ 1000 ∧ ∀ e ∈ ds, Sl e
theorem one_lt (a b : Nat) : (([a] : List Nat) < [b]) ↔ a < b := by
  rw [List.cons_lt_cons_iff]
  constructor
  · intro h
    rcases h with h | ⟨_, h⟩
    · exact h
    · cases h
  · exact fun h => Or.inl h
theorem le_a (c : Nat) : (!decide (([c] : List Nat) < [97])) = decide (97 ≤ c) := by
  by_cases h : 97 ≤ c
  · rw [decide_eq_true h, decide_eq_false (fun q => by have := (one_lt _ _).mp q; omega)]
    rfl
  · rw [decide_eq_false h, decide_eq_true ((one_lt _ _).mpr (by omega))]
    rfl
theorem le_z (c : Nat) : (!decide (([122] : List Nat) < [c])) = decide (c ≤ 122) := by
  by_cases h : c ≤ 122
  · rw [decide_eq_true h, decide_eq_false (fun q => by have := (one_lt _ _).mp q; omega)]
    rfl
  · rw [decide_eq_false h, decide_eq_true ((one_lt _ _).mpr (by omega))]
    rfl
section
variable {z : Zn} {K : PySem.W.Frag} {σ : L2.St} {H : Hp} {ta tb : TE}
theorem ev_leS {x y : Str} (ha : Ev z ta σ H (Is (.str x))) (hb : Ev z tb σ H (Is (.str y))) :
    Ev z (tOp (fun x y H Q => ∃ i j, x = .str i ∧ y = .str j ∧ Q (.bl (!decide (j.cps.toList < i.cps.toList))) H) ta tb) σ H (Is (.bl (!decide (y.cps.toList < x.cps.toList)))) :=
  ev_op2 ha hb fun H1 r => rn_val r.dr (fun Q q => ⟨x, y, rfl, rfl, q⟩) fun _ _ => rfl
theorem rn_leS {x y : Str} (hR : z.R H H) : Rn z ((fun x y H Q => ∃ i j, x = V.str i ∧ y = V.str j ∧ Q (.bl (!decide (j.cps.toList < i.cps.toList))) H : R2) (.str x) (.str y) H) H (Is (.bl (!decide (y.cps.toList < x.cps.toList)))) :=
  rn_val hR (fun Q q => ⟨x, y, rfl, rfl, q⟩) fun _ _ => rfl
theorem rn_i0 {g : Int → Int → V} {i j : Int} (hR : z.R H H) : Rn z (rI0 g (.int i) (.int j) H) H (Is (g i j)) := rn_val hR (fun Q q => ⟨i, j, rfl, rfl, q⟩) fun _ _ => rfl
end
/-- the promise of a look at a thing: f tells it -/
def spLook (ok : PyData → Prop) (f : PyData → Bool) : Sp := fun vs H Q _ => ∃ (z : Zn) (v : V) (d : PyData), vs = [v] ∧ z.R H H ∧ DU z.U H v d ∧ ok d ∧ ∀ H', z.R H H' → Q (.bl (f d)) H'
theorem spLook_len {ok : PyData → Prop} {f : PyData → Bool} : ∀ vs H Q E, spLook ok f vs H Q E → vs.length = 1 := fun vs H Q E ⟨_, _, _, e, _⟩ => by rw [e]; rfl
def isWordV : V → Bool
  | .str x => isW x
  | _ => false
theorem DU.wordV {U : Addr → Prop} {H : Hp} {v : V} {d : PyData} (h : DU U H v d) : isWordV v = isWordD d := by
  cases h <;> rfl
theorem DU.tupAt {U : Addr → Prop} {H : Hp} {v : V} {ds : List PyData} (h : DU U H v (.tuple ds)) : ∃ a vs, v = .ref a ∧ ¬ U a ∧ H a = some (.tup vs) ∧ DUA U H vs ds := by
  cases h with
  | tup n e t => exact ⟨_, _, rfl, n, e, t⟩
/-- a test of each part, told by the data -/
theorem all_of {U : Addr → Prop} {H : Hp} (g : V → Bool) (f : PyData → Bool) (k : ∀ v d, DU U H v d → g v = f d) : ∀ {vs : List V} {ds : List PyData}, DUA U H vs ds → vs.all g = ds.all f
  | _, _, .nil => rfl
  | _, _, .cons h t => by rw [List.all_cons, List.all_cons, k _ _ h, all_of g f k t]
theorem DUA.mem {U : Addr → Prop} {H : Hp} : ∀ {vs : List V} {ds : List PyData} {v : V}, DUA U H vs ds → v ∈ vs → ∃ d, d ∈ ds ∧ DU U H v d
  | _, _, _, .nil, h => by cases h
  | _, _, v, .cons h t, m => by
    rcases List.mem_cons.mp m with e | m
    · exact ⟨_, List.mem_cons_self, e ▸ h⟩
    · obtain ⟨d, hd, q⟩ := t.mem m
      exact ⟨d, List.mem_cons_of_mem _ hd, q⟩
section
variable {z : Zn} {K : PySem.W.Frag} {σ : L2.St} {H : Hp} {te : TE}
theorem ev_tupv {a : Addr} {vs : List V} {i : Nat} (e : σ[i]? = some (some (.ref a))) (n : ¬ z.U a) (h : H a = some (.tup vs)) : Ev z (tVar i) σ H (Tup z fun ws _ => ws = vs) :=
  ev_var e fun H' w => ⟨a, vs, rfl, n, w a _ n h, rfl⟩
theorem ev_look {ok : PyData → Prop} {f : PyData → Bool} {d : PyData} {E : XK} (h : Ev z te σ H (Dd z d)) (hok : ok d) : Ev z (tCall (spLook ok f) [] E (tCons te tNil)) σ H (Is (.bl (f d))) :=
  ev_call (ea_cons h fun v H1 r _ => ea_nil) fun vs H1 r ⟨v, rr, e, hv, er⟩ Q q => ⟨z, v, d, by rw [e, er]; rfl, r.dr, hv, hok, fun H' r' => q _ H' r' fun _ _ => rfl⟩
theorem ev_lookK {ok : PyData → Prop} {f : PyData → Bool} {d : PyData} {E : XK} (h : Ev z te σ H (Dd z d)) (hok : ok d) : Ev z (tCallN 0 1 (spLook ok f) (fun _ zs => zs) E tNil (tCons te tNil)) σ H (Is (.bl (f d))) :=
  ev_callN ea_nil (fun vs H1 r _ => ea_cons (h.up r) fun v H1 r _ => ea_nil) fun vs zs H1 r e0 ⟨v, rr, e, hv, er⟩ => by
    subst e0
    subst er
    subst e
    exact ⟨rfl, rfl, fun Q q => ⟨z, v, d, rfl, r.dr, hv, hok, fun H' r' => q _ H' r' fun _ _ => rfl⟩⟩
end
/-- f(x = ..), one parameter -/
theorem Df.kb1 {K : PySem.W.Frag} {mg : Str → Option Value} {x p : Str} {st : Stmt} (d : Df K mg x st [p]) (h : ∀ (kV doc pm : Value) (an : Option Addr) (cdv ct v : Value), bindArgs (PySem.W.fnOf x x (defArgs st) (defBody st) (defScope st) .none kV doc pm an cdv ct) ⟨[], [(p, v)]⟩ = pure [(p, v)]) :
    KBn K d.fd [p] 0 [p] (fun _ ws => ws) (fun _ zs => zs) := by
  obtain ⟨oc, od, kV, doc, pm, an, cdv, ct, osl, hfd, lk, hcd⟩ := d.F.ex
  refine ⟨fun s us ws _ h1 h2 => ?_, fun _ r => r⟩
  match us, ws, h1, h2 with
  | [], [v], _, _ =>
    rw [hfd]
    exact .of_eq (h kV doc pm an cdv ct v)
theorem az_list : ("abcdefghijklmnopqrstuvwxyz" : Str).cps.toList = (List.range 26).map (97 + ·) := by decide +kernel
theorem low_in (c : Nat) : low c = decide (c ∈ ("abcdefghijklmnopqrstuvwxyz" : Str).cps.toList) := by
  rw [az_list]
  unfold low
  by_cases h : 97 ≤ c ∧ c ≤ 122
  · rw [decide_eq_true h.1, decide_eq_true h.2, decide_eq_true (List.mem_map.mpr ⟨c - 97, List.mem_range.mpr (by omega), by omega⟩)]
    rfl
  · rw [decide_eq_false (p := c ∈ _) fun q => h (by
      obtain ⟨i, hi, e⟩ := List.mem_map.mp q
      have := List.mem_range.mp hi
      omega)]
    by_cases h1 : 97 ≤ c
    · rw [decide_eq_true h1, decide_eq_false fun h2 => h ⟨h1, h2⟩]
      rfl
    · rw [decide_eq_false h1]
      rfl
end FB

set_option Elab.async false
set_option linter.all false
set_option maxRecDepth 100000
set_option maxHeartbeats 4000000
/-! FB, part k: the layer's rules with the written part named, so that they stand within a comprehension's block too. -/
namespace FB
open PySem PySem.Spec PyProof.Rows L2
section
variable {X : Cx} {K : PySem.W.Frag}
theorem k_isi (h : X.K = K := by rfl) : CallR X (.builtin "isinstance") (rIsi K) := h ▸ call_isi
theorem k_len (h : X.K = K := by rfl) : CallR X (.builtin "len") (fun xs H Q => ∃ y n, xs = [y] ∧ LenV K y H n ∧ Q (.int n) H) := h ▸ call_len
theorem k_all (hc : X.calm = true := by rfl) (h : X.K = K := by rfl) : CallR X (.builtin "all") (rAll K) := h ▸ cr_all hc
theorem k_any (hc : X.calm = true := by rfl) (h : X.K = K := by rfl) : CallR X (.builtin "any") (rAny K) := h ▸ cr_any hc
theorem k_sortedS (h : X.K = K := by rfl) : CallR X (.builtin "sorted") (rSortedS K) := h ▸ cr_sortedS
theorem k_tuple (h : X.K = K := by rfl) : CallR X (.type "tuple") (fun xs H Q => ∃ p ys, xs = [.ref p] ∧ ((SqL K H p ys ∧ ∀ l, H l = none → Q (.ref l) (upd H l (.tup ys))) ∨ (SqT K H p ys ∧ Q (.ref p) H))) := h ▸ call_tuple_of
theorem k_list (h : X.K = K := by rfl) : CallR X (.type "list") (fun xs H Q => ∃ p ys, xs = [.ref p] ∧ (SqL K H p ys ∨ SqT K H p ys) ∧ ∀ l, H l = none → Q (.ref l) (upd H l (.lst ys))) := h ▸ call_list_of
theorem k_ixl (h : X.K = K := by rfl) : IxR X (rIxL K) := h ▸ ix_list
theorem k_ixt (h : X.K = K := by rfl) : IxR X (rIxT K) := h ▸ ix_tup
theorem k_sll (h : X.K = K := by rfl) : SlR X (rSlL K) := h ▸ sl_list
theorem k_slt (h : X.K = K := by rfl) : SlR X (rSlA K) := h ▸ sl_tupA
theorem k_catA (h : X.K = K := by rfl) : OpR X (binaryOp .Add) (rCatA K) := h ▸ op_catA
theorem k_repT (h : X.K = K := by rfl) : OpR X (binaryOp .Mult) (rRepT K) := h ▸ op_repT
theorem k_in (h : X.K = K := by rfl) : OpR X (compareOp .In) (rIn K false) := h ▸ op_in_seq
theorem k_notIn (h : X.K = K := by rfl) : OpR X (compareOp .NotIn) (rIn K true) := h ▸ op_notIn_seq
theorem k_eqD (hu : X.A.units + 64 < cLine) (h : X.K = K := by rfl) : OpR X (compareOp .Eq) (rEqD K) := h ▸ op_eqD hu
theorem k_neD (hu : X.A.units + 64 < cLine) (h : X.K = K := by rfl) : OpR X (compareOp .NotEq) (rNeD K) := h ▸ op_neD hu
variable {tg l : Expr} {tl : TE}
theorem k_pil (hl : PI X tg l (iList X.K tl)) (h : X.K = K := by rfl) : PI X tg l (iList K tl) := h ▸ hl
theorem k_pit (hl : PI X tg l (iTup X.K tl)) (h : X.K = K := by rfl) : PI X tg l (iTup K tl) := h ▸ hl
end
/-! is True, is not False: of a value of any kind -/
def rIsB2 : R2 := fun x y H Q => ∃ b : Bool, y = .bl b ∧ Q (.bl (decide (x = .bl b))) H
def rNotB2 : R2 := fun x y H Q => ∃ b : Bool, y = .bl b ∧ Q (.bl (!decide (x = .bl b))) H
theorem plain_bl {x : V} {v : Value} (b : Bool) (r : RelV x v) : plainIs v (.bool b) = true := by
  cases x <;> first
    | (cases r; rfl)
    | (obtain ⟨t, rfl⟩ := r; rfl)
theorem not_bl {x : V} {v : Value} {b : Bool} (r : RelV x v) (h : x ≠ .bl b) : v ≠ .bool b := fun e => by
  subst e
  cases x <;> first
    | (cases r; exact h rfl)
    | (obtain ⟨t, h⟩ := r; cases h)
    | (cases r)
theorem op_isB2 {X : Cx} : OpR X (compareOp .Is) rIsB2 := by
  intro pins s σ H x y v u Q I rx ry h
  obtain ⟨b, rfl, q⟩ := h
  cases (show u = Value.bool b from ry)
  by_cases e : x = .bl b
  · subst e
    cases (show v = Value.bool b from rx)
    exact wpAny_is_self rfl ⟨.bl true, H, I, rfl, by simpa using q⟩
  · exact wpAny_is_other (plain_bl b rx) (not_bl rx e) ⟨.bl false, H, I, rfl, by simpa [e] using q⟩
theorem op_notB2 {X : Cx} : OpR X (compareOp .IsNot) rNotB2 := by
  intro pins s σ H x y v u Q I rx ry h
  obtain ⟨b, rfl, q⟩ := h
  cases (show u = Value.bool b from ry)
  by_cases e : x = .bl b
  · subst e
    cases (show v = Value.bool b from rx)
    exact wpAny_isNot_self rfl ⟨.bl false, H, I, rfl, by simpa using q⟩
  · exact wpAny_isNot_other (plain_bl b rx) (not_bl rx e) ⟨.bl true, H, I, rfl, by simpa [e] using q⟩
section
variable {z : Zn} {σ : L2.St} {H : Hp} {ta : TE}
theorem ev_isB2 {x : V} {b : Bool} (h : Ev z ta σ H (Is x)) : Ev z (tOp rIsB2 ta (tC (.bl b))) σ H (Is (.bl (decide (x = .bl b)))) :=
  ev_op2 h ev_k fun H1 r => rn_val r.dr (fun Q q => ⟨b, rfl, q⟩) fun _ _ => rfl
theorem ev_notB2 {x : V} {b : Bool} (h : Ev z ta σ H (Is x)) : Ev z (tOp rNotB2 ta (tC (.bl b))) σ H (Is (.bl (!decide (x = .bl b)))) :=
  ev_op2 h ev_k fun H1 r => rn_val r.dr (fun Q q => ⟨b, rfl, q⟩) fun _ _ => rfl
end
end FB

set_option Elab.async false
set_option linter.all false
set_option maxRecDepth 100000
set_option maxHeartbeats 4000000
/-! FB, part p: a purse of two numbers that draws turn; the size of data. -/
namespace FB
open PySem PySem.Spec PyProof.Rows L2

/-- two numbers, the second one small -/
def IsPur : HO → Prop := fun o => ∃ a b : Int, o = .lst [.int a, .int b] ∧ 0 ≤ a ∧ 0 ≤ b ∧ b < 2147483648
section
variable {z : Zn} {K : PySem.W.Frag} {σ : L2.St} {H H' : Hp} {te to ti ta tb : TE} {D : Ends} {tu : TS}
/-- a thing that may change is changed -/
theorem Zn.R.wr {u : Addr} {o : HO} {φ : HO → Prop} (r : z.R H H') (hu : z.I u = some φ) (ho : φ o) : z.R H (upd H' u o) := by
  refine ⟨fun a x n e => ?_, r.i1, fun a ψ e => ?_, r.l1, fun a ua => ?_⟩
  · rw [upd_ne (by intro q; rw [q, hu] at n; cases n)]
    exact r.kp a x n e
  · by_cases q : a = u
    · subst q
      rw [hu] at e
      cases e
      exact ⟨o, upd_same, ho⟩
    · rw [upd_ne q]
      exact r.i2 a ψ e
  · by_cases q : a = u
    · rw [q, upd_same]; simp
    · rw [upd_ne q]; exact r.l2 a ua
/-- the zone in which all that stands stays -/
abbrev z0 : Zn := Zn.still fun _ => False
theorem z0r : z0.R H H := still_r fun _ h => h.elim
theorem z0g (r : z0.R H H') : ∀ a o, H a = some o → H' a = some o := fun a o h => r.kp a o rfl h
theorem z0w (w : z0.W H H') : ∀ a o, H a = some o → H' a = some o := fun a o h => w a o (fun f => f) h
theorem Zn.R.z0 (r : FB.z0.R H H') (h : z.R H H) : z.R H H' := h.ex (z0g r)
/-- the zone in which told values may lean on new things alone -/
abbrev zf (H : Hp) : Zn := Zn.still fun a => H a ≠ none
theorem zfr {H H' : Hp} (r : z0.R H H') : (zf H).R H' H' := still_r fun a h q => by
  cases e : H a with
  | none => exact h e
  | some o => rw [z0g r a o e] at q; cases q
theorem zf0 {H H1 H2 : Hp} (r : (zf H).R H1 H2) : z0.R H1 H2 := ⟨fun a o h e => r.kp a o h e, fun _ _ h => (by cases h), fun _ _ h => (by cases h), fun _ h => False.elim h, fun _ h => False.elim h⟩
/-- xs[i] = e -/
theorem q_sub {p : Addr} {xs : List V} {j : Nat} {v : V} (hR : z.R H H) (h : Ev z te σ H (Is v)) (ho : Ev z to σ H (Is (.ref p))) (hi : Ev z ti σ H (Is (.int (j : Int)))) (nu : ¬ z.U p) (hp : H p = some (.lst xs)) (hj : j < xs.length)
    (k : ∀ H1, z.R H H1 → tu D σ (upd H1 p (.lst (xs.set j v)))) : tSeq (tAsg te (gSub to ti rSetL)) tu D σ H := h H hR _ fun v1 H1 e1 f1 => ho H1 e1 _ fun v2 H2 e2 f2 => hi H2 (e1.tr e2) _ fun v3 H3 e3 f3 => by
  have q1 : v1 = v := f1 H1 .refl
  have q2 : v2 = .ref p := f2 H2 .refl
  have q3 : v3 = .int (j : Int) := f3 H3 .refl
  subst q1
  subst q2
  subst q3
  have r := (e1.tr e2).tr e3
  exact ⟨p, xs, (j : Int), j, rfl, rfl, r.w p _ nu hp, Evl.ixN_nat hj, k H3 r⟩
/-- xs[i] of a list that stands -/
theorem ev_ixL {p : Addr} {xs : List V} {i : Nat} {v : V} (ha : Ev z ta σ H (Is (.ref p))) (hb : Ev z tb σ H (Is (.int (i : Int)))) (nu : ¬ z.U p) (hp : H p = some (.lst xs)) (hv : xs[i]? = some v) : Ev z (tOp (rIxL K) ta tb) σ H (Is v) :=
  ev_op2 ha hb fun H1 r => rn_val r.dr (fun Q q => ⟨p, xs, i, v, rfl, rfl, .inl (.inl (r.w p _ nu hp)), atI_nat hv, q⟩) fun _ _ => rfl
end

/-- a draw's promise -/
def spTake : Sp := fun vs H Q _ => ∃ (z : Zn) (u : Addr) (n : Nat), vs = [.ref u, .int (n : Int)] ∧ z.R H H ∧ z.I u = some IsPur ∧ 0 < n ∧ n ≤ 1000000 ∧ ∀ (i : Nat) H', i < n → z.R H H' → Q (.int (i : Int)) H'
/-- a new purse -/
def spPurse (K : PySem.W.Frag) : Sp := fun vs H Q _ => ∃ (z : Zn) (a : Addr) (ns : List Int) (k : Nat), vs = [.ref a, .int (k : Int)] ∧ z.R H H ∧ SqL K H a (ns.map V.int) ∧ ns.length ≤ 1000 ∧ k ≤ 1000 ∧ ∀ (p : Addr) (o : HO) H', z.R H H' → H p = none → ¬ z.U p → H' p = some o → IsPur o → Q (.ref p) H'
section
variable {z : Zn} {K : PySem.W.Frag} {σ : L2.St} {H : Hp} {te tn : TE} {E : XK}
/-- take(u, n) -/
theorem ev_take {u : Addr} {n : Nat} (hu : z.I u = some IsPur) (h1 : Ev z te σ H (Is (.ref u))) (h2 : Ev z tn σ H (Is (.int (n : Int)))) (h0 : 0 < n) (hn : n ≤ 1000000) : Ev z (tCall spTake [] E (tCons te (tCons tn tNil))) σ H (Nn n) :=
  ev_call (ea_is h1 (ea_is h2 ea_nil)) fun vs H1 r e Q q => by
    subst e
    exact ⟨z, u, n, rfl, r.dr, hu, h0, hn, fun i H' hi r' => q _ H' r' fun _ _ => ⟨i, rfl, hi⟩⟩
/-- an int below n, then what hangs on it -/
theorem ev_byN {n : Nat} {φ : VP} {ta : TE} {r : R2} {χ : VP} (ha : Ev z ta σ H φ) : True := trivial
end

/-! ### the size of data -/
structure Lf (k m : Nat) (d : PyData) : Prop where
  sh : d.showable = true
  lf : d.leavesShort 1000 = true
  dp : d.depth ≤ k
  wt : d.weight ≤ m
theorem Lf.mono {k k' m m' : Nat} {d : PyData} (h : Lf k m d) (h1 : k ≤ k') (h2 : m ≤ m') : Lf k' m' d := ⟨h.sh, h.lf, Nat.le_trans h.dp h1, Nat.le_trans h.wt h2⟩
theorem Lf.all {k m : Nat} : ∀ {ds : List PyData}, (∀ d ∈ ds, Lf k m d) → PyData.showableAll ds = true ∧ PyData.leavesShortAll 1000 ds = true ∧ PyData.depthAll ds ≤ k ∧ PyData.weightAll ds ≤ ds.length * (m + 1)
  | [], _ => ⟨rfl, rfl, Nat.zero_le _, Nat.zero_le _⟩
  | d :: ds, h => by
    obtain ⟨a, b, c, e⟩ := Lf.all fun x hx => h x (List.mem_cons_of_mem _ hx)
    have q := h d List.mem_cons_self
    refine ⟨?_, ?_, ?_, ?_⟩
    · simp only [PyData.showableAll, q.sh, a, Bool.and_self]
    · simp only [PyData.leavesShortAll, q.lf, b, Bool.and_self]
    · simp only [PyData.depthAll]
      have := q.dp
      omega
    · simp only [PyData.weightAll, List.length_cons, Nat.add_mul, Nat.one_mul]
      have := q.wt
      omega
theorem Lf.tup {k m n : Nat} {ds : List PyData} (h : ∀ d ∈ ds, Lf k m d) (hn : ds.length ≤ n) : Lf (k + 1) (n * (m + 1)) (.tuple ds) := by
  obtain ⟨a, b, c, e⟩ := Lf.all h
  have := Nat.mul_le_mul_right (m + 1) hn
  exact ⟨by simpa only [PyData.showable] using a, by simpa only [PyData.leavesShort] using b, by simp only [PyData.depth]; omega, by simp only [PyData.weight]; omega⟩
theorem Lf.lst {k m n : Nat} {ds : List PyData} (h : ∀ d ∈ ds, Lf k m d) (hn : ds.length ≤ n) : Lf (k + 1) (n * (m + 1)) (.list ds) := by
  obtain ⟨a, b, c, e⟩ := Lf.all h
  have := Nat.mul_le_mul_right (m + 1) hn
  exact ⟨by simpa only [PyData.showable] using a, by simpa only [PyData.leavesShort] using b, by simp only [PyData.depth]; omega, by simp only [PyData.weight]; omega⟩
theorem Lf.str {x : Str} {m : Nat} (h : ∀ c ∈ x.cps.toList, c < 1000) (hl : x.length ≤ m) : Lf 0 m (.str x) :=
  ⟨rfl, by simp only [PyData.leavesShort, List.all_eq_true, decide_eq_true_eq]; exact fun c hc => Nat.lt_trans (h c hc) (by decide), Nat.le_refl _, hl⟩
theorem Lf.ln {k m : Nat} {d : PyData} (h : Lf k m d) (hm : m ≤ 9900) : d.shown.length ≤ 10000000 := by
  have q := PyData.shown_le 1000 (by decide) d h.lf
  have w := h.wt
  have : (1000 + 2) * d.weight ≤ 1002 * 9900 := Nat.mul_le_mul (Nat.le_refl _) (by omega)
  omega
theorem Lf.sm {k m : Nat} {d : PyData} (h : Lf k m d) (hk : k ≤ 40) (hm : m ≤ 9900) (mx : d.hasDict = false ∨ hasL d = false) : Sm d := ⟨h.sh, Nat.le_trans h.dp hk, h.ln hm, mx⟩
theorem nd_all : ∀ {ds : List PyData}, (∀ d ∈ ds, d.hasDict = false) → PyData.hasDictAll ds = false
  | [], _ => rfl
  | d :: ds, h => by
    simp only [PyData.hasDictAll, h d List.mem_cons_self, nd_all fun x hx => h x (List.mem_cons_of_mem _ hx), Bool.or_self]
theorem nl_all : ∀ {ds : List PyData}, (∀ d ∈ ds, hasL d = false) → hasLA ds = false
  | [], _ => by simp [hasLA]
  | d :: ds, h => by
    simp only [hasLA, h d List.mem_cons_self, nl_all fun x hx => h x (List.mem_cons_of_mem _ hx), Bool.or_self]
/-- no dict, no list within -/
structure Pl (d : PyData) : Prop where
  nd : d.hasDict = false
  nl : hasL d = false
theorem Pl.tup {ds : List PyData} (h : ∀ d ∈ ds, Pl d) : Pl (.tuple ds) := ⟨by simp only [PyData.hasDict]; exact nd_all fun d hd => (h d hd).nd, by simp only [hasL]; exact nl_all fun d hd => (h d hd).nl⟩
theorem Pl.str {x : Str} : Pl (.str x) := ⟨rfl, by simp [hasL]⟩
/-- a tuple of plain parts but one -/
theorem mx_tup {ds : List PyData} {o : PyData} (ho : o.hasDict = false ∨ hasL o = false) (h : ∀ d ∈ ds, Pl d ∨ d = o) : (PyData.tuple ds).hasDict = false ∨ hasL (.tuple ds) = false := by
  rcases ho with ho | ho
  · left
    simp only [PyData.hasDict]
    exact nd_all fun d hd => (h d hd).elim Pl.nd fun e => e ▸ ho
  · right
    simp only [hasL]
    exact nl_all fun d hd => (h d hd).elim Pl.nl fun e => e ▸ ho
end FB

set_option Elab.async false
set_option linter.all false
set_option maxRecDepth 100000
set_option maxHeartbeats 4000000
/-! FB, part q: drawn texts, items of menus, tuples cut and put together. -/
namespace FB
open PySem PySem.Spec PyProof.Rows L2

/-- a text of at most n signs, none great -/
def Txs (n : Nat) (x : Str) : Prop := x.length ≤ n ∧ ∀ c ∈ x.cps.toList, c < 1000
def Sv (n : Nat) : VP := fun v _ => ∃ x, v = .str x ∧ Txs n x
theorem Txs.mono {n m : Nat} {x : Str} (h : Txs n x) (l : n ≤ m) : Txs m x := ⟨Nat.le_trans h.1 l, h.2⟩
theorem Txs.app {n m : Nat} {x y : Str} (h : Txs n x) (h' : Txs m y) : Txs (n + m) (x ++ y) := by
  have e : (x ++ y).cps.toList = x.cps.toList ++ y.cps.toList := by
    show (x.cps ++ y.cps).toList = _
    exact Array.toList_append
  refine ⟨?_, fun c hc => ?_⟩
  · show (x.cps ++ y.cps).size ≤ n + m
    rw [Array.size_append]
    have a : x.cps.size ≤ n := h.1
    have b : y.cps.size ≤ m := h'.1
    omega
  · rw [e] at hc
    exact (List.mem_append.mp hc).elim (h.2 c) (h'.2 c)
theorem Txs.cut {n : Nat} {x : Str} {lo hi : Option Int} (h : Txs n x) : Txs n (cutS x lo hi) :=
  ⟨Nat.le_trans (cutS_length x lo hi) h.1, fun c hc => h.2 c (by
    unfold cutS at hc
    exact List.mem_of_mem_drop (List.mem_of_mem_take hc))⟩
theorem Txs.one {c : Nat} (h : c < 1000) : Txs 1 ⟨#[c]⟩ := ⟨Nat.le_refl _, fun d hd => by
  have : d = c := by simpa using hd
  rw [this]; exact h⟩
theorem sum_le_len : ∀ (ys : List Str), (∀ y ∈ ys, y.length ≤ 1) → (ys.map (·.length)).sum ≤ ys.length
  | [], _ => Nat.le_refl _
  | y :: r, h => by
    have := sum_le_len r fun x hx => h x (List.mem_cons_of_mem _ hx)
    have := h y List.mem_cons_self
    simp only [List.map_cons, List.sum_cons, List.length_cons]
    omega
theorem Txs.join {n : Nat} {ys : List Str} (h : ∀ y ∈ ys, Txs 1 y) (hl : ys.length ≤ n) : Txs n (Txt.join "" ys) := by
  rw [TL.join_eq]
  refine ⟨?_, fun c hc => ?_⟩
  · have h1 := StrLaws.join_length_le "" ys
    have h2 := sum_le_len ys fun y hy => (h y hy).1
    have h3 : ("" : Str).length = 0 := rfl
    rw [h3, Nat.mul_zero] at h1
    omega
  · rw [PyProof.Rows.mem_join] at hc
    rcases hc with ⟨t, ht, hc⟩ | ⟨_, hc⟩
    · exact (h t ht).2 c hc
    · cases hc
theorem Txs.lf {n : Nat} {x : Str} (h : Txs n x) : Lf 0 n (.str x) := .str h.2 h.1
section
variable {z : Zn} {K : PySem.W.Frag} {σ : L2.St} {H : Hp} {te tb ta : TE} {φ χ : VP}
/-- a name that holds a list: the list -/
theorem Lst.at {Φ : List V → Hp → Prop} {v : V} {H1 : Hp} (f : ∀ H2, z.W H1 H2 → Lst z Φ v H2) : ∃ p ws, v = .ref p ∧ ¬ z.U p ∧ H1 p = some (.lst ws) ∧ ∀ H2, z.W H1 H2 → Φ ws H2 := by
  obtain ⟨p, ws, e, nu, hp, _⟩ := f H1 .refl
  refine ⟨p, ws, e, nu, hp, fun H2 w => ?_⟩
  obtain ⟨p', ws', e', _, hp', q⟩ := f H2 w
  rw [e] at e'
  cases e'
  rw [w p _ nu hp] at hp'
  cases hp'
  exact q
theorem Tup.at {Φ : List V → Hp → Prop} {v : V} {H1 : Hp} (f : ∀ H2, z.W H1 H2 → Tup z Φ v H2) : ∃ p ws, v = .ref p ∧ ¬ z.U p ∧ H1 p = some (.tup ws) ∧ ∀ H2, z.W H1 H2 → Φ ws H2 := by
  obtain ⟨p, ws, e, nu, hp, _⟩ := f H1 .refl
  refine ⟨p, ws, e, nu, hp, fun H2 w => ?_⟩
  obtain ⟨p', ws', e', _, hp', q⟩ := f H2 w
  rw [e] at e'
  cases e'
  rw [w p _ nu hp] at hp'
  cases hp'
  exact q
theorem ev_lstv {i : Nat} {p : Addr} {ws : List V} {H0 : Hp} (e : σ[i]? = some (some (.ref p))) (nu : ¬ z.U p) (h : H0 p = some (.lst ws)) (w : z.W H0 H) : Ev z (tVar i) σ H (Lst z fun us _ => us = ws) :=
  ev_var e fun H' w' => ⟨p, ws, rfl, nu, (w.tr w') p _ nu h, rfl⟩
/-- an item of a menu that was just made, by a draw -/
theorem ev_menu {Φ : List V → Hp → Prop} {n : Nat} (ha : Ev z ta σ H (Lst z Φ)) (hb : ∀ (x : V) H1, z.R H H1 → Ev z tb σ H1 (Nn n)) (hΦ : ∀ ws H1, z.W H H1 → Φ ws H1 → ws.length = n ∧ ∀ w, w ∈ ws → χ w H1) : Ev z (tOp (rIxL K) ta tb) σ H χ := fun H1 e Q q =>
  ha H1 e _ fun x H2 e2 f => hb x H2 (e.tr e2) H2 e2.dr _ fun y H3 e3 g => by
    obtain ⟨p, ws, rfl, nu, hp, fw⟩ := Lst.at f
    obtain ⟨i, rfl, hi⟩ := g H3 .refl
    have hl := (hΦ ws H2 (e.tr e2).w (fw H2 .refl)).1
    have hw : ws[i]? = some (ws[i]'(by omega)) := List.getElem?_eq_getElem (by omega)
    exact ⟨p, ws, i, _, rfl, rfl, .inl (.inl (e3.w p _ nu hp)), atI_nat hw, q _ H3 (e2.tr e3) fun H4 w => (hΦ ws H4 (((e.tr e2).tr e3).w.tr w) (fw H4 (e3.w.tr w))).2 _ (List.getElem_mem _)⟩
/-- .. that a name holds -/
theorem ev_menuV {ws : List V} {n : Nat} (ha : Ev z ta σ H (Lst z fun us _ => us = ws)) (hb : ∀ (x : V) H1, z.R H H1 → Ev z tb σ H1 (Nn n)) (hl : ws.length = n) (hΦ : ∀ H1 w, z.W H H1 → w ∈ ws → χ w H1) : Ev z (tOp (rIxL K) ta tb) σ H χ :=
  ev_menu ha hb fun us H1 w e => by
    subst e
    exact ⟨hl, fun v hv => hΦ H1 v w hv⟩
/-! texts by parts -/
theorem ev_addSv {n m : Nat} (ha : Ev z ta σ H (Sv n)) (hb : ∀ (x : V) H1, z.R H H1 → Ev z tb σ H1 (Sv m)) (hn : n + m ≤ 10000) : Ev z (tOp (fun x y H Q => ∃ i j, x = .str i ∧ y = .str j ∧ i.length + j.length ≤ sizeLine ∧ Q (.str (i ++ j)) H) ta tb) σ H (Sv (n + m)) :=
  ev_op ha (fun x H1 r _ => hb x H1 r) fun x y H1 r ⟨i, e1, h1⟩ ⟨j, e2, h2⟩ => rn_val r.dr (fun Q q => ⟨i, j, e1, e2, by
    have := h1.1
    have := h2.1
    have : sizeLine = 16777216 := by decide
    omega, q⟩) fun _ _ => ⟨_, rfl, h1.app h2⟩
theorem ev_slSv {tl th : TO} {n : Nat} {lo hi : Option Int} (h : Ev z te σ H (Sv n)) (h1 : EvO z tl σ H (· = lo)) (h2 : EvO z th σ H (· = hi)) (hn : n ≤ 10000) : Ev z (L2.tSl rSlS te tl th) σ H (Sv n) :=
  ev_sl h h1 h2 fun v H1 r ⟨x, e, hx⟩ => rn_val r.dr (fun Q q => ⟨x, e, by
    have := hx.1
    have : sizeLine = 16777216 := by decide
    omega, q⟩) fun _ _ => ⟨_, rfl, hx.cut⟩
theorem ev_ixSv {n : Nat} {x : Str} (ha : Ev z ta σ H (Is (.str x))) (hb : Ev z tb σ H (Nn n)) (hl : x.length = n) (hn : n ≤ 10000) (hx : ∀ c ∈ x.cps.toList, c < 1000) : Ev z (tOp rIxS ta tb) σ H (Sv 1) :=
  ev_op ha (fun _ H1 r _ => hb.up r) fun v y H1 r e ⟨i, e2, hi⟩ => by
    have hw : x.cps.toList[i]? = some (x.cps.toList[i]'(by rw [Array.length_toList]; have h9 : x.cps.size = n := hl; omega)) := List.getElem?_eq_getElem _
    exact rn_val r.dr (fun Q q => ⟨x, i, _, e, e2, by
      have : sizeLine = 16777216 := by decide
      omega, atI_nat hw, q⟩) fun _ _ => ⟨_, rfl, Txs.one (hx _ (List.getElem_mem _))⟩
/-- the join of single signs -/
theorem ev_joinSv {ts tl : TE} {n : Nat} (h1 : Ev z ts σ H (Is (.str ""))) (h2 : Ev z tl σ H (Lst z fun ws H' => ws.length ≤ n ∧ ∀ (i : Nat) w, ws[i]? = some w → Sv 1 w H')) (hn : n ≤ 10000) :
    Ev z (tM1 (fun x xs H Q => ∃ a p, ∃ ys : List Str, x = .str a ∧ xs = [.ref p] ∧ (SqL K H p (ys.map V.str) ∨ SqT K H p (ys.map V.str)) ∧ (ys.map (·.length)).sum + ys.length * a.length ≤ 16777216 ∧ Q (.str (Txt.join a ys)) H) ts tl) σ H (Sv n) := by
  have un : ∀ ws : List V, (∀ (i : Nat) w, ws[i]? = some w → ∃ x, w = V.str x ∧ Txs 1 x) → ∃ ys : List Str, ws = ys.map V.str ∧ ys.length = ws.length ∧ ∀ y ∈ ys, Txs 1 y := by
    intro ws
    induction ws with
    | nil => exact fun _ => ⟨[], rfl, rfl, fun _ h => by cases h⟩
    | cons w r ih =>
      intro h
      obtain ⟨ys, e, hl, hy⟩ := ih fun i w hw => h (i + 1) w hw
      obtain ⟨x, ex, hx⟩ := h 0 w rfl
      refine ⟨x :: ys, by rw [ex, e]; rfl, by rw [List.length_cons, List.length_cons, hl], fun y hy' => ?_⟩
      rcases List.mem_cons.mp hy' with e | hy'
      · rw [e]; exact hx
      · exact hy y hy'
  refine (ev_join (K := K) (P := fun ys => ys.length ≤ n ∧ ∀ y ∈ ys, Txs 1 y) h1 (h2.imp fun v H' _ ⟨p, ws, e, nu, hp, hl, hw⟩ => ?_) fun ys hy => ?_).imp fun v H' _ ⟨ys, ⟨hl, hy⟩, e⟩ => ⟨_, e, Txs.join hy hl⟩
  · obtain ⟨ys, e2, hl2, hy⟩ := un ws hw
    exact ⟨p, ws, e, nu, hp, ys, e2, by omega, hy⟩
  · have := sum_le_len ys fun y h => (hy.2 y h).1
    have h3 : ("" : Str).length = 0 := rfl
    rw [h3, Nat.mul_zero]
    have := hy.1
    omega
end
/-! ### draws' promises -/
/-- a text drawn by the purse u -/
def spTxt (n : Nat) : Sp := fun vs H Q _ => ∃ (z : Zn) (u : Addr), vs = [.ref u] ∧ z.R H H ∧ z.I u = some IsPur ∧ ∀ x H', Txs n x → z.R H H' → Q (.str x) H'
/-- a text drawn by the purse u of a text -/
def spTxt2 (n m : Nat) : Sp := fun vs H Q _ => ∃ (z : Zn) (u : Addr) (x : Str), vs = [.ref u, .str x] ∧ Txs n x ∧ z.R H H ∧ z.I u = some IsPur ∧ ∀ y H', Txs m y → z.R H H' → Q (.str y) H'
/-- data drawn by the purse u -/
def spDat (P : PyData → Prop) : Sp := fun vs H Q _ => ∃ (z : Zn) (u : Addr), vs = [.ref u] ∧ z.R H H ∧ z.I u = some IsPur ∧ ∀ v d H', P d → z.R H H' → (∀ H3, z.W H' H3 → DU z.U H3 v d) → Q v H'
section
variable {z : Zn} {K : PySem.W.Frag} {σ : L2.St} {H : Hp} {te tx : TE} {E : XK}
theorem ev_txt {u : Addr} {n : Nat} (hu : z.I u = some IsPur) (h1 : Ev z te σ H (Is (.ref u))) : Ev z (tCall (spTxt n) [] E (tCons te tNil)) σ H (Sv n) :=
  ev_call (ea_is h1 ea_nil) fun vs H1 r e Q q => by
    subst e
    exact ⟨z, u, rfl, r.dr, hu, fun x H' hx r' => q _ H' r' fun _ _ => ⟨x, rfl, hx⟩⟩
theorem ev_txt2 {u : Addr} {n m : Nat} {x : Str} (hx : Txs n x) (hu : z.I u = some IsPur) (h1 : Ev z te σ H (Is (.ref u))) (h2 : Ev z tx σ H (Is (.str x))) : Ev z (tCall (spTxt2 n m) [] E (tCons te (tCons tx tNil))) σ H (Sv m) :=
  ev_call (ea_is h1 (ea_is h2 ea_nil)) fun vs H1 r e Q q => by
    subst e
    exact ⟨z, u, x, rfl, hx, r.dr, hu, fun x H' hx r' => q _ H' r' fun _ _ => ⟨x, rfl, hx⟩⟩
/-- some data with P -/
def Ds (z : Zn) (P : PyData → Prop) : VP := fun v H => ∃ d, P d ∧ DU z.U H v d
theorem ev_dat {P : PyData → Prop} {u : Addr} (hu : z.I u = some IsPur) (h1 : Ev z te σ H (Is (.ref u))) : Ev z (tCall (spDat P) [] E (tCons te tNil)) σ H (Ds z P) :=
  ev_call (ea_is h1 ea_nil) fun vs H1 r e Q q => by
    subst e
    exact ⟨z, u, rfl, r.dr, hu, fun v d H' hd r' hv => q _ H' r' fun H3 w => ⟨d, hd, hv H3 w⟩⟩
end
/-! ### data written out -/
section
variable {z : Zn} {K : PySem.W.Frag} {σ : L2.St} {H : Hp} {te tb ta : TE} {tl tr : TA}
theorem ed_k {v : V} {d : PyData} (h : ∀ H', DU z.U H' v d) : Ev z (tC v) σ H (Dd z d) := ev_c fun H' _ => h H'
theorem ed_nil : EvA z tNil σ H (fun vs H' => DUA z.U H' vs []) := ea_nil.imp fun vs H' _ e => by rw [e]; exact .nil
theorem ed_cons {d : PyData} {ds : List PyData} (h : Ev z te σ H (Dd z d)) (hr : ∀ H1, z.R H H1 → EvA z tr σ H1 (fun vs H' => DUA z.U H' vs ds)) : EvA z (tCons te tr) σ H (fun vs H' => DUA z.U H' vs (d :: ds)) :=
  (ea_cons h fun v H1 r _ => hr H1 r).imp fun vs H' _ ⟨v, r, e, h1, h2⟩ => by rw [e]; exact .cons h1 h2
theorem ed_lst {ds : List PyData} (h : EvA z tl σ H (fun vs H' => DUA z.U H' vs ds)) (hn : ds.length ≤ 100000) : Ev z (tLst tl) σ H (Dd z (.list ds)) :=
  (ev_lst h fun vs H' e => by rw [e.len]; exact hn).imp fun v H' _ ⟨p, ws, e, nu, hp, q⟩ => by rw [e]; exact .lst nu hp q
theorem ed_tup {ds : List PyData} (h : EvA z tl σ H (fun vs H' => DUA z.U H' vs ds)) (hn : ds.length ≤ 100000) : Ev z (tTup tl) σ H (Dd z (.tuple ds)) :=
  (ev_tup h fun vs H' e => by rw [e.len]; exact hn).imp fun v H' _ ⟨p, ws, e, nu, hp, q⟩ => by rw [e]; exact .tup nu hp q
theorem ed_dnew : Ev z tDNewK σ H (Dd z (.dict [])) := fun H1 e Q q => fun p hp => q _ _ (e.dr.new hp) fun H3 w => .dct (kvs := []) (ds := []) (e.dr.nu hp) (w p _ (e.dr.nu hp) upd_same) .nil
theorem ed_dict1 {k : Str} {v : V} {d : PyData} (h : ∀ H', DU z.U H' v d) : Ev z (tDisp [(tC (.str k), tC v)]) σ H (Dd z (.dict [(.str k, d)])) := fun H1 e Q q => fun p hp =>
  ⟨upd_same, [(.inr k, v)], rfl, (show 1 ≤ 15 by decide), q _ _ ((e.dr.new hp).mut hp) fun H3 w => .dct (kvs := [(.inr k, v)]) (ds := [d]) (e.dr.nu hp) (w p _ (e.dr.nu hp) upd_same) (.cons (h H3) .nil)⟩
/-- an item of a menu of data, by a draw -/
theorem ed_menu {ds : List PyData} {n : Nat} {P : PyData → Prop} (ha : EvA z tl σ H (fun vs H' => DUA z.U H' vs ds)) (hb : ∀ (x : V) H1, z.R H H1 → Ev z tb σ H1 (Nn n)) (hn : ds.length = n) (hn2 : n ≤ 100000) (hP : ∀ d ∈ ds, P d) : Ev z (tOp (rIxL K) (tLst tl) tb) σ H (Ds z P) :=
  ev_menu (Φ := fun ws H' => DUA z.U H' ws ds) (ev_lst ha fun vs H' e => by rw [e.len, hn]; exact hn2) hb fun ws H1 _ e => ⟨by rw [e.len, hn], fun w hw => by
    obtain ⟨d, hd, q⟩ := e.mem hw
    exact ⟨d, hP d hd, q⟩⟩
/-- .. of one that a name holds -/
theorem ed_menuV {ds : List PyData} {n : Nat} {P : PyData → Prop} (ha : Ev z ta σ H (Lst z fun ws H' => DUA z.U H' ws ds)) (hb : ∀ (x : V) H1, z.R H H1 → Ev z tb σ H1 (Nn n)) (hn : ds.length = n) (hP : ∀ d ∈ ds, P d) : Ev z (tOp (rIxL K) ta tb) σ H (Ds z P) :=
  ev_menu (Φ := fun ws H' => DUA z.U H' ws ds) ha hb fun ws H1 _ e => ⟨by rw [e.len, hn], fun w hw => by
    obtain ⟨d, hd, q⟩ := e.mem hw
    exact ⟨d, hP d hd, q⟩⟩
end
/-! ### tuples cut and put together -/
/-- a tuple of data with P -/
def TD (z : Zn) (P : List PyData → Prop) : VP := Tup z fun ws H' => ∃ ds, P ds ∧ DUA z.U H' ws ds
/-- texts of at most m signs, at most n of them -/
def SL (n m : Nat) (ds : List PyData) : Prop := ∃ xs : List Str, ds = xs.map PyData.str ∧ xs.length ≤ n ∧ ∀ x ∈ xs, Txs m x
section
variable {z : Zn} {K : PySem.W.Frag} {σ : L2.St} {H : Hp} {te tb ta : TE} {tl th : TO} {lo hi : Option Int}
theorem TD.imp {P P' : List PyData → Prop} (h : Ev z te σ H (TD z P)) (i : ∀ ds, P ds → P' ds) : Ev z te σ H (TD z P') := h.imp fun v H' _ ⟨p, ws, e, nu, hp, ds, hP, q⟩ => ⟨p, ws, e, nu, hp, ds, i ds hP, q⟩
theorem cutV_all {xs : List V} (h1 : HT.sIx xs.length 0 lo = 0) (h2 : HT.sIx xs.length xs.length hi = xs.length) : cutV xs lo hi = xs := by
  unfold cutV
  rw [h1, h2]
  simp
theorem ev_slT {xs : List V} (h : Ev z te σ H (Tup z fun ws _ => ws = xs)) (h1 : EvO z tl σ H (· = lo)) (h2 : EvO z th σ H (· = hi)) : Ev z (L2.tSl (rSlA K) te tl th) σ H (Tup z fun ws _ => ws = cutV xs lo hi) :=
  ev_sl h h1 h2 fun v H1 r ⟨p, ws, e, nu, hp, ew⟩ Q q => by
    subst ew
    refine ⟨p, ws, e, .inl (.inl hp), fun hc => ?_, fun _ p' hp' => ?_⟩
    · exact q _ H1 r.dr fun H3 w => ⟨p, ws, rfl, nu, w p _ nu hp, (cutV_all hc.1 hc.2).symm⟩
    · exact q _ _ (r.dr.new hp') fun H3 w => ⟨p', _, rfl, r.dr.nu hp', w p' _ (r.dr.nu hp') upd_same, rfl⟩
theorem cut_strs (xs : List Str) (lo hi : Option Int) : ∃ ys : List Str, cutV (xs.map V.str) lo hi = ys.map V.str ∧ ys.length ≤ xs.length ∧ ∀ y ∈ ys, y ∈ xs := by
  unfold cutV
  refine ⟨(xs.drop (HT.sIx (xs.map V.str).length 0 lo)).take (HT.sIx (xs.map V.str).length (xs.map V.str).length hi - HT.sIx (xs.map V.str).length 0 lo), by rw [List.map_take, List.map_drop], ?_, fun y hy => List.mem_of_mem_drop (List.mem_of_mem_take hy)⟩
  rw [List.length_take, List.length_drop]
  omega
/-- a cut of texts -/
theorem ev_slSL {xs : List Str} {n m : Nat} (h : Ev z te σ H (Tup z fun ws _ => ws = xs.map V.str)) (h1 : EvO z tl σ H (· = lo)) (h2 : EvO z th σ H (· = hi)) (hn : xs.length ≤ n) (hx : ∀ x ∈ xs, Txs m x) : Ev z (L2.tSl (rSlA K) te tl th) σ H (TD z (SL n m)) :=
  (ev_slT h h1 h2).imp fun v H' _ ⟨p, ws, e, nu, hp, ew⟩ => by
    obtain ⟨ys, e2, hl, hy⟩ := cut_strs xs lo hi
    rw [e2] at ew
    exact ⟨p, ws, e, nu, hp, _, ⟨ys, rfl, by omega, fun y h => hx y (hy y h)⟩, by rw [ew]; exact .strs ys⟩
theorem ev_catTD {P P' : List PyData → Prop} (ha : Ev z ta σ H (TD z P)) (hb : ∀ (x : V) H1, z.R H H1 → Ev z tb σ H1 (TD z P')) (hl : ∀ a b, P a → P' b → a.length + b.length ≤ 100000) : Ev z (tOp (rCatA K) ta tb) σ H (TD z fun ds => ∃ a b, ds = a ++ b ∧ P a ∧ P' b) :=
  ev_op ha (fun x H1 r _ => hb x H1 r) fun x y H1 r ⟨p, ws, e, nu, hp, ds, hP, q⟩ ⟨p', ws', e', nu', hp', ds', hP', q'⟩ Q k => by
    have l1 := q.len
    have l2 := q'.len
    have l3 := hl ds ds' hP hP'
    have cat : ∀ H3, z.W H1 H3 → ∀ p0 us, H3 p0 = some (.tup us) → ¬ z.U p0 → us = ws ++ ws' → TD z (fun ds => ∃ a b, ds = a ++ b ∧ P a ∧ P' b) (.ref p0) H3 := fun H3 w p0 us h0 n0 eu =>
      ⟨p0, us, rfl, n0, h0, ds ++ ds', ⟨ds, ds', rfl, hP, hP'⟩, by rw [eu]; exact (q.w w).app (q'.w w)⟩
    refine ⟨p, p', ws, ws', e, e', .inl (.inl hp), .inl (.inl hp'), Nat.le_trans (show ws.length + ws'.length ≤ 100000 by omega) (by decide), fun h1 => ?_, fun _ h2 => ?_, fun _ _ d hd => ?_⟩
    · exact k _ H1 r.dr fun H3 w => cat H3 w p' ws' (w p' _ nu' hp') nu' (by rw [h1]; rfl)
    · exact k _ H1 r.dr fun H3 w => cat H3 w p ws (w p _ nu hp) nu (by rw [h2, List.append_nil])
    · exact k _ _ (r.dr.new hd) fun H3 w => cat H3 ((r.dr.new hd).w.tr w) d _ (w d _ (r.dr.nu hd) upd_same) (r.dr.nu hd) rfl
/-- tuple(list), list(tuple) -/
theorem ev_tupleL {Φ : List V → Hp → Prop} (h : Ev z te σ H (Lst z Φ)) : Ev z (tCB (fun xs H Q => ∃ p ys, xs = [.ref p] ∧ ((SqL K H p ys ∧ ∀ l, H l = none → Q (.ref l) (upd H l (.tup ys))) ∨ (SqT K H p ys ∧ Q (.ref p) H))) (tCons te tNil)) σ H (Tup z Φ) := fun H1 e Q q =>
  h H1 e _ fun v H2 e2 f => by
    obtain ⟨p, ws, rfl, nu, hp, fw⟩ := Lst.at f
    exact ⟨p, ws, rfl, .inl ⟨.inl (.inl hp), fun l hl => q _ _ (e2.tr (e2.dr.new hl)) fun H3 w => ⟨l, ws, rfl, e2.dr.nu hl, w l _ (e2.dr.nu hl) upd_same, fw H3 ((e2.dr.new hl).w.tr w)⟩⟩⟩
theorem ev_listT {Φ : List V → Hp → Prop} (h : Ev z te σ H (Tup z Φ)) : Ev z (tCB (fun xs H Q => ∃ p ys, xs = [.ref p] ∧ (SqL K H p ys ∨ SqT K H p ys) ∧ ∀ l, H l = none → Q (.ref l) (upd H l (.lst ys))) (tCons te tNil)) σ H (Lst z Φ) := fun H1 e Q q =>
  h H1 e _ fun v H2 e2 f => by
    obtain ⟨p, ws, rfl, nu, hp, fw⟩ := Tup.at f
    exact ⟨p, ws, rfl, .inr (.inl (.inl hp)), fun l hl => q _ _ (e2.tr (e2.dr.new hl)) fun H3 w => ⟨l, ws, rfl, e2.dr.nu hl, w l _ (e2.dr.nu hl) upd_same, fw H3 ((e2.dr.new hl).w.tr w)⟩⟩
theorem sv_strs {n m : Nat} {v : V} {H' : Hp} (h : Tup z (fun ws H' => ws.length ≤ n ∧ ∀ (i : Nat) w, ws[i]? = some w → Sv m w H') v H') : TD z (SL n m) v H' := by
  obtain ⟨p, ws, e, nu, hp, hl, hw⟩ := h
  have un : ∀ ws : List V, (∀ (i : Nat) w, ws[i]? = some w → ∃ x, w = V.str x ∧ Txs m x) → ∃ ys : List Str, ws = ys.map V.str ∧ ys.length = ws.length ∧ ∀ y ∈ ys, Txs m y := by
    intro ws
    induction ws with
    | nil => exact fun _ => ⟨[], rfl, rfl, fun _ h => by cases h⟩
    | cons w r ih =>
      intro h
      obtain ⟨ys, e, hl, hy⟩ := ih fun i w hw => h (i + 1) w hw
      obtain ⟨x, ex, hx⟩ := h 0 w rfl
      refine ⟨x :: ys, by rw [ex, e]; rfl, by rw [List.length_cons, List.length_cons, hl], fun y hy' => ?_⟩
      rcases List.mem_cons.mp hy' with e | hy'
      · rw [e]; exact hx
      · exact hy y hy'
  obtain ⟨ys, e2, hl2, hy⟩ := un ws hw
  exact ⟨p, ws, e, nu, hp, _, ⟨ys, rfl, by omega, hy⟩, by rw [e2]; exact .strs ys⟩
end
end FB
namespace FB
open PySem PySem.Spec PyProof.Rows L2
/-! ### a new purse's zone; the end -/
section
variable {K : PySem.W.Frag} {H H1 H' : Hp} {p : Addr} {o : HO}
/-- the zone in which the purse at p may turn -/
def zu (p : Addr) : Zn := ⟨fun a => if a = p then some IsPur else none, fun a => a = p, fun a h => by
  by_cases e : a = p
  · exact e
  · rw [if_neg e] at h; exact absurd rfl h⟩
theorem zu_i : (zu p).I p = some IsPur := if_pos rfl
theorem zu_r (h : H p = some o) (q : IsPur o) : (zu p).R H H := by
  refine ⟨fun _ _ _ h => h, fun a φ e => ?_, fun a φ e => ?_, fun a e => ?_, fun a e => ?_⟩
  · by_cases ea : a = p
    · subst ea
      rw [zu_i] at e
      cases e
      exact ⟨o, h, q⟩
    · rw [show (zu p).I a = none from if_neg ea] at e; cases e
  · by_cases ea : a = p
    · subst ea
      rw [zu_i] at e
      cases e
      exact ⟨o, h, q⟩
    · rw [show (zu p).I a = none from if_neg ea] at e; cases e
  · rw [show a = p from e, h]; simp
  · rw [show a = p from e, h]; simp
/-- what a new purse's zone does leaves what stood ahead of it -/
theorem zu_z0 (r0 : z0.R H H1) (hp : H p = none) (r : (zu p).R H1 H') : z0.R H H' := (z0r (H := H)).ex fun a x e => by
  have ne : a ≠ p := fun q => by rw [q, hp] at e; cases e
  exact r.kp a x (if_neg ne) (z0g r0 a x e)
theorem sql_z0 {a : Addr} {xs : List V} (h : SqL K H a xs) (r : z0.R H H') : SqL K H' a xs := by
  rcases h with (h | ⟨o, h⟩) | h
  · exact .inl (.inl (z0g r a _ h))
  · exact .inl (.inr ⟨o, z0g r a _ h⟩)
  · exact .inr h
end
section
variable {z : Zn} {K : PySem.W.Frag} {σ : L2.St} {H : Hp} {te ta tb : TE}
theorem ev_max {i j : Int} (ha : Ev z ta σ H (Is (.int i))) (hb : Ev z tb σ H (Is (.int j))) : Ev z (tCB (fun xs H Q => ∃ i j, xs = [.int i, .int j] ∧ Q (.int (if j > i then j else i)) H) (tCons ta (tCons tb tNil))) σ H (Is (.int (if j > i then j else i))) :=
  ev_cb (ea_is ha (ea_is hb ea_nil)) fun vs H1 r e Q q => ⟨i, j, e, q _ H1 r.dr fun _ _ => rfl⟩
theorem ev_min {i j : Int} (ha : Ev z ta σ H (Is (.int i))) (hb : Ev z tb σ H (Is (.int j))) : Ev z (tCB (fun xs H Q => ∃ i j, xs = [.int i, .int j] ∧ Q (.int (if j < i then j else i)) H) (tCons ta (tCons tb tNil))) σ H (Is (.int (if j < i then j else i))) :=
  ev_cb (ea_is ha (ea_is hb ea_nil)) fun vs H1 r e Q q => ⟨i, j, e, q _ H1 r.dr fun _ _ => rfl⟩
/-- len of the script -/
theorem ev_lenQ {a : Addr} {xs : List V} (ha : Ev z ta σ H (Is (.ref a))) (h : ∀ H1, z.R H H1 → SqL K H1 a xs) : Ev z (tCB (fun xs H Q => ∃ y n, xs = [y] ∧ LenV K y H n ∧ Q (.int n) H) (tCons ta tNil)) σ H (Is (.int (xs.length : Int))) := fun H1 e Q q =>
  ha H1 e _ fun v H2 e2 f => ⟨v, xs.length, rfl, by rw [show v = .ref a from f H2 .refl]; exact Or.inl ⟨xs, h H2 (e.tr e2), rfl⟩, q _ H2 e2 fun _ _ => rfl⟩
theorem rep_dua {U : Addr → Prop} {H : Hp} {vs : List V} {ds : List PyData} : ∀ n, DUA U H vs ds → DUA U H (List.replicate n vs).flatten (List.replicate n ds).flatten
  | 0, _ => .nil
  | n + 1, h => by
    rw [List.replicate_succ, List.replicate_succ, List.flatten_cons, List.flatten_cons]
    exact h.app (rep_dua n h)
/-- t * n of data -/
theorem ed_rep {ds : List PyData} {n : Nat} (ha : Ev z ta σ H (Dd z (.tuple ds))) (hb : Ev z tb σ H (Is (.int (n : Int)))) (h0 : ds ≠ []) (h1 : 2 ≤ n) (h2 : n ≤ 1000) (h3 : ds.length ≤ 100) : Ev z (tOp (rRepT K) ta tb) σ H (Dd z (.tuple (List.replicate n ds).flatten)) :=
  ev_op ha (fun x H1 r _ => hb.up r) fun x y H1 r dx e Q q => by
    obtain ⟨a, vs, rfl, nu, hp, hd⟩ := DU.tupAt dx
    have hl := hd.len
    refine ⟨a, n, vs, rfl, e, .inl (.inl hp), fun h => h0 (by rw [h] at hl; exact List.length_eq_zero_iff.mp hl.symm), by omega, by omega, by omega, fun p hp' => q _ _ (r.dr.new hp') fun H3 w => ?_⟩
    have w3 : z.W H1 H3 := (r.dr.new hp').w.tr w
    refine .tup (r.dr.nu hp') (w p _ (r.dr.nu hp') upd_same) ?_
    show DUA z.U H3 (List.replicate ((n : Int).toNat) vs).flatten _
    rw [Int.toNat_natCast]
    exact rep_dua n (hd.w w3)
end
end FB

set_option Elab.async false
set_option linter.all false
set_option maxRecDepth 100000
set_option maxHeartbeats 4000000
/-! FB, part z: the end of a law whose def is a promise with guards. -/
namespace FB
open PySem PySem.Spec PyProof.Rows L2
section
variable {P : Program} {w : World} {K : PySem.W.Frag} {mg mb : Str → Option Value} {k : Nat} {fa a : Addr} {fd : FuncData} {x : Str} {sp : Sp} {s1 : Shared} {vs : List Value} {ns : List Int}
/-- the call at an abstract heap in which at most the script is tracked -/
theorem call_at (H : Hp) (KX : K.In s1.heap) (hns : s1.heap.Ns mainGlobals mg) (hb : s1.heap.Ns builtinsNs mb) (hbb : ∀ y : Str, y ≠ "__name__" → mb y = bootBuiltins y) (hlim : s1.heap.NoLimit) (hgs : s1.gens = #[])
    (ha : s1.heap.get? a = some { cls := .type "list", data := .seq vs.toArray }) (hr : Room k callerA) (F : ∀ base : Heap, K.In base → base.Ns mainGlobals mg → FnG P w K mg base CX0 k fa fd [x] sp)
    (hbind : ∀ (s : Shared) (u : Value), BindsTo s fd ⟨[u], []⟩ [(x, u)]) (hO : Only H) (hok : HOk P w H s1.heap) (hA : ∀ b, H b ≠ none → b = a) (hK : H a ≠ none → K.lookup a = none) (hsp : sp [.ref a] H (fun v _ => v = .bl true) fun _ _ _ => False) :
    codeAny (model P w) callerA (.call (.ref fa) ⟨[.ref a], []⟩) (fun r s' => r = .ok (.ret (.bool true)) ∧ OldK s1.heap s'.heap ∧ s'.os = s1.os ∧ AllBare s'.gens) s1 := by
  have only_a : ∀ {b : Addr} {u : HO}, H b = some u → b = a := fun {b u} e => hA b (by rw [e]; simp)
  have ns_free : ∀ {b : Addr} {m : Str → Option Value}, s1.heap.Ns b m → (hidT s1.heap H).Ns b m := by
    rintro b m ⟨o, es, ep, e, d, r⟩
    refine ⟨o, es, ep, hidT_get e ?_, d, r⟩
    cases q : H b with
    | none => rfl
    | some u =>
      rw [only_a q, ha] at e
      cases e
      exact absurd (show Data.seq vs.toArray _ = Data.dict es ep from d) (fun z => by cases z)
  have hKb : K.In (hidT s1.heap H) := by
    intro b o e
    refine hidT_get (KX b o e) ?_
    cases q : H b with
    | none => rfl
    | some u =>
      have e2 := only_a q
      rw [e2] at e q
      rw [hK (by rw [q]; simp)] at e
      cases e
  have hM : Mod K mg (hidT s1.heap H) := ⟨hKb, ns_free hns, ⟨mb, ns_free hb, hbb⟩, (let ⟨mc, h1, h2⟩ := hlim; ⟨mc, ns_free h1, h2⟩)⟩
  have env : Env0 P w K mg (hidT s1.heap H) callerA [] s1 H := ⟨rfl, hM, fun b o e => of_hidT e, Nat.le_of_eq (hidT_size _ _), trivial, fun b h => (by cases h), hok, .of_eq hgs⟩
  have main := (F _ hKb (ns_free hns)).go callerA [] s1 H ⟨[.ref a], []⟩ [.ref a] [.ref a] (fun v _ => v = .bl true) (fun _ _ _ => False) rfl hr env (hbind s1 (.ref a)) (.cons rfl .nil) hsp
  refine codeAny_mono main ?_
  intro r s' h
  match r, h with
  | .error e, h => exact False.elim h
  | .ok .next, h => exact False.elim h
  | .ok .brk, h => exact False.elim h
  | .ok .cont, h => exact False.elim h
  | .ok (.ret u), h =>
    obtain ⟨v, H', os, bare, un, hok', r', q⟩ := h
    have ev : v = .bl true := q
    rw [ev] at r'
    have eu : u = Value.bool true := r'
    refine ⟨by rw [eu], OldK.of_keep fun b o e => ?_, os, bare⟩
    cases q : H b with
    | none => exact un.keep b o e q (fun z => by cases z) (fun z => by cases z)
    | some u =>
      rcases hO b with z | ⟨ob, xs, z⟩
      · rw [q] at z; cases z
      · obtain ⟨e1, _⟩ := hok b _ z
        obtain ⟨e2, _⟩ := hok' b _ (un.frzs b ob _ z)
        rw [e] at e1
        cases e1
        exact e2
theorem call_end (KX : K.In s1.heap) (hns : s1.heap.Ns mainGlobals mg) (hb : s1.heap.Ns builtinsNs mb) (hbb : ∀ y : Str, y ≠ "__name__" → mb y = bootBuiltins y) (hlim : s1.heap.NoLimit) (hgs : s1.gens = #[])
    (ha : s1.heap.get? a = some { cls := .type "list", data := .seq vs.toArray }) (hi : IntsAre vs ns) (hl : ns.length ≤ sizeLine) (hr : Room k callerA) (F : ∀ base : Heap, K.In base → base.Ns mainGlobals mg → FnG P w K mg base CX0 k fa fd [x] sp)
    (hbind : ∀ (s : Shared) (u : Value), BindsTo s fd ⟨[u], []⟩ [(x, u)]) (hsp : ∀ H : Hp, Only H → SqL K H a (ns.map V.int) → sp [.ref a] H (fun v _ => v = .bl true) fun _ _ _ => False) :
    codeAny (model P w) callerA (.call (.ref fa) ⟨[.ref a], []⟩) (fun r s' => r = .ok (.ret (.bool true)) ∧ OldK s1.heap s'.heap ∧ s'.os = s1.os ∧ AllBare s'.gens) s1 := by
  have rv := vals_ints hi
  cases hk : K.lookup a with
  | some o =>
    have e := KX a o hk
    rw [ha] at e
    cases e
    have hS : SqL K (fun _ => none) a (ns.map V.int) := .inr ⟨_, vs.toArray, _, hk, rfl, rfl, rfl, (by rw [List.size_toArray, hi.length]; exact hl), (by simpa using rv)⟩
    exact call_at (fun _ => none) KX hns hb hbb hlim hgs ha hr F hbind (fun _ => .inl rfl) (fun b u z => by cases (show (none : Option HO) = some u from z)) (fun b z => absurd rfl z) (fun z => absurd rfl z) (hsp _ (fun _ => .inl rfl) hS)
  | none =>
    let ob : Obj := { cls := .type "list", data := .seq vs.toArray }
    let H : Hp := fun b => if b = a then some (.frz ob (.lst (ns.map V.int))) else none
    have at_a : H a = some (.frz ob (.lst (ns.map V.int))) := if_pos rfl
    have off : ∀ b, b ≠ a → H b = none := fun b n => if_neg n
    have hO : Only H := fun b => by
      by_cases e : b = a
      · exact .inr ⟨ob, _, by rw [e]; exact at_a⟩
      · exact .inl (off b e)
    refine call_at H KX hns hb hbb hlim hgs ha hr F hbind hO (fun b u z => ?_) (fun b z => Classical.byContradiction fun n => z (off b n)) (fun _ => hk) (hsp H hO (.inl (.inr ⟨ob, at_a⟩)))
    by_cases e : b = a
    · subst e
      rw [at_a] at z
      cases z
      exact ⟨ha, by rw [List.length_map]; exact hl, vs, _, rv, ha⟩
    · rw [off b e] at z; cases z
end
/-- what k_head leaves, from such a promise of the law's def -/
theorem walk_g {l : PySem.W.OpenLaw} {n k : Nat} {q : Program} {loose : List Str} {XP : (Str → Option Value) → Heap → Prop} {YP : World → Heap → Prop} {d : DefRec} {K : Params → PySem.W.Frag} {sp : World → Sp} {x : Str} (hn : l.most = some n) (hn2 : n ≤ sizeLine) (hdf : d.params.defaults = [])
    (hr : Room k callerA) (hY : ∀ (w : World) (h : Heap), YP w h → (K w.params).In h)
    (F : ∀ (w : World) (mg : Str → Option Value) (fa : Addr) (h : Heap), (K w.params).In h → h.Ns mainGlobals mg → mg d.name = some (.ref fa) → ∃ fd : FuncData, (∀ (s : Shared) (u : Value), BindsTo s fd ⟨[u], []⟩ [(x, u)]) ∧
        ∀ base : Heap, (K w.params).In base → base.Ns mainGlobals mg → FnG l.prog w (K w.params) mg base CX0 k fa fd [x] (sp w))
    (hsp : ∀ (w : World) (H : Hp) (a : Addr) (ns : List Int), ns.length ≤ n → Only H → SqL (K w.params) H a (ns.map V.int) → sp w [.ref a] H (fun v _ => v = .bl true) fun _ _ _ => False) :
    PySem.W.WalkO q loose XP YP l.row.toRowW d [] (fun f vs => PySem.call f vs) := by
  refine Att.attach_call hn hdf ?_
  intro w s0 s1 mg mb fa o pm cd doc a vs ns G Y _ _ _ hmg hobj hints hlen hg
  have KX := hY w _ Y
  obtain ⟨fd, hb, hF⟩ := F w mg fa _ KX G.T.g hmg
  exact call_end KX G.T.g G.T.b G.T.builtins G.T.nolimit hg hobj hints (Nat.le_trans hlen hn2) hr hF hb fun H hO hS => hsp w H a ns hlen hO hS
end FB

set_option Elab.async false
set_option linter.all false
set_option maxRecDepth 100000
set_option maxHeartbeats 4000000
/-! FB, part s: sorted(set(xs)) of texts. -/
namespace FB
open PySem PySem.Spec PyProof.Rows L2

def kyS (e : Int × Value) : Str := match e.2 with
  | .str k _ => k
  | _ => Str.empty
def OkS (w : World) (e : Int × Value) : Prop := ∃ k tk, e.2 = Value.str k tk ∧ e.1 = hashStr w k
/-- at a the set of the texts of L -/
def SetW (w : World) (h : Heap) (a : Addr) (L : List Str) : Prop :=
  ∃ ob xs ep t, h.get? a = some ob ∧ ob.ExactSet ∧ ob.data = .set xs ep t ∧ (∀ e ∈ xs.toList, OkS w e) ∧ (xs.toList.map kyS).Nodup ∧ (∀ k, k ∈ L ↔ k ∈ xs.toList.map kyS) ∧
    xs.size ≤ L.length ∧ t.fits xs.size = true ∧ Ris t.place.toList ∧ (w.params.followText "set-order" = true ∨ t.led = true)
section
variable {P : Program} {w : World} {A : Around} {E : Value → Shared → Prop} {s : Shared} {a : Addr} {L : List Str}
theorem SetW.keep {h h' : Heap} (R : SetW w h a L) (k : ∀ o, h.get? a = some o → h'.get? a = some o) : SetW w h' a L := by
  obtain ⟨ob, xs, ep, t, ho, r⟩ := R
  exact ⟨ob, xs, ep, t, k ob ho, r⟩
theorem okS_is {e : Int × Value} (g : OkS w e) (k : Str) : (PySem.strKind P w).is k e.2 = true ↔ kyS e = k := by
  obtain ⟨k0, tk, h1, _⟩ := g
  unfold kyS
  rw [h1]
  constructor
  · intro q
    exact (PySem.strKind P w).inj _ _ _ (strKind_is P w k0 tk) q
  · intro q
    exact q ▸ strKind_is P w k0 tk
theorem okS_elems {l : List (Int × Value)} (g : ∀ e ∈ l, OkS w e) : ElemsOf (PySem.strKind P w) l := by
  intro e he
  obtain ⟨k, tk, h1, h2⟩ := g e he
  exact ⟨⟨k, by rw [h1]; exact strKind_is P w k tk, h2⟩, by rw [h1] <;> rfl⟩
theorem okS_mem {l : List (Int × Value)} (g : ∀ e ∈ l, OkS w e) (k : Str) : k ∈ l.map kyS ↔ ∃ e ∈ l, (PySem.strKind P w).is k e.2 = true := by
  rw [List.mem_map]
  exact ⟨fun ⟨e, he, q⟩ => ⟨e, he, (okS_is (g e he) k).2 q⟩, fun ⟨e, he, q⟩ => ⟨e, he, (okS_is (g e he) k).1 q⟩⟩

theorem setW_tail {g : Bool → Sem Unit} (hg : ∀ (b : Bool) (u : Shared) (Z : Unit → Shared → Prop), Z () u → wpAny (model P w) A (g b) Z E u) {ob : Obj} {xs ys : Array (Int × Value)} {ep : Nat} {t u : SetTable}
    (ho : s.heap.get? a = some ob) (hex : ob.ExactSet) (hd : ob.data = .set xs ep t) {M : List Str} (gy : ∀ e ∈ ys.toList, OkS w e) (ny : (ys.toList.map kyS).Nodup) (my : ∀ k, k ∈ M ↔ k ∈ ys.toList.map kyS)
    (hM : M.length < scanBound) (hl : ys.size ≤ M.length) (hf : u.fits ys.size = true) (hr : Ris u.place.toList) (led : w.params.followText "set-order" = true ∨ u.led = true) {wd : Bool} {R : Option Bool → Shared → Prop}
    (hR : ∀ h', Heap.SameBut a s.heap h' → SetW w h' a M → R (some true) { s with heap := h' }) :
    wpAny (model P w) A (do
        storeSet a ys u
        if (!wd && u.tooFull) = true then do
            g (relayAll u ys (SetTable.grown ys.size)).2.2
            storeSet a (relayAll u ys (SetTable.grown ys.size)).1 (relayAll u ys (SetTable.grown ys.size)).2.1
            pure (some true)
          else pure (some true)) R E s := by
  have hy : ys.size < scanBound := Nat.lt_of_le_of_lt hl hM
  refine wpAny_bind (wpAny_storeSet_of ho hd ?_ (fits_of_scanBound hy))
  have o1 := store_at (es' := ys) (t' := u) ho hd
  have c1 := Heap.SameBut.update s.heap a (Obj.putSet ys u)
  by_cases hc : (!wd && u.tooFull) = true
  · rw [if_pos hc]
    have q1 := relayAll_perm u ys (SetTable.grown ys.size)
    have q2 := relayAll_fits u ys (SetTable.grown ys.size)
    have q3 := relayAll_ris u ys (SetTable.grown ys.size)
    have q4 := relayAll_led u ys (SetTable.grown ys.size)
    generalize relayAll u ys (SetTable.grown ys.size) = Z at q1 q2 q3 q4 ⊢
    obtain ⟨zs, v, gave⟩ := Z
    dsimp only at q1 q2 q3 q4 ⊢
    have z1 : zs.size = ys.size := by rw [← Array.length_toList, q1.length_eq, Array.length_toList]
    refine wpAny_bind (hg _ _ _ (wpAny_bind (wpAny_storeSet_of o1 rfl ?_ (fits_of_scanBound (by rw [z1]; exact hy)))))
    have o2 := store_at (es' := zs) (t' := v) o1 rfl
    refine wpAny_pure (hR _ (c1.trans (Heap.SameBut.update _ a _)) ?_)
    exact ⟨_, zs, _, v, o2, hex, rfl, fun e he => gy e (q1.mem_iff.mp he), (q1.map kyS).nodup_iff.mpr ny, fun k => (my k).trans (q1.map kyS).mem_iff.symm, by rw [z1]; exact hl, q2, q3, led.imp id fun z => by rw [q4]; exact z⟩
  · rw [if_neg hc]
    exact wpAny_pure (hR _ c1 ⟨_, ys, _, u, o1, hex, rfl, gy, ny, my, hl, hf, hr, led⟩)

theorem setW_add {k : Str} {tk : Tok} {Q : Bool → Shared → Prop} (R : SetW w s.heap a L) (room : L.length + 1 < scanBound)
    (hQ : ∀ b h', Heap.SameBut a s.heap h' → SetW w h' a (L ++ [k]) → Q b { s with heap := h' }) :
    wpAny (model P w) A (setAddHashed a (.str k tk) (hashStr w k)) Q E s := by
  obtain ⟨ob, xs, ep, t, ho, hex, hd, g, nd, hm, hl, hf, hr, hled⟩ := R
  have kk : (PySem.strKind P w).is k (.str k tk) = true := strKind_is P w k tk
  have sc : (Value.str k tk).scannable = true := rfl
  have el : ElemsOf (PySem.strKind P w) xs.toList := okS_elems g
  have hb : xs.size < scanBound := by omega
  have hlen : (L ++ [k]).length = L.length + 1 := by simp
  unfold setAddHashed setAddHashedIn
  refine wpAny_holding (wpAny_bind (wpAny_setState_of ho hd hf ?_))
  dsimp only
  rw [byScan_of sc hb el]
  simp only [↓reduceIte]
  unfold setAddByScan
  refine wpAny_bind ?_
  refine wpAny_bind (wpAny_rule (wpAny_bind (wpAny_setScan_of kk ho hd hf el ?_)))
  cases fi : List.findIdx? (fun e => (PySem.strKind P w).is k e.2) xs.toList with
  | some j =>
    dsimp only
    obtain ⟨hj, pj, _⟩ := List.findIdx?_eq_some_iff_getElem.mp fi
    have kin : k ∈ xs.toList.map kyS := (okS_mem (P := P) g k).2 ⟨xs.toList[j], List.getElem_mem hj, pj⟩
    refine wpAny_pure (wpAny_pure (hQ false s.heap (Heap.SameBut.refl a s.heap) ⟨ob, xs, ep, t, ho, hex, hd, g, nd, fun i => ?_, by rw [hlen]; omega, hf, hr, hled⟩))
    rw [List.mem_append, List.mem_singleton, hm i]
    exact ⟨fun z => z.elim id (fun e => e ▸ kin), .inl⟩
  | none =>
    dsimp only
    have kout : k ∉ xs.toList.map kyS := fun z => by
      obtain ⟨e, he, q⟩ := (okS_mem (P := P) g k).1 z
      have c := List.findIdx?_eq_none_iff.mp fi e he
      rw [q] at c
      cases c
    have gw : ∀ (b : Bool) {u : Shared} {Z : Unit → Shared → Prop}, Z () u → wpAny (model P w) A (match b with | true => rule "set.scan.the-table-gave-way" | false => pure ()) Z E u :=
      fun b u Z q => by cases b <;> first | exact wpAny_pure q | exact wpAny_rule q
    have q0 := layNew_perm t xs (hashStr w k) (.str k tk)
    have q1 := layNew_fits t xs (hashStr w k) (.str k tk)
    have q2 := layNew_ris t xs (hashStr w k) (.str k tk) hr
    have q3 := layNew_led t xs (hashStr w k) (.str k tk)
    generalize layNew t xs (hashStr w k) (.str k tk) = Z at q0 q1 q2 q3 ⊢
    obtain ⟨ys, u, wd, gave⟩ := Z
    dsimp only at q0 q1 q2 q3 ⊢
    rw [Array.toList_push] at q0
    have pc : ys.toList.Perm ((hashStr w k, Value.str k tk) :: xs.toList) := q0.trans (List.perm_append_singleton _ _)
    have pk : (ys.toList.map kyS).Perm (k :: xs.toList.map kyS) := pc.map kyS
    have gy : ∀ e ∈ ys.toList, OkS w e := fun e he => by
      rcases List.mem_cons.mp (pc.mem_iff.mp he) with z | z
      · rw [z]; exact ⟨k, tk, rfl, rfl⟩
      · exact g e z
    have ny : (ys.toList.map kyS).Nodup := pk.nodup_iff.mpr (List.nodup_cons.mpr ⟨kout, nd⟩)
    have my : ∀ i, i ∈ L ++ [k] ↔ i ∈ ys.toList.map kyS := fun i => by
      rw [pk.mem_iff, List.mem_cons, List.mem_append, List.mem_singleton, hm i]
      exact Or.comm
    have hsz : ys.size = xs.size + 1 := by rw [← Array.length_toList, pc.length_eq, List.length_cons, Array.length_toList]
    have hbM : (L ++ [k]).length < scanBound := by rw [hlen]; exact room
    have hlM : ys.size ≤ (L ++ [k]).length := by rw [hlen, hsz]; omega
    have ld : w.params.followText "set-order" = true ∨ u.led = true := hled.imp id fun z => by rw [q3]; exact z
    refine wpAny_bind (gw _ ?_)
    split
    · refine wpAny_bind ?_
      rw [hashByValue_scannable 8 sc]
      refine wpAny_pure ?_
      refine setW_tail (M := L ++ [k]) ?_ ho hex hd gy ny my hbM hlM ?_ ?_ ?_ ?_
      · intro b s₁ Q' q; cases b <;> first | exact wpAny_pure q | exact wpAny_rule q
      · first | (split <;> first | exact q1 | exact SetTable.fits_plain_off q1) | exact q1
      · first | (split <;> exact q2) | exact q2
      · first | (split <;> exact ld) | exact ld
      · intro h' sb r; dsimp only; exact wpAny_pure (hQ true h' sb r)
    · refine wpAny_bind (wpAny_pure ?_)
      simp only [↓reduceIte]
      refine setW_tail (M := L ++ [k]) ?_ ho hex hd gy ny my hbM hlM q1 q2 ld ?_
      · intro b s₁ Q' q; cases b <;> first | exact wpAny_pure q | exact wpAny_rule q
      · intro h' sb r; dsimp only; exact wpAny_pure (hQ true h' sb r)

theorem setW_loop {I : Addr} {fp wr : List Addr} {G : Array GenState → Array GenState → Prop} {n : Nat} {Pv : Nat → Value → Prop} {St : Nat → Shared → Prop} {R : Result → Shared → Prop}
    (W : WalksS P w A.in1 I fp wr G n Pv St) (S : Addr) (nf : S ∉ fp) (ks : List Str) (hn : n = ks.length) (hb : ks.length + 1 < scanBound) (hval : ∀ i v, Pv i v → ∃ k t, ks[i]? = some k ∧ v = .str k t) :
    ∀ (d i : Nat) (s : Shared), n - i = d → i ≤ n → St i s → SetW w s.heap S (ks.take i) →
      (∀ s', Moved (S :: wr) G s s' → SetW w s'.heap S ks → R (.ok (.ret .none)) s') → codeAny (model P w) A (.builtin "set.update.loop" ⟨[.ref S, .ref I], []⟩) R s := by
  have nw : S ∉ wr := fun h => nf (W.sub _ h)
  have up : ∀ b ∈ wr, b ∈ S :: wr := fun b hb => List.mem_cons_of_mem _ hb
  intro d
  induction d with
  | zero =>
    intro i s hd hi st hS hR
    have e : i = n := by omega
    subst e
    refine codeAny_builtin F.entry_set_update_loop ?_
    rw [Around.under_plainId F.plain_set_update_loop _]
    refine wpAny_bind (m := pyNext (.ref I)) (W.done s _ _ st fun s' hm => ?_)
    have e2 : ks.take i = ks := List.take_of_length_le (by omega)
    rw [e2] at hS
    exact wpAny_pure (hR s' (hm.mono up) (hS.keep fun o e => hm.heap S o nw e))
  | succ d ih =>
    intro i s hd hi st hS hR
    have lt : i < n := by omega
    refine codeAny_builtin F.entry_set_update_loop ?_
    rw [Around.under_plainId F.plain_set_update_loop _]
    refine wpAny_bind (m := pyNext (.ref I)) (W.item i s _ _ lt st fun v s' hP st' hm => ?_)
    obtain ⟨z, t, hz, rfl⟩ := hval i v hP
    have hS' : SetW w s'.heap S (ks.take i) := hS.keep fun o e => hm.heap S o nw e
    show wpAny _ A.in1 (holding [Value.str z t] (setAdd S (.str z t)) >>= _) _ _ s'
    refine wpAny_bind (wpAny_holding ?_)
    unfold setAdd
    refine wpAny_holding (wpAny_bind ((PySem.strKind P w).pyHash (k := z) (strKind_is _ _ _ _) ?_))
    refine setW_add (s := { s' with toks := s'.toks + 1 }) hS' (by rw [List.length_take]; omega) fun b h' sb hS2 => ?_
    have hS3 : SetW w h' S (ks.take (i + 1)) := by
      rw [List.take_add_one, hz]
      exact hS2
    refine wpAny_pure ⟨plainId_quiet F.plain_set_update_loop _, ih (i + 1) _ (by omega) lt (W.frame _ s' _ _ st' (Nat.le_succ _) fun c hc o e => ?_) hS3 fun s'' hm2 hS4 => ?_⟩
    · exact (sb.2 c (fun h : c = S => nf (by rw [← h]; exact hc))).trans e
    · refine hR s'' (Moved.trans W.gtrans ((hm.mono up).then_heap (Nat.le_succ _) fun c o hc e => ?_) hm2) hS4
      exact (sb.2 c (fun h : c = S => hc (by rw [h]; exact List.mem_cons_self))).trans e

/-- the object of a new set -/
def newSet (w : World) : Obj := { cls := .type "set", dict := none, data := .set #[] 0 (.fresh 0 0 (!w.params.followText "set-order")) }
theorem setW_new {h : Heap} (w : World) {b : Addr} (ho : h.get? b = some (newSet w)) : SetW w h b [] :=
  ⟨_, #[], 0, _, ho, ⟨rfl, rfl, rfl⟩, rfl, (fun e he => by simp at he), (by simp), (fun k => by simp), (by simp), (by rfl), List.Pairwise.nil, by
    show _ ∨ (!w.params.followText "set-order") = true
    cases w.params.followText "set-order"
    · exact .inr rfl
    · exact .inl rfl⟩

theorem strs_val {items : Array Value} {ks : List Str} (hit : StrsAre items.toList ks) : items.size = ks.length ∧ ∀ (i : Nat) (v : Value), items[i]? = some v → ∃ k t, ks[i]? = some k ∧ v = .str k t := by
  have e : items.size = ks.length := by
    have q := SS.strs_at hit
    have q2 := StrsAre.length hit
    rw [Array.length_toList] at q2
    exact q2
  refine ⟨e, fun i v hv => ?_⟩
  have hi : i < ks.length := by rw [← e]; exact (Array.getElem?_eq_some_iff.mp hv).1
  obtain ⟨t, q⟩ := SS.strs_at hit i v (by rw [Array.getElem?_toList]; exact hv)
  exact ⟨ks[i], t, List.getElem?_eq_getElem hi, by rw [q, List.getD_eq_getElem?_getD, List.getElem?_eq_getElem hi] <;> rfl⟩

end
end FB

set_option Elab.async false
set_option linter.all false
set_option maxRecDepth 100000
set_option maxHeartbeats 4000000
/-! FB, part t: set(xs) of a tuple or list of texts. -/
namespace FB
open PySem PySem.Spec PyProof.Rows L2
section
variable {P : Program} {w : World} {A : Around} {E : Value → Shared → Prop} {s : Shared}
set_option maxRecDepth 100000 in
set_option maxHeartbeats 3200000 in
theorem setW_call {l : Addr} {items : Array Value} (ks : List Str) {Q : Value → Shared → Prop} (hh : A.handled = none) (hl : s.heap.IsTuple l items ∨ s.heap.IsList l items) (hit : StrsAre items.toList ks) (hb : ks.length + 1 < scanBound)
    (h : ∀ (h' : Heap) (tk : Nat), SetW w h' s.heap.objs.size ks → (∀ b o, s.heap.get? b = some o → h'.get? b = some o) → Q (.ref s.heap.objs.size) { s with heap := h', toks := tk }) :
    wpAny (model P w) A (call (.type "set") [.ref l]) Q E s := by
  obtain ⟨hisz, hval⟩ := strs_val hit
  obtain ⟨c, tl, hmro⟩ := F.called_set.mro
  have m1 := F.called_set.made
  have m2 := F.called_set.sub
  refine wpAny_call (codeAny_of_tree ?_)
  show wpAny _ _ (callAny (.type "set") _) _ _ _
  refine wpAny_pure ⟨Code.quiet_builtin _ (by decide +kernel), codeAny_builtin F.entry_type_call ?_⟩
  rw [Around.under_plain (weight_type_call_type "set" [.ref l] []) rfl]
  have m3 := F.called_set.notType
  have m4 := F.called_set.canCreate
  have m5 := F.typeCall_set_1 (.ref l)
  repeat (any_goals (first | assumption | wp_step))

  refine codeAny_mono (code_set_led1 (.ref l) (E := E) (Q₁ := fun obj s₁ => obj = .ref s.heap.objs.size ∧ s₁ = { s with heap := s.heap.push (newSet w) }) ⟨rfl, rfl⟩) fun r s₁ hr => ?_
  cases r with
  | error e => exact hr
  | ok fl =>
    cases fl with
    | ret obj =>
      obtain ⟨rfl, rfl⟩ := hr
      have hS : (s.heap.push (newSet w)).get? s.heap.objs.size = some (newSet w) := Heap.get?_push_size _ rfl
      have hT : Shared.TypeIs { s with heap := s.heap.push (newSet w) } (.ref s.heap.objs.size) "set" := ⟨_, hS, rfl⟩
      have m6 := F.called_set.init.lookup
      have m7 := F.called_set.init.bind (.ref s.heap.objs.size)
      repeat (any_goals (first | assumption | wp_step))

      refine codeAny_mono (codeAny_call_builtin (R := wants (fun r s₂ => r = .none ∧ ∃ h' tk, s₂ = { s with heap := h', toks := tk } ∧ SetW w h' s.heap.objs.size ks ∧
          (∀ b o, s.heap.get? b = some o → h'.get? b = some o)) E) F.called_set.init.plain F.entry_set_init (check_set_init_1 hT ?_)) fun r₂ s₂ hr₂ => ?_
      · have fin : ∀ (it : Obj) (s' : Shared), Moved (s.heap.objs.size :: [(s.heap.push (newSet w)).objs.size]) (fun a b => b = a) { s with heap := (s.heap.push (newSet w)).push it } s' → SetW w s'.heap s.heap.objs.size ks →
            ∃ h' tk, s' = { s with heap := h', toks := tk } ∧ SetW w h' s.heap.objs.size ks ∧ (∀ b o, s.heap.get? b = some o → h'.get? b = some o) := by
          intro it s' hm hS'
          obtain ⟨h', g2, d', tk', os'⟩ := s'
          have eg : g2 = s.gens := hm.gens
          have ed : d' = s.drawn := hm.drawn
          have eo : os' = s.os := hm.os
          subst eg; subst ed; subst eo
          refine ⟨h', tk', rfl, hS', fun b o e => ?_⟩
          have b0 : b < s.heap.objs.size := Heap.lt_size e
          have b1 : b ≠ s.heap.objs.size := Nat.ne_of_lt b0
          have b2 : b ≠ (s.heap.push (newSet w)).objs.size := by
            rw [Heap.size_push]; exact Nat.ne_of_lt (Nat.lt_succ_of_lt b0)
          exact hm.heap b o (by simp only [List.mem_cons, List.mem_singleton, List.not_mem_nil, or_false, not_or]; exact ⟨b1, b2⟩) (Heap.get?_push_of_some _ (Heap.get?_push_of_some _ e))
        have hh3 : A.in1.in1.in1.handled = none := by simp [hh]
        rcases hl with hl | hl
        · obtain ⟨ol, hol, hcl, nl, hdl⟩ := hl
          obtain ⟨ocls, odict, odata, oslots⟩ := ol
          simp only at hcl hdl
          subst hcl; subst hdl
          have hol' : (s.heap.push (newSet w)).get? l = some { cls := .type "tuple", dict := odict, data := .seq items nl, slots := oslots } := Heap.get?_push_of_some _ hol
          have m8 := F.sub_tuple_set
          have m9 := F.sub_tuple_frozenset
          have hne : (Value.type "tuple" == Value.type "dict") = false := by decide
          have hl1 : (s.heap.push (newSet w)).IsTuple l items := ⟨_, hol', rfl, nl, rfl⟩
          unfold Builtin.«set.__init__» noKeywords Builtin.Frozenset.updateFrom
          generalize hPI : pyIter = PI
          wp_walk
          subst hPI
          refine wpAny_pyIter_tuple hl1 ?_
          refine wpAny_bind (wpAny_runValue ?_)
          have hlS : l < s.heap.objs.size := Heap.lt_size hol
          have hneI : l ≠ (s.heap.push (newSet w)).objs.size := by
            rw [Heap.size_push]; exact Nat.ne_of_lt (Nat.lt_succ_of_lt hlS)
          have nf : s.heap.objs.size ∉ [(s.heap.push (newSet w)).objs.size, l] := by
            rw [Heap.size_push]; simp only [List.mem_cons, List.mem_singleton, List.not_mem_nil, or_false, not_or]
            exact ⟨Nat.ne_of_lt (Nat.lt_succ_self _), Nat.ne_of_gt hlS⟩
          refine setW_loop ((Walks.tuple hh3 _ l hneI items).toS) s.heap.objs.size nf ks hisz hb hval (items.size - 0) 0 _ (by omega) (Nat.zero_le _)
            ⟨⟨_, Heap.get?_push_size _ rfl, rfl, rfl⟩, (hl1.push _)⟩ (setW_new w (Heap.get?_push_of_some _ hS)) fun s' hm hS' => ?_
          obtain ⟨h', tk, e, r⟩ := fin _ s' hm hS'
          show wpAny _ _ _ _ _ _
          refine wpAny_pure ?_
          show wpAny _ _ (ret Value.none) _ _ _
          exact wpAny_pure ⟨rfl, h', tk, e, r⟩
        · obtain ⟨ol, hol, hcl, nl, hdl⟩ := hl
          obtain ⟨ocls, odict, odata, oslots⟩ := ol
          simp only at hcl hdl
          subst hcl; subst hdl
          have hol' : (s.heap.push (newSet w)).get? l = some { cls := .type "list", dict := odict, data := .seq items nl, slots := oslots } := Heap.get?_push_of_some _ hol
          have m8 := F.sub_list_set
          have m9 := F.sub_list_frozenset
          have hne : (Value.type "list" == Value.type "dict") = false := by decide
          have hl1 : (s.heap.push (newSet w)).IsList l items := ⟨_, hol', rfl, nl, rfl⟩
          unfold Builtin.«set.__init__» noKeywords Builtin.Frozenset.updateFrom
          generalize hPI : pyIter = PI
          wp_walk
          subst hPI
          refine wpAny_pyIter_list hl1 ?_
          refine wpAny_bind (wpAny_runValue ?_)
          have hlS : l < s.heap.objs.size := Heap.lt_size hol
          have hneI : l ≠ (s.heap.push (newSet w)).objs.size := by
            rw [Heap.size_push]; exact Nat.ne_of_lt (Nat.lt_succ_of_lt hlS)
          have nf : s.heap.objs.size ∉ [(s.heap.push (newSet w)).objs.size, l] := by
            rw [Heap.size_push]; simp only [List.mem_cons, List.mem_singleton, List.not_mem_nil, or_false, not_or]
            exact ⟨Nat.ne_of_lt (Nat.lt_succ_self _), Nat.ne_of_gt hlS⟩
          refine setW_loop ((Walks.list hh3 _ l hneI items).toS) s.heap.objs.size nf ks hisz hb hval (items.size - 0) 0 _ (by omega) (Nat.zero_le _)
            ⟨⟨_, Heap.get?_push_size _ rfl, rfl, rfl⟩, (hl1.push _)⟩ (setW_new w (Heap.get?_push_of_some _ hS)) fun s' hm hS' => ?_
          obtain ⟨h', tk, e, r⟩ := fin _ s' hm hS'
          show wpAny _ _ _ _ _ _
          refine wpAny_pure ?_
          show wpAny _ _ (ret Value.none) _ _ _
          exact wpAny_pure ⟨rfl, h', tk, e, r⟩
      · cases r₂ with
        | error e => exact hr₂
        | ok fl₂ =>
          cases fl₂ with
          | ret r =>
            obtain ⟨rfl, h', tk, rfl, hS', hk'⟩ := hr₂
            repeat (any_goals (first | assumption | wp_step))
            exact h _ _ hS' hk'
          | _ => exact hr₂.elim
    | _ => exact hr.elim
end
end FB

set_option Elab.async false
set_option linter.all false
set_option maxRecDepth 100000
set_option maxHeartbeats 4000000
/-! FB, part u: sorted(set(xs)) of a tuple or list of texts. -/
namespace FB
open PySem PySem.Spec PyProof.Rows L2
section
variable {P : Program} {w : World} {A : Around} {E : Value → Shared → Prop} {s : Shared} {a : Addr} {L : List Str}
theorem strs_of : ∀ (l : List Value), (∀ v ∈ l, ∃ k tk, v = Value.str k tk) → StrsAre l (l.map PyProof.Rows.strOf) := fun l h => strsAre_map l h
theorem setW_sorted {Q : Value → Shared → Prop} (R : SetW w s.heap a L) (hh : A.handled = none) (h64 : L.length < 64)
    (hQ : ∀ s' p (out : Array Value) (c : Nat) (ks : List Str), (∀ b o, s.heap.get? b = some o → s'.heap.get? b = some o) → s'.gens = s.gens → s'.os = s.os → s.heap.objs.size ≤ p → s'.heap.get? p = some (seqObj "list" out c) →
      StrsAre out.toList ks → sortedS ks = true → ks.Nodup → (∀ k, k ∈ ks ↔ k ∈ L) → ks.length ≤ L.length → Q (.ref p) s') : wpAny (model P w) A (call (.builtin "sorted") [.ref a]) Q E s := by
  obtain ⟨ob, xs, ep, t, ho, hex, hd, g, nd, hm, hl, hf, hr, hled⟩ := R
  have hb : xs.size < scanBound := by unfold scanBound; omega
  refine Calls.call_function_entry kind_sorted plain_sorted entry_sorted (args_sorted1 _) ?_
  unfold Builtin.«sorted»
  refine wpAny_bind (m := checkCount "sorted" 1 1 _) (wpAny_pure (wpAny_bind (collect_set (A := A.in1) hh ⟨ob, ho, hex.1, hd⟩ hf hb hr hled fun s1 vs k1 hz g1 o1 pm => ?_)))
  have hvl : vs.length = xs.size := by rw [pm.length_eq, List.length_map, Array.length_toList]
  have st : ∀ v ∈ vs, ∃ k tk, v = Value.str k tk := fun v hv => by
    obtain ⟨e, he, q⟩ := List.mem_map.mp (pm.mem_iff.mp hv)
    obtain ⟨k, tk, h1, _⟩ := g e he
    exact ⟨k, tk, by rw [← q]; exact h1⟩
  have hI : StrsAre vs (vs.map PyProof.Rows.strOf) := strs_of vs st
  have pk : (vs.map PyProof.Rows.strOf).Perm (xs.toList.map kyS) := by
    have q := pm.map PyProof.Rows.strOf
    rw [List.map_map] at q
    have e : xs.toList.map (PyProof.Rows.strOf ∘ fun x => x.2) = xs.toList.map kyS := List.map_congr_left fun e he => by
      obtain ⟨k, tk, h1, _⟩ := g e he
      show PyProof.Rows.strOf e.2 = kyS e
      unfold kyS
      rw [h1]
      rfl
    rw [← e]
    exact q
  refine wpAny_bind (wpAny_newList ?_ (by rw [hvl, sizeLine_eq]; omega))
  have hoL : (s1.heap.push (seqObj "list" vs.toArray 0)).get? s1.heap.objs.size = some (seqObj "list" vs.toArray 0) := Heap.get?_push_size _ rfl
  refine wpAny_bind (wpAny_holding (wpAny_call_entry slot_list_sort ⟨_, hoL, rfl⟩ entry_list_sort (list_sort_treeK strKind_oneLt hoL hI.keysOf (fun v₁ v₂ rest e => keyKind_strs (by rw [← e]; exact hI)) (by rw [hvl]; omega) fun st' a1 a2 => ⟨_, rfl, ?_⟩) (args_list_sort _)))
  obtain ⟨ks, b1, b2, b3⟩ := sorted_out_str hI a1 a2
  obtain ⟨c, hc⟩ := sortedHeap_at (vs := vs) (out := (arrOf st').map (·.2)) hoL
  have pn : ks.Perm (xs.toList.map kyS) := b2.trans pk
  refine wpAny_pure ⟨_, rfl, hQ _ s1.heap.objs.size _ c ks (fun b u e => ?_) g1 o1 hz hc b1 b3 (pn.nodup_iff.mpr nd) (fun k => by rw [pn.mem_iff, hm k]) ?_⟩
  · have q := k1 b u e
    have lt := Heap.lt_size q
    exact (sortedHeap_old (Nat.ne_of_lt lt) (by rw [size_push']; exact Nat.lt_succ_of_lt lt)).trans (Heap.get?_push_of_some _ q)
  · rw [pn.length_eq, List.length_map, Array.length_toList]; exact hl
end

section
variable {X : Cx}
/-- sorted(set(xs)): the texts of xs, each once, growing -/
def tSortSet (K : PySem.W.Frag) (ta : TE) : TE := fun σ H Q => ta σ H fun x H1 => ∃ l, ∃ xs : List Str, x = .ref l ∧ (SqL K H1 l (xs.map V.str) ∨ SqT K H1 l (xs.map V.str)) ∧ xs.length < 64 ∧
  ∀ (ks : List Str) (p : Addr), sortedS ks = true → ks.Nodup → (∀ k, k ∈ ks ↔ k ∈ xs) → ks.length ≤ xs.length → H1 p = none → Q (.ref p) (upd H1 p (.lst (ks.map V.str)))
theorem pe_sortSet {K : PySem.W.Frag} {a : Expr} {ta : TE} {p p2 q pos : Pos} (hc : X.calm = true) (hg : Gl X "sorted") (hm : X.mg "sorted" = none) (hg2 : Gl X "set") (hm2 : X.mg "set" = none) (ha : PE X a ta)
    (na : starEach [a] X.env = (false, eval a X.env) :: starEach [] X.env := by rfl) (hK : X.K = K := by rfl) : PE X (.Call (.Name "sorted" p) [.Call (.Name "set" p2) [a] [] q] [] pos) (tSortSet K ta) := by
  subst hK
  refine ⟨fun pins s σ H Q I h => ?_⟩
  refine Call_ (ld_blt (u := .builtin "sorted") I hg hm (by decide +kernel) (PyProof.Rows.callWith_builtin1 (PyProof.Rows.args_cons ?_ rfl) rfl rfl))
  refine Call_ (ld_blt I hg2 hm2 boot_set ?_)
  refine PyProof.Rows.callWith_type1 (PyProof.Rows.args_cons (thn (ha.run pins s σ H _ I h) fun v s1 ⟨x, H1, I1, r1, q1⟩ => PyProof.Rows.args_nil ?_) na) na rfl
  obtain ⟨l, xs, rfl, hq, h64, q1⟩ := q1
  cases r1
  have hb : xs.length + 1 < scanBound := by unfold scanBound; omega
  have fin : ∀ (h' : Heap) (tk : Nat), SetW X.w h' s1.heap.objs.size xs → (∀ b o, s1.heap.get? b = some o → h'.get? b = some o) →
      wpAny (model X.prog X.w) X.A (spliced (backTo pos (starEach [] X.env))) (fun vs s₂ => wpAny (model X.prog X.w) X.A (call (.builtin "sorted") (Value.ref s1.heap.objs.size :: vs)) (EP X pins σ Q) X.xe s₂) X.xe { s1 with heap := h', toks := tk } := fun h' tk hS hk => by
    refine PyProof.Rows.args_nil ?_
    have I2 : Inv X pins σ H1 { s1 with heap := h', toks := tk } := I1.kept fun b o e => hk b o e
    generalize hs2 : ({ s1 with heap := h', toks := tk } : Shared) = s2 at I2 ⊢
    have hS2 : SetW X.w s2.heap s1.heap.objs.size xs := by rw [← hs2]; exact hS
    refine setW_sorted hS2 (I2.ok.hd hc) h64 fun s' p out c ks k g o hp hg hi hs hn hm hle => ?_
    have hlen : (ks.map V.str).length ≤ sizeLine := by rw [List.length_map, sizeLine_eq]; omega
    have hnp : H1 p = none := I2.hok.fresh hp
    have J : Inv X pins σ (upd H1 p (.lst (ks.map V.str))) { s2 with heap := s'.heap, gens := s'.gens, drawn := s'.drawn, toks := s'.toks } :=
      I2.call (ch := []) (Un.laid k hp hnp) (I2.hok.laid k hp ⟨hlen, out.toList, c, vals_of_strs hi, hg⟩) (by rw [g]; exact I2.bare) (fun _ z => nomatch z)
    have e : s' = { s2 with heap := s'.heap, gens := s'.gens, drawn := s'.drawn, toks := s'.toks } := by
      cases s'
      cases s2
      cases o
      rfl
    rw [e]
    exact ⟨.ref p, _, J, rfl, q1 ks p hs hn hm hle hnp⟩
  rcases hq with hq | hq
  · obtain ⟨its, r, pl, hz⟩ := I1.list hq
    exact setW_call xs (I1.ok.hd hc) (.inr pl.isList) (by simpa using strsAre_of r) hb fun h' tk hS hk => fin h' tk hS hk
  · obtain ⟨its, r, pl, hz⟩ := I1.tuple hq
    exact setW_call xs (I1.ok.hd hc) (.inl pl) (by simpa using strsAre_of r) hb fun h' tk hS hk => fin h' tk hS hk
end
end FB

set_option Elab.async false
set_option linter.all false
set_option maxRecDepth 100000
set_option maxHeartbeats 4000000
/-! FB, part v: t[::-1], t[:k:-1]. -/
namespace FB
open PySem PySem.Spec PyProof.Rows L2 HT
/-- how many items t[:hi:-1] has -/
def rvN (n : Nat) : Option Int → Nat
  | none => n
  | some j => n - 1 - j.toNat
theorem rvN_le (n : Nat) (hi : Option Int) : rvN n hi ≤ n := by
  cases hi with
  | none => exact Nat.le_refl _
  | some j => show n - 1 - j.toNat ≤ n; omega
def revV {α : Type} (xs : List α) (hi : Option Int) : List α := (xs.drop (xs.length - rvN xs.length hi)).reverse
theorem rv_places (n : Nat) (hi : Option Int) (h0 : ∀ j, hi = some j → 0 ≤ j) : ∃ e, Builtin.Slice.sliceAdjust none hi (-1) (n : Int) = ((n : Int) - 1, e) ∧ Builtin.Slice.slicePlaces ((n : Int) - 1) e (-1) = rvN n hi := by
  have hm : ((-1 : Int) < 0) := by decide
  have hp : ¬ ((-1 : Int) > 0) := by decide
  cases hi with
  | none =>
    refine ⟨-1, rfl, ?_⟩
    unfold Builtin.Slice.slicePlaces
    rw [if_neg hp]
    show (if (n : Int) - 1 > -1 then ((n : Int) - 1 - -1 - 1) / (- -1) + 1 else 0).toNat = n
    rw [show (- -1 : Int) = 1 by decide, Int.ediv_one]
    split <;> omega
  | some j =>
    have hj := h0 j rfl
    have hn : ¬ (j < 0) := by omega
    refine ⟨min j ((n : Int) - 1), ?_, ?_⟩
    · unfold Builtin.Slice.sliceAdjust
      simp only [hm, if_true, hn, if_false]
    · unfold Builtin.Slice.slicePlaces
      rw [if_neg hp]
      show (if (n : Int) - 1 > min j ((n : Int) - 1) then ((n : Int) - 1 - min j ((n : Int) - 1) - 1) / (- -1) + 1 else 0).toNat = n - 1 - j.toNat
      rw [show (- -1 : Int) = 1 by decide, Int.ediv_one]
      split <;> omega
theorem fm_congr {α β : Type} {f g : α → Option β} : ∀ {l : List α}, (∀ x ∈ l, f x = g x) → l.filterMap f = l.filterMap g
  | [], _ => rfl
  | x :: l, h => by
    rw [List.filterMap_cons, List.filterMap_cons, h x List.mem_cons_self, fm_congr fun y hy => h y (List.mem_cons_of_mem _ hy)]
theorem rv_pick (xs : Array Value) (k : Nat) (hk : k ≤ xs.size) : ((List.range k).filterMap fun (m : Nat) => xs[(((xs.size : Int) - 1) + (m : Int) * (-1)).toNat]?).toArray = (xs.toList.drop (xs.size - k)).reverse.toArray := by
  congr 1
  have e : (List.range k).map (fun m => xs.size - 1 - m) = ((List.range k).map (fun m => (xs.size - k) + m)).reverse := by
    apply List.ext_getElem
    · simp
    · intro i h1 h2
      rw [List.length_map, List.length_range] at h1
      rw [List.getElem_reverse]
      simp only [List.getElem_map, List.getElem_range, List.length_map, List.length_range]
      omega
  have e2 : ((List.range k).filterMap fun (m : Nat) => xs[(((xs.size : Int) - 1) + (m : Int) * (-1)).toNat]?) = ((List.range k).map (fun m => xs.size - 1 - m)).filterMap (xs[·]?) := by
    rw [List.filterMap_map]
    refine fm_congr fun m hm => ?_
    have := List.mem_range.mp hm
    show xs[_]? = xs[xs.size - 1 - m]?
    congr 1
    omega
  rw [e2, e, List.filterMap_reverse, PySem.pick_run, List.take_of_length_le (by rw [List.length_drop, Array.length_toList]; omega)]
section
variable {prog : Program} {w : World} {A : Around} {E : Value → Shared → Prop} {s : Shared}
theorem rv_applied {sl : Addr} {vl vu vs : Value} {hi : Option Int} {n : Nat} {Q : Int × Int × Nat → Shared → Prop} (hs : s.heap.IsSliceOf sl vl vu vs) (pl : IsPart vl none) (pu : IsPart vu hi) (ps : IsPart vs (some (-1))) (h0 : ∀ j, hi = some j → 0 ≤ j)
    (h : Q ((n : Int) - 1, -1, rvN n hi) s) : wpAny (model prog w) A (Builtin.Slice.sliceApplied (.ref sl) (pure (n : Int))) Q E s := by
  obtain ⟨os, hos, hcs, hds⟩ := id hs
  unfold Builtin.Slice.sliceApplied Builtin.Slice.sliceFields
  refine wpAny_bind (wpAny_bind (wpAny_field hos hds (x := vl) rfl (wpAny_bind (wpAny_field hos hds (x := vu) rfl (wpAny_bind (wpAny_field hos hds (x := vs) rfl (wpAny_pure ?_)))))))
  refine wpAny_bind (slicePart_ ps ?_)
  show wpAny _ _ (if ((-1 : Int) == 0) = true then _ else _) _ _ s
  rw [if_neg (by decide)]
  refine wpAny_bind (slicePart_ pl (wpAny_bind (slicePart_ pu (wpAny_bind (wpAny_pure ?_)))))
  obtain ⟨e, h1, h2⟩ := rv_places n hi h0
  show wpAny _ _ (match Builtin.Slice.sliceAdjust none hi (-1) (n : Int) with | (a, b) => pure (a, (-1 : Int), Builtin.Slice.slicePlaces a b (-1))) _ _ s
  rw [h1]
  show wpAny _ _ (pure ((n : Int) - 1, (-1 : Int), Builtin.Slice.slicePlaces ((n : Int) - 1) e (-1))) _ _ s
  rw [h2]
  exact wpAny_pure h
theorem rv_item {t sl : Addr} {items : Array Value} {vl vu vs : Value} {hi : Option Int} {Q : Value → Shared → Prop} (ht : IsTup s.heap t items) (hs : s.heap.IsSliceOf sl vl vu vs) (pl : IsPart vl none) (pu : IsPart vu hi) (ps : IsPart vs (some (-1)))
    (h0 : ∀ j, hi = some j → 0 ≤ j) (h : Q (.ref s.heap.objs.size) { s with heap := s.heap.push { cls := .type "tuple", data := .seq (items.toList.drop (items.size - rvN items.size hi)).reverse.toArray } })
    (hsz : items.size ≤ sizeLine) : wpAny (model prog w) A (getItem (.ref t) (.ref sl)) Q E s := by
  have fits : sizeOk (.seq (items.toList.drop (items.size - rvN items.size hi)).reverse.toArray) := by
    show (items.toList.drop (items.size - rvN items.size hi)).reverse.toArray.size ≤ sizeLine
    rw [List.size_toArray, List.length_reverse, List.length_drop, Array.length_toList]
    omega
  obtain ⟨os, hos, hcs, hds⟩ := id hs
  have hTs : s.TypeIs (.ref sl) "slice" := ⟨os, hos, hcs⟩
  unfold getItem
  try with_reducible refine wpAny_holding ?_
  first | refine wpAny_bind (wpAny_pure ?_) | skip
  refine wpAny_bind (wpAny_sequenceKey ht.typeIs (by decide) ?_)
  refine wpAny_bind (wpAny_callSpecial?_slot (name := Str.ofString "__getitem__") ht.typeIs slot_tuple_getitem (wpAny_call_entry slot_tuple_getitem ht.typeIs entry_tuple_getitem ?_ (args_tuple_getitem _ _)))
  show wpAny _ _ (Builtin.Tuple.tupleItemsOf (.ref t) >>= _) _ _ s
  refine wpAny_bind (tupleItemsOf_ ht (wpAny_bind (wpAny_typeOf hTs ?_)))
  rw [if_pos (by decide)]
  refine wpAny_bind (rv_applied hs pl pu ps h0 ?_)
  have hno : ¬ ((((items.size : Int) - 1 == 0) && ((-1 : Int) == 1) && (rvN items.size hi == items.size)) = true) := by
    intro q
    rw [Bool.and_eq_true, Bool.and_eq_true] at q
    exact absurd q.1.2 (by decide)
  show wpAny _ _ (if (((items.size : Int) - 1 == 0) && ((-1 : Int) == 1) && (rvN items.size hi == items.size)) = true then _ else _) _ _ s
  rw [if_neg hno, rv_pick items _ (rvN_le _ _)]
  first
    | exact wpAny_bind (m := Builtin.Tuple.tupleExact _) (wpAny_newObj_type (wpAny_pure ⟨_, rfl, wpAny_pure h⟩) fits)
    | exact wpAny_bind (m := Builtin.Tuple.tupleExact _) (wpAny_newObj_type (wpAny_bind (wpAny_pure (wpAny_pure ⟨_, rfl, wpAny_pure h⟩))) fits)
    | exact wpAny_bind (wpAny_bind (m := Builtin.Tuple.tupleExact _) (wpAny_newObj_type (wpAny_pure (wpAny_pure ⟨_, rfl, wpAny_pure h⟩)) fits))
    | exact wpAny_bind (wpAny_bind (m := Builtin.Tuple.tupleExact _) (wpAny_newObj_type (wpAny_pure ⟨_, rfl, wpAny_pure h⟩) fits))
end
/-- t[:hi:-1] -/
def tRevT (K : PySem.W.Frag) (te : TE) (th : TO) : TE := fun σ H Q => te σ H fun x H1 => th σ H1 fun hi H2 => ∃ a xs, x = .ref a ∧ SqT K H2 a xs ∧ (∀ j, hi = some j → 0 ≤ j) ∧ ∀ p, H2 p = none → Q (.ref p) (upd H2 p (.tup (revV xs hi)))
section
variable {X : Cx}
theorem pe_revT {K : PySem.W.Frag} {e : Expr} {te : TE} {hi : Option Expr} {th : TO} {k : Nat} {p1 p2 p3 pos : Pos} (he : PE X e te) (hh : PO X hi th) (hK : X.K = K := by rfl) : PE X (.Subscript e (.Slice none hi (some (.UnaryOp .USub (.Constant (.int 1) k p1) p2)) p3) pos) (tRevT K te th) := by
  subst hK
  refine ⟨fun pins s σ H Q I h => ?_⟩
  refine Subscript_ (thn (he.run pins s σ H _ I h) fun v s1 ⟨x, H1, I1, r1, q1⟩ => ?_)
  have hst : PO X (some (.UnaryOp .USub (.Constant (.int 1) k p1) p2)) (tPart (tUn (rU fun i => .int (-i)) (tC (.int 1)))) := po_some (pe_un un_neg pe_int)
  refine wpAny_Slice (thn (po_none.run pins s1 σ H1 (fun o H2 => o = none ∧ H2 = H1) I1 ⟨rfl, rfl⟩) fun vl s2 ⟨l, H2, I2, pl, el, e2⟩ => ?_)
  subst el e2
  refine thn (hh.run pins s2 σ H2 _ I2 q1) fun vu s3 ⟨u, H3, I3, pu, q2⟩ => ?_
  refine thn (hst.run pins s3 σ H3 (fun o H4 => o = some (-1) ∧ H4 = H3) I3 ⟨1, rfl, -1, rfl, rfl, rfl⟩) fun vs s4 ⟨o, H4, I4, ps, eo, e4⟩ => ?_
  subst eo e4
  obtain ⟨a, xs, ex, hx, h0, q⟩ := q2
  subst ex
  cases r1
  have I5 : Inv X pins σ H4 { s4 with heap := s4.heap.push { cls := .type "slice", data := .fields #[vl, vu, vs] } } := I4.kept (t' := s4.toks) fun b ob q => Heap.get?_push_of_some _ q
  obtain ⟨its, r, ht, hz⟩ := I5.tuple hx
  have hlen := r.length
  show wpAny (model X.prog X.w) X.A (subscriptTail e (.Slice none hi (some (.UnaryOp .USub (.Constant (.int 1) k p1) p2)) p3) (.ref a) (.ref s4.heap.objs.size)) (EP X pins σ Q) X.xe { s4 with heap := s4.heap.push { cls := .type "slice", data := .fields #[vl, vu, vs] } }
  refine tail_any (ops := [.ref a, .ref s4.heap.objs.size]) ht.typeIs slot_tuple_getitem.lookup ?_ (by with_unfolding_all rfl)
  refine rv_item ht (Heap.IsSliceOf.new _ vl vu vs) pl pu ps h0 ?_ (by rw [List.size_toArray]; omega)
  refine ⟨.ref _, _, I5.laid (t' := s4.toks) (o := .tup (revV xs u)) (fun b ob q => Heap.get?_push_of_some _ q) (Nat.le_refl _) ?_, rfl, q _ (I5.hok.fresh (Nat.le_refl _))⟩
  refine ⟨?_, (its.drop (its.toArray.size - rvN its.toArray.size u)).reverse, ?_, ⟨_, Heap.get?_push_size _ rfl, rfl, 0, rfl⟩⟩
  · unfold revV
    rw [List.length_reverse, List.length_drop]
    omega
  · unfold revV
    rw [List.size_toArray, ← hlen]
    exact (r.drop _).reverse
end
end FB

set_option Elab.async false
set_option linter.all false
set_option maxRecDepth 100000
set_option maxHeartbeats 4000000
/-! FB, part w: zips of two, pairs unpacked, growing texts. -/
namespace FB
open PySem PySem.Spec PyProof.Rows L2 RZ
section
variable {X : Cx} {K : PySem.W.Frag} {tg l : Expr} {ta : TA}
theorem k_piz (hl : PI X tg l (iZipA X.K ta)) (h : X.K = K := by rfl) : PI X tg l (iZipA K ta) := h ▸ hl
theorem k_pgt {es : List Expr} {k : Nat} {t : TGs} {n : Nat} {pos : Pos} (h : PGs X es t) (hc : X.calm = true := by rfl) (hn : (assignEach es X.env).length = n := by rfl) (hst : (assignEach es X.env).findIdx? (·.1) = none := by rfl) (hK : X.K = K := by rfl) :
    PG X (.Tuple es k pos) (gTup K n t) := hK ▸ pg_tup hc h hn hst
end
/-- a list, a tuple (t) -/
def sq (t : Bool) (xs : List V) : HO := if t then .tup xs else .lst xs
section
variable {z : Zn} {K : PySem.W.Frag} {σ : L2.St} {H : Hp} {te : TE} {ta : TA}
/-- [elt for x, y in zip(a, b)] -/
theorem ev_lcZ {t : Bool} {xs ys : List V} {j k : Nat} {vs : List Nat} {φ : Nat → VP} (h : EvA z ta σ H fun us H' => ∃ a b, us = [.ref a, .ref b] ∧ ¬ z.U a ∧ ¬ z.U b ∧ H' a = some (sq t xs) ∧ H' b = some (sq t ys)) (hl : ys.length ≤ xs.length) (hn : ys.length ≤ 100000)
    (hv : ∀ x y, wipe (((wipe σ vs).set j (some x)).set k (some y)) vs = wipe σ vs)
    (hb : ∀ i x y D H1, xs[i]? = some x → ys[i]? = some y → H D = none → z.R H H1 → (z.add D).R H1 H1 → Ev (z.add D) te (((wipe σ vs).set j (some x)).set k (some y)) H1 (φ i)) :
    Ev z (tLc (iZipA K ta) (gTup K 2 (gCons (gName j) (gCons (gName k) gNil))) tYes te vs) σ H (Lst z fun ws H' => ws.length = ys.length ∧ ∀ i w, ws[i]? = some w → φ i w H') := fun H1 e Q q => by
  refine h H1 e _ fun us H2 e2 f => ?_
  obtain ⟨a, b, rfl, na, nb, _, _⟩ := f H2 .refl
  have st : ∀ H', z.W H2 H' → H' a = some (sq t xs) ∧ H' b = some (sq t ys) := fun H' w => by
    obtain ⟨a', b', e', _, _, ha, hb⟩ := f H' w
    cases e'
    exact ⟨ha, hb⟩
  obtain ⟨J, hJ, hgo, hstop, hyld⟩ : ∃ J : It, (∀ R' : It → Hp → Prop, R' J H2 → ∃ a' b' xs' ys', ([V.ref a, V.ref b] : List V) = [.ref a', .ref b'] ∧ ((SqL K H2 a' xs' ∧ SqL K H2 b' ys' ∧ R' (Itz K a' b') H2) ∨ (SqT K H2 a' xs' ∧ SqT K H2 b' ys' ∧ R' (ItzT K a' b') H2))) ∧
      (∀ i H', z.W H2 H' → i < ys.length → J.go i H') ∧ (∀ H', z.W H2 H' → J.stop ys.length H') ∧
      (∀ i H' v H'', z.W H2 H' → i < ys.length → J.yld i H' v H'' → ∃ T x y, v = .ref T ∧ H' T = none ∧ H'' = upd H' T (.tup [x, y]) ∧ xs[i]? = some x ∧ ys[i]? = some y) := by
    cases t with
    | false =>
      have k1 : ∀ H', z.W H2 H' → SqL K H' a xs := fun H' w => .inl (.inl (st H' w).1)
      have k2 : ∀ H', z.W H2 H' → SqL K H' b ys := fun H' w => .inl (.inl (st H' w).2)
      refine ⟨Itz K a b, fun R' r => ⟨a, b, xs, ys, rfl, .inl ⟨k1 H2 .refl, k2 H2 .refl, r⟩⟩, fun i H' w hi => ⟨xs, ys, xs[i]'(by omega), ys[i], k1 H' w, k2 H' w, List.getElem?_eq_getElem _, List.getElem?_eq_getElem hi⟩, fun H' w => ⟨xs, ys, k1 H' w, k2 H' w, .inr (Nat.le_refl _)⟩, fun i H' v H'' w hi y => ?_⟩
      obtain ⟨T, x, y', e1, e2, e3, e4, e5⟩ := y
      exact ⟨T, x, y', e1, e2, e3, e4 xs (k1 H' w), e5 ys (k2 H' w)⟩
    | true =>
      have k1 : ∀ H', z.W H2 H' → SqT K H' a xs := fun H' w => .inl (.inl (st H' w).1)
      have k2 : ∀ H', z.W H2 H' → SqT K H' b ys := fun H' w => .inl (.inl (st H' w).2)
      refine ⟨ItzT K a b, fun R' r => ⟨a, b, xs, ys, rfl, .inr ⟨k1 H2 .refl, k2 H2 .refl, r⟩⟩, fun i H' w hi => ⟨xs, ys, xs[i]'(by omega), ys[i], k1 H' w, k2 H' w, List.getElem?_eq_getElem _, List.getElem?_eq_getElem hi⟩, fun H' w => ⟨xs, ys, k1 H' w, k2 H' w, .inr (Nat.le_refl _)⟩, fun i H' v H'' w hi y => ?_⟩
      obtain ⟨T, x, y', e1, e2, e3, e4, e5⟩ := y
      exact ⟨T, x, y', e1, e2, e3, e4 xs (k1 H' w), e5 ys (k2 H' w)⟩
  refine hJ (fun J H1 => tLc (fun _ _ R => R J H1) (gTup K 2 (gCons (gName j) (gCons (gName k) gNil))) tYes te vs σ H Q) fun D hD => ?_
  have hD0 : H D = none := (e.tr e2).back hD
  have nU : ¬ z.U D := e2.dr.nu hD
  have nI : z.I D = none := e2.dr.ni hD
  refine ⟨fun i m H' => i + m = ys.length ∧ z.R H2 H' ∧ ∃ acc : List V, H' D = some (.lst acc) ∧ acc.length = i ∧ ∀ k w, acc[k]? = some w → ∀ H3, (z.add D).W H' H3 → φ k w H3,
    ⟨ys.length, by omega, e2.dr.new hD, [], upd_same, rfl, fun k w h => by simp at h⟩, fun i m H' hW => ?_⟩
  obtain ⟨em, r, acc, hacc, hla, hφ⟩ := hW
  have w2 : z.W H2 H' := r.w
  by_cases hi : i < ys.length
  · right
    refine ⟨hgo i H' w2 hi, fun H'' => z.R H2 H'' ∧ ∃ acc : List V, H'' D = some (.lst acc) ∧ acc.length = i + 1 ∧ ∀ k w, acc[k]? = some w → ∀ H3, (z.add D).W H'' H3 → φ k w H3,
      fun H'' h => ⟨m - 1, by omega, by omega, h⟩, fun v H'' hy => ?_⟩
    obtain ⟨T, x, y, rfl, hT, rfl, hx, hy⟩ := hyld i H' v H'' w2 hi hy
    have TD : T ≠ D := fun q => by rw [q, hacc] at hT; cases hT
    have rT : z.R H2 (upd H' T (.tup [x, y])) := r.tr (r.dr.new hT)
    have hTD : upd H' T (HO.tup [x, y]) D = some (.lst acc) := by rw [upd_ne (Ne.symm TD)]; exact hacc
    refine ⟨T, [x, y], rfl, .inl (.inl upd_same), rfl, x, [y], rfl, y, [], rfl, rfl, hv x y, ?_⟩
    have rD : (z.add D).R (upd H' T (HO.tup [x, y])) (upd H' T (HO.tup [x, y])) := rT.dr.up (by rw [hTD]; simp) (by rw [hTD]; simp)
    refine hb i x y D _ hx hy hD0 ((e.tr e2).tr rT) rD _ rD _ fun u H4 e4 fy => ?_
    have h4D : H4 D = some (.lst acc) := e4.kp D _ nI hTD
    refine ⟨acc, h4D, Nat.lt_of_le_of_lt (show acc.length ≤ 100000 by omega) (by decide), (rT.tr e4.dn).mut hD, acc ++ [u], upd_same, by rw [List.length_append, hla]; rfl, fun k w hk H3 w3 => ?_⟩
    have w45 : (z.add D).W H4 (upd H4 D (.lst (acc ++ [u]))) := fun a o na ha => by
      rw [upd_ne fun ea => na (Or.inr ea)]
      exact ha
    have wT : (z.add D).W H' (upd H' T (HO.tup [x, y])) := fun a o na ha => by
      rw [upd_ne fun ea => by rw [ea, hT] at ha; cases ha]
      exact ha
    by_cases hk2 : k < acc.length
    · rw [List.getElem?_append_left hk2] at hk
      exact hφ k w hk H3 (((wT.tr e4.w).tr w45).tr w3)
    · have ek : k = acc.length := by
        have h5 := (List.getElem?_eq_some_iff.mp hk).1
        rw [List.length_append, List.length_cons, List.length_nil] at h5
        omega
      subst ek
      rw [List.getElem?_append_right (Nat.le_refl _), Nat.sub_self] at hk
      have ey : u = w := Option.some.inj hk
      subst ey
      rw [hla]
      exact fy H3 (w45.tr w3)
  · left
    have ei : i = ys.length := by omega
    subst ei
    exact ⟨hstop H' w2, q _ H' (e2.tr r) fun H3 w3 => ⟨D, acc, rfl, nU, w3 D _ nU hacc, hla, fun k w hk => hφ k w hk H3 w3.dn⟩⟩

/-- x, y = a pair -/
theorem q_pair {tu : TS} {D : Ends} {i j : Nat} {Φ : V → V → Hp → Prop} (hR : z.R H H) (h : Ev z te σ H (Tup z fun ws H' => ∃ v w, ws = [v, w] ∧ Φ v w H')) (k : ∀ v w H1, z.R H H1 → (∀ H2, z.W H1 H2 → Φ v w H2) → tu D ((σ.set i (some v)).set j (some w)) H1) :
    tSeq (tAsg te (gTup K 2 (gCons (gName i) (gCons (gName j) gNil)))) tu D σ H := h H hR _ fun v H1 e f => by
  obtain ⟨p, ws, rfl, nu, hp, v, w, rfl, _⟩ := f H1 .refl
  refine ⟨p, [v, w], rfl, .inl (.inl hp), rfl, v, [w], rfl, w, [], rfl, rfl, k v w H1 e fun H2 w2 => ?_⟩
  obtain ⟨p', ws', e', _, hp', v', w', ew, q⟩ := f H2 w2
  cases e'
  rw [w2 p _ nu hp] at hp'
  cases hp'
  cases ew
  exact q
/-- t[i] of a tuple that stands -/
theorem ev_ixT {tb : TE} {p : Addr} {xs : List V} {i : Nat} {v : V} {φ : VP} (ha : Ev z te σ H (Is (.ref p))) (hb : Ev z tb σ H (Is (.int (i : Int)))) (hp : ∀ H1, z.R H H1 → SqT K H1 p xs) (hv : xs[i]? = some v) (hφ : ∀ H', z.W H H' → φ v H') : Ev z (tOp (rIxT K) te tb) σ H φ :=
  ev_op2 ha hb fun H1 r => rn_val r.dr (fun Q q => ⟨p, xs, i, v, rfl, rfl, hp H1 r, atI_nat hv, q⟩) fun H' w => hφ H' (r.w.tr w)
/-- x in a tuple, a list that stands -/
theorem ev_in {tb : TE} {p : Addr} {xs : List V} {x : V} (ha : Ev z te σ H (Is x)) (hb : Ev z tb σ H (Is (.ref p))) (hp : ∀ H1, z.R H H1 → SqL K H1 p xs ∨ SqT K H1 p xs) (fx : flatV x = true) (fs : xs.all flatV = true) : Ev z (tOp (rIn K false) te tb) σ H (Is (.bl (inV x xs))) :=
  ev_op2 ha hb fun H1 r => rn_val r.dr (fun Q q => ⟨p, xs, rfl, hp H1 r, fx, fs, q⟩) fun _ _ => rfl
theorem ev_inL {tb : TE} {xs : List V} {x : V} (ha : Ev z te σ H (Is x)) (hb : Ev z tb σ H (Lst z fun ws _ => ws = xs)) (fx : flatV x = true) (fs : xs.all flatV = true) : Ev z (tOp (rIn K false) te tb) σ H (Is (.bl (inV x xs))) :=
  ev_op ha (fun _ H1 r _ => hb.up r) fun x' y H1 r e ⟨p, ws, e2, nu, hp, ew⟩ => by
    subst ew
    subst e2
    cases e
    exact rn_val r.dr (fun Q q => ⟨p, _, rfl, .inl (.inl (.inl hp)), fx, fs, q⟩) fun _ _ => rfl
/-- xs.append(v) -/
theorem ev_ltS {tb : TE} {x y : Str} (ha : Ev z te σ H (Is (.str x))) (hb : Ev z tb σ H (Is (.str y))) :
    Ev z (tOp (fun x y H Q => ∃ i j, x = .str i ∧ y = .str j ∧ Q (.bl (decide (i.cps.toList < j.cps.toList))) H) te tb) σ H (Is (.bl (decide (x.cps.toList < y.cps.toList)))) :=
  ev_op2 ha hb fun H1 r => rn_val r.dr (fun Q q => ⟨x, y, rfl, rfl, q⟩) fun _ _ => rfl
end
/-! ### growing texts -/
def ltS (x y : Str) : Bool := decide (x.cps.toList < y.cps.toList)
def grS : List Str → Bool
  | [] => true
  | x :: r => (match r with | [] => true | y :: _ => ltS x y) && grS r
theorem ltS_trans {x y w : Str} (h1 : ltS x y = true) (h2 : ltS y w = true) : ltS x w = true := by
  unfold ltS at *
  exact decide_eq_true (List.lt_trans (of_decide_eq_true h1) (of_decide_eq_true h2))
theorem ltS_irr (x : Str) : ltS x x = false := decide_eq_false (List.lt_irrefl _)
theorem grS_pw : ∀ {l : List Str}, grS l = true → l.Pairwise (fun a b => ltS a b = true)
  | [], _ => List.Pairwise.nil
  | [x], _ => List.pairwise_singleton _ _
  | x :: y :: r, h => by
    have h' : ltS x y = true ∧ grS (y :: r) = true := by simpa [grS] using h
    have p := grS_pw h'.2
    refine List.pairwise_cons.mpr ⟨fun w hw => ?_, p⟩
    rcases List.mem_cons.mp hw with e | hw
    · rw [e]; exact h'.1
    · exact ltS_trans h'.1 ((List.pairwise_cons.mp p).1 w hw)
theorem pw_grS : ∀ {l : List Str}, l.Pairwise (fun a b => ltS a b = true) → grS l = true
  | [], _ => rfl
  | [x], _ => rfl
  | x :: y :: r, h => by
    obtain ⟨h1, h2⟩ := List.pairwise_cons.mp h
    show (ltS x y && grS (y :: r)) = true
    rw [h1 y List.mem_cons_self, pw_grS h2]
    rfl
theorem rising_pw : ∀ {p : Str} {l : List Str}, risingS p l = true → (p :: l).Pairwise (fun a b => ltS b a = false)
  | p, [], _ => List.pairwise_singleton _ _
  | p, x :: r, h => by
    have h' : ltCps x.cps.toList p.cps.toList = false ∧ risingS x r = true := by simpa [risingS] using h
    have q := rising_pw h'.2
    have h1 : ltS x p = false := by unfold ltS; rw [← ltCps_eq]; exact h'.1
    refine List.pairwise_cons.mpr ⟨fun w hw => ?_, q⟩
    rcases List.mem_cons.mp hw with e | hw
    · rw [e]; exact h1
    · have h2 := (List.pairwise_cons.mp q).1 w hw
      have a := of_decide_eq_false h1
      have b := of_decide_eq_false h2
      exact decide_eq_false fun c => by
        have := List.lt_of_le_of_lt (List.not_lt.mp b) c
        exact a this
theorem sorted_pw {l : List Str} (h : sortedS l = true) : l.Pairwise (fun a b => ltS b a = false) := by
  cases l with
  | nil => exact List.Pairwise.nil
  | cons x r => exact rising_pw h
theorem str_eq {x y : Str} (h1 : ltS x y = false) (h2 : ltS y x = false) : x = y := by
  have e := List.le_antisymm (List.not_lt.mp (of_decide_eq_false h2)) (List.not_lt.mp (of_decide_eq_false h1))
  cases x
  cases y
  exact congrArg _ (Array.toList_inj.mp e)
/-- sorted, each once: growing -/
theorem sorted_gr {l : List Str} (h : sortedS l = true) (nd : l.Nodup) : grS l = true := by
  refine pw_grS ((sorted_pw h).imp₂ (fun a b h1 h2 => ?_) nd)
  cases e : ltS a b with
  | true => rfl
  | false => exact absurd (str_eq e h1) h2
theorem gr_nodup {l : List Str} (h : grS l = true) : l.Nodup := (grS_pw h).imp fun {a b} q e => by
  rw [e, ltS_irr] at q
  cases q
/-- two growing lists of the same texts are one -/
theorem gr_uniq : ∀ {l m : List Str}, l.Pairwise (fun a b => ltS a b = true) → m.Pairwise (fun a b => ltS a b = true) → (∀ k, k ∈ l ↔ k ∈ m) → l = m
  | [], [], _, _, _ => rfl
  | [], y :: m, _, _, h => by have := (h y).mpr List.mem_cons_self; cases this
  | x :: l, [], _, _, h => by have := (h x).mp List.mem_cons_self; cases this
  | x :: l, y :: m, p, q, h => by
    obtain ⟨p1, p2⟩ := List.pairwise_cons.mp p
    obtain ⟨q1, q2⟩ := List.pairwise_cons.mp q
    have e : x = y := by
      rcases List.mem_cons.mp ((h x).mp List.mem_cons_self) with e | hx
      · exact e
      · rcases List.mem_cons.mp ((h y).mpr List.mem_cons_self) with e | hy
        · exact e.symm
        · have c := ltS_trans (q1 x hx) (p1 y hy)
          rw [ltS_irr] at c
          cases c
    subst e
    refine congrArg _ (gr_uniq p2 q2 fun k => ⟨fun hk => ?_, fun hk => ?_⟩)
    · rcases List.mem_cons.mp ((h k).mp (List.mem_cons_of_mem _ hk)) with e | hm
      · have := p1 k hk
        rw [e, ltS_irr] at this
        cases this
      · exact hm
    · rcases List.mem_cons.mp ((h k).mpr (List.mem_cons_of_mem _ hk)) with e | hm
      · have := q1 k hk
        rw [e, ltS_irr] at this
        cases this
      · exact hm
/-- xs against sorted(set(xs)) -/
theorem gr_set {xs ks : List Str} (hs : sortedS ks = true) (nd : ks.Nodup) (hm : ∀ k, k ∈ ks ↔ k ∈ xs) : decide (xs = ks) = grS xs := by
  have g := sorted_gr hs nd
  by_cases h : grS xs = true
  · rw [h]
    exact decide_eq_true (gr_uniq (grS_pw h) (grS_pw g) fun k => (hm k).symm)
  · rw [decide_eq_false fun e => h (by rw [e]; exact g)]
    simpa using h
end FB

set_option Elab.async false
set_option linter.all false
set_option maxRecDepth 100000
set_option maxHeartbeats 4000000
/-! FB, part x: rights and groups as data; loops over tuples; lists of texts compared. -/
namespace FB
open PySem PySem.Spec PyProof.Rows L2 RZ
def texts4 : List Str := ["", "r", "w", "rw"]
/-- one of the four texts -/
def isRT : PyData → Bool
  | .str x => inV (.str x) (texts4.map V.str)
  | _ => false
def isRightsD : PyData → Bool
  | .tuple ds => decide (ds.length = 3) && ds.all isRT
  | _ => false
def sD : PyData → Str
  | .str x => x
  | _ => Str.empty
def isUsersD : PyData → Bool
  | .tuple ds => ds.all isWordD && grS (ds.map sD)
  | _ => false
def isGroupD : PyData → Bool
  | .tuple ds => decide (ds.length = 2) && (isWordD (ds.getD 0 .none) && isUsersD (ds.getD 1 .none))
  | _ => false
def nameD : PyData → Str
  | .tuple ds => sD (ds.getD 0 .none)
  | _ => Str.empty
def isGroupsD : PyData → Bool
  | .tuple ds => decide (ds.length ≤ 8) && (ds.all isGroupD && grS (ds.map nameD))
  | _ => false
/-- sizes, some levels deep -/
def Bd : Nat → PyData → Prop
  | 0, d => Sl d
  | n + 1, d => Sl d ∧ ∀ ds, d = .tuple ds → ds.length ≤ 60 ∧ ∀ e ∈ ds, Bd n e
theorem Bd.sl : ∀ {n : Nat} {d : PyData}, Bd n d → Sl d
  | 0, _, h => h
  | _ + 1, _, h => h.1
theorem Bd.dn : ∀ {n : Nat} {d : PyData}, Bd (n + 1) d → Bd n d
  | 0, _, h => h.1
  | _ + 1, _, h => ⟨h.1, fun ds e => ⟨(h.2 ds e).1, fun x hx => Bd.dn ((h.2 ds e).2 x hx)⟩⟩
theorem Bd.tup {n : Nat} {ds : List PyData} (h : ∀ d ∈ ds, Bd n d) (hl : ds.length ≤ 60) : Bd n (.tuple ds) :=
  Bd.dn (n := n) ⟨fun x e => (by cases e), fun es e => by cases e; exact ⟨hl, h⟩⟩
theorem Bd.of {n : Nat} {d : PyData} (h : Sl d) (ht : ∀ ds, d ≠ .tuple ds) : Bd n d := by
  cases n with
  | zero => exact h
  | succ n => exact ⟨h, fun ds e => absurd e (ht ds)⟩
theorem DU.strAt {U : Addr → Prop} {H : Hp} {v : V} {x : Str} (h : DU U H v (.str x)) : v = .str x := by
  cases h; rfl
theorem grS_zip : ∀ xs : List Str, grS xs = (xs.zip (xs.drop 1)).all (fun p => ltS p.1 p.2)
  | [] => rfl
  | [x] => rfl
  | x :: y :: r => by
    show (ltS x y && grS (y :: r)) = _
    rw [grS_zip (y :: r)]
    rfl
theorem cut_tail (xs : List V) : cutV xs (some 1) none = xs.drop 1 := by
  unfold cutV
  rw [show (some (1 : Int)) = some ((1 : Nat) : Int) from rfl, HT.sIx_nat, HT.sIx_none, List.take_of_length_le (by rw [List.length_drop]; exact Nat.le_refl _)]
  by_cases h : 1 ≤ xs.length
  · rw [Nat.min_eq_left h]
  · have : xs = [] := List.length_eq_zero_iff.mp (by omega)
    rw [this]
    rfl
section
variable {z : Zn} {K : PySem.W.Frag} {σ : L2.St} {H : Hp} {te ta tb : TE} {D : Ends} {ts : TS} {j : Nat}
/-- what a tuple that stands reads as in the zone -/
theorem s_forT {xs : List V} (hR : z.R H H) (h : Ev z te σ H (Tup z fun ws _ => ws = xs)) (main : ∀ H1, z.R H H1 → ∃ Pv : Nat → L2.St → Hp → Prop, Pv 0 σ H1 ∧ (∀ i σ' H', Pv i σ' H' → z.W H1 H') ∧
      (∀ i x σ' H', xs[i]? = some x → Pv i σ' H' → ts { D with nx := Pv (i + 1), ct := Pv (i + 1), bk := D.nx } (σ'.set j (some x)) H') ∧ ∀ σ' H', Pv xs.length σ' H' → D.nx σ' H') : tFor (iTup K te) (gName j) ts D σ H :=
  h H hR _ fun v H1 e f => by
    obtain ⟨p, ws, ev, nu, hp, ew⟩ := f H1 .refl
    subst ew
    obtain ⟨Pv, p0, pw, ps, pd⟩ := main H1 e
    exact ⟨p, ev, ⟨ws, .inl (.inl hp)⟩, for_tup (K := K) (a := p) (xs := ws) Pv p0 (fun i σ' H' _ q => .inl (.inl (pw i σ' H' q p _ nu hp))) (fun i x σ' H' hx q => ps i x σ' H' hx q) pd⟩
theorem q_forT {tu : TS} {xs : List V} (hR : z.R H H) (h : Ev z te σ H (Tup z fun ws _ => ws = xs)) (main : ∀ H1, z.R H H1 → ∃ Pv : Nat → L2.St → Hp → Prop, Pv 0 σ H1 ∧ (∀ i σ' H', Pv i σ' H' → z.W H1 H') ∧
      (∀ i x σ' H', xs[i]? = some x → Pv i σ' H' → ts { D with nx := Pv (i + 1), ct := Pv (i + 1), bk := tu D } (σ'.set j (some x)) H') ∧ ∀ σ' H', Pv xs.length σ' H' → tu D σ' H') : tSeq (tFor (iTup K te) (gName j) ts) tu D σ H := s_forT (D := { D with nx := tu D }) hR h main
/-- words[1:] of a tuple or a list -/
theorem ev_sl1 {t : Bool} {xs : List V} {a : Addr} {tl : TO} (h : Ev z te σ H (Is (.ref a))) (h1 : EvO z tl σ H (· = some 1)) (nu : ¬ z.U a) (ha : H a = some (sq t xs)) :
    Ev z (L2.tSl (fun x lo hi H Q => rSlA K x lo hi H Q ∨ rSlL K x lo hi H Q) te tl tNoPart) σ H (fun v H' => ∃ p, v = .ref p ∧ ¬ z.U p ∧ H' p = some (sq t (xs.drop 1))) :=
  ev_sl h h1 eo_none fun v H1 r e Q q => by
    have e' : v = .ref a := e
    subst e'
    have ha1 := r.w a _ nu ha
    cases t with
    | true =>
      refine .inl ⟨a, xs, rfl, .inl (.inl ha1), fun hc => ?_, fun _ p hp => ?_⟩
      · refine q _ H1 r.dr fun H3 w => ⟨a, rfl, nu, ?_⟩
        rw [← cut_tail, cutV_all hc.1 hc.2]
        exact w a _ nu ha1
      · refine q _ _ (r.dr.new hp) fun H3 w => ⟨p, rfl, r.dr.nu hp, ?_⟩
        rw [← cut_tail]
        exact w p _ (r.dr.nu hp) upd_same
    | false =>
      refine .inr ⟨a, xs, rfl, .inl (.inl ha1), fun p hp => ?_⟩
      refine q _ _ (r.dr.new hp) fun H3 w => ⟨p, rfl, r.dr.nu hp, ?_⟩
      rw [← cut_tail]
      exact w p _ (r.dr.nu hp) upd_same
end
/-- a look whether texts grow -/
def spGrow : Sp := fun vs H Q _ => ∃ (z : Zn) (a : Addr) (t : Bool) (xs : List Str), vs = [.ref a] ∧ z.R H H ∧ ¬ z.U a ∧ H a = some (sq t (xs.map V.str)) ∧ xs.length ≤ 1000 ∧ ∀ H', z.R H H' → Q (.bl (grS xs)) H'
section
variable {z : Zn} {K : PySem.W.Frag} {σ : L2.St} {H : Hp} {te ta tb : TE}
theorem ev_growT {xs : List Str} {E : XK} (h : Ev z te σ H (Tup z fun ws _ => ws = xs.map V.str)) (hl : xs.length ≤ 1000) : Ev z (tCall spGrow [] E (tCons te tNil)) σ H (Is (.bl (grS xs))) :=
  ev_call (ea_cons h fun v H1 r _ => ea_nil) fun vs H1 r ⟨v, rr, e, ⟨p, ws, ev, nu, hp, ew⟩, er⟩ Q q => ⟨z, p, true, xs, by rw [e, er, ev]; rfl, r.dr, nu, by rw [← ew]; exact hp, hl, fun H' r' => q _ H' r' fun _ _ => rfl⟩
theorem ev_growL {xs : List Str} {E : XK} (h : Ev z te σ H (Lst z fun ws _ => ws = xs.map V.str)) (hl : xs.length ≤ 1000) : Ev z (tCall spGrow [] E (tCons te tNil)) σ H (Is (.bl (grS xs))) :=
  ev_call (ea_cons h fun v H1 r _ => ea_nil) fun vs H1 r ⟨v, rr, e, ⟨p, ws, ev, nu, hp, ew⟩, er⟩ Q q => ⟨z, p, false, xs, by rw [e, er, ev]; rfl, r.dr, nu, by rw [← ew]; exact hp, hl, fun H' r' => q _ H' r' fun _ _ => rfl⟩
/-- all([x < y for x, y in zip(words, words[1:])]) -/
theorem ev_grow {t : Bool} {xs : List Str} {a : Addr} {i j k : Nat} {vs : List Nat} (e : σ[i]? = some (some (.ref a))) (nu : ¬ z.U a) (ha : H a = some (sq t (xs.map V.str))) (hl : xs.length ≤ 1000) (hv : ∀ x y, wipe (((wipe σ vs).set j (some x)).set k (some y)) vs = wipe σ vs)
    (hj : ∀ x y : V, (((wipe σ vs).set j (some x)).set k (some y))[j]? = some (some x)) (hk : ∀ x y : V, (((wipe σ vs).set j (some x)).set k (some y))[k]? = some (some y)) :
    Ev z (tCB (rAll K) (tCons (tLc (iZipA K (tCons (tVar i) (tCons (L2.tSl (fun x lo hi H Q => rSlA K x lo hi H Q ∨ rSlL K x lo hi H Q) (tVar i) (tPart (tC (.int 1))) tNoPart) tNil))) (gTup K 2 (gCons (gName j) (gCons (gName k) gNil))) tYes
      (tOp (fun x y H Q => ∃ i j, x = .str i ∧ y = .str j ∧ Q (.bl (decide (i.cps.toList < j.cps.toList))) H) (tVar j) (tVar k)) vs) tNil)) σ H (Is (.bl (grS xs))) := by
  have hz := ev_lcZ (z := z) (K := K) (σ := σ) (H := H) (te := tOp (fun x y H Q => ∃ i j, x = .str i ∧ y = .str j ∧ Q (.bl (decide (i.cps.toList < j.cps.toList))) H) (tVar j) (tVar k)) (t := t) (xs := xs.map V.str) (ys := (xs.map V.str).drop 1) (j := j) (k := k) (vs := vs)
    (φ := fun i w _ => ∃ p, (xs.zip (xs.drop 1))[i]? = some p ∧ w = .bl (ltS p.1 p.2))
    (ta := tCons (tVar i) (tCons (L2.tSl (fun x lo hi H Q => rSlA K x lo hi H Q ∨ rSlL K x lo hi H Q) (tVar i) (tPart (tC (.int 1))) tNoPart) tNil)) ?_ ?_ ?_ hv ?_
  · refine ev_to (ev_all (bs := (xs.zip (xs.drop 1)).map fun p => ltS p.1 p.2) (hz.imp fun v H' _ ⟨p, ws, e1, e2, e3, e4, e5⟩ => ⟨p, ws, e1, e2, e3, bl_of ?_ e5⟩)) ?_
    · rw [e4, List.length_drop, List.length_map, List.length_zip, List.length_drop]
      omega
    · rw [List.all_map, grS_zip]
      rfl
  · refine (ea_cons (φ := Is (.ref a)) (ev_is e) fun v H1 r _ => ea_cons (ev_sl1 (K := K) (ev_is e) (eo_some ev_k) nu (r.w a _ nu ha)) fun v H2 r2 _ => ea_nil).imp ?_
    rintro us H' w ⟨v, r, rfl, e1, v2, r2, rfl, ⟨p, rfl, np, hp⟩, rfl⟩
    exact ⟨a, p, by rw [show v = .ref a from e1], nu, np, w a _ nu ha, hp⟩
  · rw [List.length_drop]; omega
  · rw [List.length_drop, List.length_map]; omega
  · intro i' x y D H1 hx hy hD r rD
    rw [List.getElem?_map] at hx
    obtain ⟨x', hx', rfl⟩ := Option.map_eq_some_iff.mp hx
    rw [← List.map_drop, List.getElem?_map] at hy
    obtain ⟨y', hy', rfl⟩ := Option.map_eq_some_iff.mp hy
    refine (ev_ltS (ev_is (hj _ _)) (ev_is (hk _ _))).imp fun v H' _ e => ⟨(x', y'), ?_, e⟩
    rw [List.getElem?_zip_eq_some]
    exact ⟨hx', hy'⟩
end
/-! ### lists of texts compared -/
theorem str_beq (x y : Str) : (x == y) = decide (x = y) := by
  by_cases h : x = y
  · rw [decide_eq_true h, h]; exact beq_self_eq_true y
  · rw [decide_eq_false h]; exact beq_eq_false_iff_ne.mpr h
theorem eqv_strs : ∀ (xs ys : List Str), PyData.eqvAll (xs.map PyData.str) (ys.map PyData.str) = decide (xs = ys)
  | [], [] => by simp [PyData.eqvAll]
  | [], y :: ys => by simp [PyData.eqvAll]
  | x :: xs, [] => by simp [PyData.eqvAll]
  | x :: xs, y :: ys => by
    simp only [List.map_cons, PyData.eqvAll, PyData.eqv, eqv_strs xs ys, str_beq]
    by_cases h : x = y
    · by_cases h2 : xs = ys
      · simp [h, h2]
      · simp [h, h2]
    · simp [h]
theorem dp_strs {K : PySem.W.Frag} {H : Hp} {p : Addr} {xs : List Str} (h : H p = some (.lst (xs.map V.str))) : Dp K H (.ref p) (.list (xs.map PyData.str)) := by
  refine .lst (.inl (.inl h)) ?_
  clear h
  induction xs with
  | nil => exact .nil
  | cons b r ih => exact .cons (.str b) ih
theorem small_ok {x : Str} (h : ∀ c ∈ x.cps.toList, c < 1000) : PyData.canLay0 (.str x) = true := by
  have q : PyData.strOk x = true := by
    unfold PyData.strOk
    rw [← Array.all_toList, List.all_eq_true]
    exact fun c hc => decide_eq_true (Nat.lt_trans (h c hc) (by decide))
  simpa only [PyData.canLay0] using q
theorem word_ok {x : Str} (h : isW x = true) : PyData.canLay0 (.str x) = true := by
  have h' : x.cps.toList.all low = true := by
    unfold isW at h
    rw [Bool.and_eq_true] at h
    exact h.2
  exact small_ok fun c hc => by
    have q := List.all_eq_true.mp h' c hc
    unfold low at q
    rw [Bool.and_eq_true] at q
    have := of_decide_eq_true q.2
    omega
theorem shaped_strs {xs : List Str} (h : ∀ x ∈ xs, PyData.canLay0 (.str x) = true) : SeqAt.shaped (.list (xs.map PyData.str)) = true := by
  have a : PyData.canLayAll0 (xs.map PyData.str) = true ∧ PyData.depthAll (xs.map PyData.str) ≤ 1 := by
    induction xs with
    | nil => exact ⟨rfl, Nat.zero_le _⟩
    | cons x r ih =>
      obtain ⟨h1, h2⟩ := ih fun y hy => h y (List.mem_cons_of_mem _ hy)
      refine ⟨?_, ?_⟩
      · simp only [List.map_cons, PyData.canLayAll0, h x List.mem_cons_self, h1, Bool.and_self]
      · simp only [List.map_cons, PyData.depthAll, PyData.depth]
        omega
  unfold SeqAt.shaped
  rw [Bool.and_eq_true]
  refine ⟨by simp only [PyData.canLay0]; exact a.1, decide_eq_true ?_⟩
  simp only [PyData.depth]
  omega
section
variable {z : Zn} {K : PySem.W.Frag} {σ : L2.St} {H : Hp} {te ta tb : TE}
theorem ev_sortSet {xs : List Str} (h : Ev z te σ H (fun v H' => ∃ p, v = .ref p ∧ (SqL K H' p (xs.map V.str) ∨ SqT K H' p (xs.map V.str)))) (h64 : xs.length < 64) :
    Ev z (tSortSet K te) σ H (Lst z fun ws _ => ∃ ks, ws = ks.map V.str ∧ sortedS ks = true ∧ ks.Nodup ∧ (∀ k, k ∈ ks ↔ k ∈ xs) ∧ ks.length ≤ xs.length) := fun H1 e Q q => h H1 e _ fun v H2 e2 f => by
  obtain ⟨p, rfl, hp⟩ := f H2 .refl
  exact ⟨p, xs, rfl, hp, h64, fun ks p' h1 h2 h3 h4 hn => q _ _ (e2.tr (e2.dr.new hn)) fun H3 w => ⟨p', _, rfl, e2.dr.nu hn, w p' _ (e2.dr.nu hn) upd_same, ks, rfl, h1, h2, h3, h4⟩⟩
/-- list(xs) != sorted(set(xs)) -/
theorem ev_neSet {xs : List Str} (ha : Ev z ta σ H (Lst z fun ws _ => ws = xs.map V.str)) (hb : ∀ H1, z.R H H1 → Ev z tb σ H1 (fun v H' => ∃ p, v = .ref p ∧ (SqL K H' p (xs.map V.str) ∨ SqT K H' p (xs.map V.str)))) (h64 : xs.length < 64) (hw : ∀ x ∈ xs, PyData.canLay0 (.str x) = true) :
    Ev z (tOp (rNeD K) ta (tSortSet K tb)) σ H (Is (.bl (!grS xs))) :=
  ev_op ha (fun _ H1 r _ => ev_sortSet (hb H1 r) h64) fun x y H1 r ⟨p, ws, e1, _, h1, e2⟩ ⟨q, vs, e3, _, h3, ks, e4, k1, k2, k3, _⟩ => by
    subst e2
    subst e4
    subst e1
    subst e3
    refine rn_val r.dr (fun Q k => ⟨_, _, dp_strs h1, dp_strs h3, shaped_strs hw, shaped_strs fun x hx => hw x ((k3 x).mp hx), k⟩) fun _ _ => ?_
    show V.bl _ = V.bl _
    rw [show PyData.eqv (.list (xs.map PyData.str)) (.list (ks.map PyData.str)) = PyData.eqvAll (xs.map PyData.str) (ks.map PyData.str) by simp only [PyData.eqv], eqv_strs, gr_set k1 k2 k3]
end
theorem gr_of_adj : ∀ {xs : List Str}, (∀ j x y, xs[j]? = some x → xs[j + 1]? = some y → ltS x y = true) → grS xs = true
  | [], _ => rfl
  | [x], _ => rfl
  | x :: y :: r, h => by
    show (ltS x y && grS (y :: r)) = true
    rw [h 0 x y rfl rfl, gr_of_adj (xs := y :: r) fun j a b ha hb => h (j + 1) a b ha hb]
    rfl
theorem gr_adj {xs : List Str} {j : Nat} {x y : Str} (hx : xs[j]? = some x) (hy : xs[j + 1]? = some y) (h : ltS x y = false) : grS xs = false := by
  cases e : grS xs with
  | false => rfl
  | true =>
    obtain ⟨h1, e1⟩ := List.getElem?_eq_some_iff.mp hx
    obtain ⟨h2, e2⟩ := List.getElem?_eq_some_iff.mp hy
    have q := List.pairwise_iff_getElem.mp (grS_pw e) j (j + 1) h1 h2 (Nat.lt_succ_self j)
    rw [e1, e2, h] at q
    cases q
end FB

set_option Elab.async false
set_option linter.all false
set_option maxRecDepth 100000
set_option maxHeartbeats 4000000
/-! FB, part l: t.strip(letters), not t. -/
namespace FB
open PySem PySem.Spec PyProof.Rows L2
theorem getD_mem {x : Str} {k : Nat} (h : k < x.length) : ∃ h' : k < x.cps.toList.length, x.cps.getD k 0 = x.cps.toList[k]'h' := by
  have h' : k < x.cps.toList.length := by simpa [Str.length] using h
  refine ⟨h', ?_⟩
  rw [← getD_list]
  simp [List.getD, List.getElem?_eq_getElem h']
/-- what is left of a text stripped of signs is nothing just where all its signs are such -/
theorem strip_len (x y : Str) : decide ((Txt.stripChars x y).length = 0) = x.cps.toList.all (fun c => y.cps.contains c) := by
  unfold Txt.stripChars
  rw [PyProof.Rows.stripBy_eq]
  obtain ⟨l1, l2, l3⟩ := lo_facts y.cps.contains x
  obtain ⟨h1, h2, h3, _⟩ := hi_facts y.cps.contains x (stripLo y.cps.contains true x) l1
  rw [size_strSub _ _ _ h2]
  by_cases ha : x.cps.toList.all (fun c => y.cps.contains c) = true
  · rw [ha]
    have e : stripLo y.cps.contains true x = x.length := by
      rcases l3 with h | h
      · exact h
      · by_cases hk : stripLo y.cps.contains true x < x.length
        · obtain ⟨h', e⟩ := getD_mem hk
          rw [e] at h
          have := List.all_eq_true.mp ha _ (List.getElem_mem h')
          rw [this] at h
          cases h
        · omega
    exact decide_eq_true (by omega)
  · have ha' : x.cps.toList.all (fun c => y.cps.contains c) = false := by simpa using ha
    rw [ha']
    refine decide_eq_false fun e => ha (List.all_eq_true.mpr fun c hc => ?_)
    obtain ⟨k, hk, ec⟩ := List.getElem_of_mem hc
    have hk' : k < x.length := by simpa [Str.length] using hk
    obtain ⟨h', e'⟩ := getD_mem hk'
    rw [← ec, ← e']
    by_cases hlo : k < stripLo y.cps.contains true x
    · exact l2 k hlo
    · exact h3 k (by omega) hk'
theorem az_has (c : Nat) : ("abcdefghijklmnopqrstuvwxyz" : Str).cps.contains c = low c := by
  rw [low_in]
  simp [Array.contains_eq_mem]
theorem strip_az (x : Str) : decide ((Txt.stripChars x "abcdefghijklmnopqrstuvwxyz").length = 0) = x.cps.toList.all low := by
  rw [strip_len]
  congr 1
  funext c
  exact az_has c
section
variable {z : Zn} {K : PySem.W.Frag} {σ : L2.St} {H : Hp} {to ta te : TE}
theorem ev_strip {x y : Str} (h1 : Ev z to σ H (Is (.str x))) (h2 : Ev z ta σ H (Is (.str y))) (hl : x.length ≤ 100000) :
    Ev z (tBM K "str" (fun x xs H Q => ∃ a b, x = .str a ∧ xs = [.str b] ∧ a.length ≤ sizeLine ∧ Q (.str (Txt.stripChars a b)) H) to (tCons ta tNil)) σ H (Is (.str (Txt.stripChars x y))) := fun H1 e Q q =>
  h1 H1 e _ fun v H2 e2 f => by
    have ev : v = .str x := f H2 .refl
    subst ev
    refine ⟨rfl, h2 H2 (e.tr e2) _ fun w H3 e3 g => ?_⟩
    have ew : w = .str y := g H3 .refl
    subst ew
    exact ⟨x, y, rfl, rfl, Nat.le_trans hl (by decide), q _ H3 (e2.tr e3) fun _ _ => rfl⟩
theorem ev_notS {x : Str} (h : Ev z te σ H (Is (.str x))) (hl : x.length ≤ 100000) : Ev z (tNotT K te) σ H (Is (.bl (decide (x.length = 0)))) := fun H1 e Q q =>
  h H1 e _ fun v H2 e2 f => by
    have ev : v = .str x := f H2 .refl
    subst ev
    refine ⟨_, ⟨Nat.le_trans hl (by decide), rfl⟩, ?_⟩
    have e3 : (!((x.length : Int) != 0)) = decide (x.length = 0) := by
      by_cases h : x.length = 0
      · rw [h]; rfl
      · rw [decide_eq_false h]
        simp [bne, h]
    rw [e3]
    exact q _ H2 e2 fun _ _ => rfl
/-- not x.strip(letters) -/
theorem ev_onlyAz {x : Str} (h1 : Ev z to σ H (Is (.str x))) (h2 : Ev z ta σ H (Is (.str "abcdefghijklmnopqrstuvwxyz"))) (hl : x.length ≤ 100000) :
    Ev z (tNotT K (tBM K "str" (fun x xs H Q => ∃ a b, x = .str a ∧ xs = [.str b] ∧ a.length ≤ sizeLine ∧ Q (.str (Txt.stripChars a b)) H) to (tCons ta tNil))) σ H (Is (.bl (x.cps.toList.all low))) := by
  rw [← strip_az]
  exact ev_notS (ev_strip h1 h2 hl) (Nat.le_trans (len_stripChars _ _) hl)
/-- a text as a test -/
theorem et_txt {x : Str} (h : Ev z te σ H (Is (.str x))) (hl : x.length ≤ 100000) : EvT z (fun σ H Q => te σ H fun x H' => ∃ k, TruV K x H' k ∧ Q k H') σ H (· = !decide (x.length = 0)) := fun H1 e Q q =>
  h H1 e _ fun v H2 e2 f => by
    have ev : v = .str x := f H2 .refl
    subst ev
    refine ⟨_, ⟨Nat.le_trans hl (by decide), rfl⟩, ?_⟩
    have e3 : ((x.length : Int) != 0) = !decide (x.length = 0) := by
      by_cases h : x.length = 0
      · rw [h]; rfl
      · rw [decide_eq_false h]
        simp [bne, h]
    rw [e3]
    exact q _ H2 e2 rfl
end
end FB

set_option Elab.async false
set_option linter.all false
set_option maxRecDepth 100000
set_option maxHeartbeats 4000000
/-! FB, part m: users and groups looked through one by one; tuples unpacked; a tuple of texts joined. -/
namespace FB
open PySem PySem.Spec PyProof.Rows L2 RZ
/-- USERS, looked through from a text on -/
def goU : Str → List PyData → Bool
  | _, [] => true
  | y, d :: r => (isStrD d && (ltS y (sD d) && decide ((sD d).length ≤ 8))) && goU (sD d) r
def lowAll (ds : List PyData) : Bool := ds.all fun d => (sD d).cps.toList.all low
theorem lt_pos {y x : Str} (h : ltS y x = true) : 1 ≤ x.length := by
  have h' := of_decide_eq_true h
  have hl : x.cps.toList.length = x.length := by simp [Str.length]
  cases e : x.cps.toList with
  | nil => rw [e] at h'; exact absurd h' (List.not_lt_nil _)
  | cons c r => rw [e, List.length_cons] at hl; omega
theorem empty_lt {x : Str} (h : 1 ≤ x.length) : ltS "" x = true := by
  have hl : x.cps.toList.length = x.length := by simp [Str.length]
  refine decide_eq_true ?_
  show ([] : List Nat) < x.cps.toList
  cases e : x.cps.toList with
  | nil => rw [e, List.length_nil] at hl; omega
  | cons c r => exact List.nil_lt_cons c r
theorem goU_eq : ∀ (ds : List PyData) (y : Str), (goU y ds && lowAll ds) = (ds.all isWordD && grS (y :: ds.map sD))
  | [], y => rfl
  | d :: r, y => by
    have ih := goU_eq r (sD d)
    show (((isStrD d && (ltS y (sD d) && decide ((sD d).length ≤ 8))) && goU (sD d) r) && ((sD d).cps.toList.all low && lowAll r)) = ((isWordD d && r.all isWordD) && (ltS y (sD d) && grS (sD d :: r.map sD)))
    cases d with
    | str x =>
      show (((true && (ltS y x && decide (x.length ≤ 8))) && goU x r) && (x.cps.toList.all low && lowAll r)) = ((isW x && r.all isWordD) && (ltS y x && grS (x :: r.map sD)))
      have ih' : (goU x r && lowAll r) = (r.all isWordD && grS (x :: r.map sD)) := ih
      cases hl : ltS y x with
      | false => simp
      | true =>
        have h1 := lt_pos hl
        unfold isW
        rw [decide_eq_true h1]
        revert ih'
        cases decide (x.length ≤ 8) <;> cases x.cps.toList.all low <;> cases goU x r <;> cases lowAll r <;> cases r.all isWordD <;> cases grS (x :: r.map sD) <;> simp
    | _ => simp [isStrD, isWordD]
theorem isU_go (ds : List PyData) : isUsersD (.tuple ds) = (goU "" ds && lowAll ds) := by
  rw [goU_eq]
  show (ds.all isWordD && grS (ds.map sD)) = _
  cases ds with
  | nil => rfl
  | cons d r =>
    cases hw : isWordD d with
    | false => simp [hw]
    | true =>
      cases d with
      | str x =>
        have h1 : 1 ≤ x.length := by
          have : isW x = true := hw
          unfold isW at this
          rw [Bool.and_eq_true, Bool.and_eq_true] at this
          exact of_decide_eq_true this.1.1
        show (_ && grS (x :: r.map sD)) = (_ && (ltS "" x && grS (x :: r.map sD)))
        rw [empty_lt h1, Bool.true_and]
      | _ => cases hw
theorem goU_strs : ∀ (ds : List PyData) (y : Str), goU y ds = true → ∀ d ∈ ds, isStrD d = true ∧ (sD d).length ≤ 8
  | [], _, _, d, h => by cases h
  | e :: r, y, g, d, h => by
    have g' : ((isStrD e && (ltS y (sD e) && decide ((sD e).length ≤ 8))) && goU (sD e) r) = true := g
    rw [Bool.and_eq_true, Bool.and_eq_true, Bool.and_eq_true] at g'
    rcases List.mem_cons.mp h with rfl | h
    · exact ⟨g'.1.1, of_decide_eq_true g'.1.2.2⟩
    · exact goU_strs r _ g'.2 d h
theorem strs_at {U : Addr → Prop} {H : Hp} : ∀ {vs : List V} {ds : List PyData}, DUA U H vs ds → (∀ d ∈ ds, isStrD d = true) → vs = (ds.map sD).map V.str
  | _, _, .nil, _ => rfl
  | _, _, .cons (d := d) h t, hw => by
    have a := strs_at t fun e he => hw e (List.mem_cons_of_mem _ he)
    have hd := hw d List.mem_cons_self
    cases d with
    | str x =>
      cases h
      rw [a]
      simp [sD]
    | _ => cases hd
/-- GROUPS, looked through from a name on -/
def goG : Str → List PyData → Bool
  | _, [] => true
  | y, d :: r => (isGroupD d && ltS y (nameD d)) && goG (nameD d) r
theorem goG_eq : ∀ (ds : List PyData) (y : Str), goG y ds = (ds.all isGroupD && grS (y :: ds.map nameD))
  | [], _ => rfl
  | d :: r, y => by
    have ih := goG_eq r (nameD d)
    show ((isGroupD d && ltS y (nameD d)) && goG (nameD d) r) = ((isGroupD d && r.all isGroupD) && (ltS y (nameD d) && grS (nameD d :: r.map nameD)))
    rw [ih]
    cases isGroupD d <;> cases ltS y (nameD d) <;> simp
theorem group_pos {d : PyData} (h : isGroupD d = true) : 1 ≤ (nameD d).length := by
  cases d with
  | tuple ds =>
    have h' : (decide (ds.length = 2) && (isWordD (ds.getD 0 .none) && isUsersD (ds.getD 1 .none))) = true := h
    rw [Bool.and_eq_true, Bool.and_eq_true] at h'
    show 1 ≤ (sD (ds.getD 0 .none)).length
    generalize ds.getD 0 .none = e at h' ⊢
    cases e with
    | str x =>
      have : isW x = true := h'.2.1
      unfold isW at this
      rw [Bool.and_eq_true, Bool.and_eq_true] at this
      exact of_decide_eq_true this.1.1
    | _ => cases h'.2.1
  | _ => cases h
theorem isG_go (ds : List PyData) : isGroupsD (.tuple ds) = (decide (ds.length ≤ 8) && goG "" ds) := by
  rw [goG_eq]
  show (_ && (ds.all isGroupD && grS (ds.map nameD))) = _
  cases ds with
  | nil => rfl
  | cons d r =>
    cases hw : isGroupD d with
    | false => simp [hw]
    | true =>
      show (_ && (_ && grS (nameD d :: r.map nameD))) = (_ && (_ && (ltS "" (nameD d) && grS (nameD d :: r.map nameD))))
      rw [empty_lt (group_pos hw), Bool.true_and]
theorem drop_at {α : Type} {l : List α} {i : Nat} {x : α} (h : l[i]? = some x) : l.drop i = x :: l.drop (i + 1) := by
  obtain ⟨hi, e⟩ := List.getElem?_eq_some_iff.mp h
  rw [List.drop_eq_getElem_cons hi, e]
section
variable {z : Zn} {K : PySem.W.Frag} {σ : L2.St} {H : Hp} {ts tl te : TE}
/-- s.join(a tuple of texts) -/
theorem ev_joinT {s : Str} {ys : List Str} (h1 : Ev z ts σ H (Is (.str s))) (h2 : Ev z tl σ H (Tup z fun ws _ => ws = ys.map V.str)) (hz : (ys.map (·.length)).sum + ys.length * s.length ≤ 16777216) :
    Ev z (tM1 (fun x xs H Q => ∃ a p, ∃ ys : List Str, x = .str a ∧ xs = [.ref p] ∧ (SqL K H p (ys.map V.str) ∨ SqT K H p (ys.map V.str)) ∧ (ys.map (·.length)).sum + ys.length * a.length ≤ 16777216 ∧ Q (.str (Txt.join a ys)) H) ts tl) σ H
      (Is (.str (Txt.join s ys))) := fun H1 e Q q =>
  h1 H1 e _ fun v H2 e2 f => ⟨⟨s, f H2 .refl⟩, h2 H2 (e.tr e2) _ fun y H3 e3 g => by
    obtain ⟨p, ws, ev, nu, hp, ew⟩ := g H3 .refl
    exact ⟨s, p, ys, f H3 e3.w, by rw [ev], .inr (.inl (.inl (by rw [hp, ew]))), hz, q _ H3 (e2.tr e3) fun _ _ => rfl⟩⟩
theorem sum_le8 : ∀ (ys : List Str), (∀ y ∈ ys, y.length ≤ 8) → (ys.map (·.length)).sum ≤ 8 * ys.length
  | [], _ => Nat.le_refl _
  | y :: r, h => by
    have := sum_le8 r fun x hx => h x (List.mem_cons_of_mem _ hx)
    have := h y List.mem_cons_self
    simp only [List.map_cons, List.sum_cons, List.length_cons]
    omega
theorem join_len8 {ys : List Str} (h : ∀ y ∈ ys, y.length ≤ 8) : (Txt.join "" ys).length ≤ 8 * ys.length := by
  rw [TL.join_eq]
  have h1 := StrLaws.join_length_le "" ys
  have h2 := sum_le8 ys h
  have h3 : ("" : Str).length = 0 := rfl
  rw [h3, Nat.mul_zero] at h1
  omega
theorem join_low (ys : List Str) : (Txt.join "" ys).cps.toList.all low = ys.all fun y => y.cps.toList.all low := by
  rw [TL.join_eq, Bool.eq_iff_iff, List.all_eq_true, List.all_eq_true]
  constructor
  · intro h y hy
    exact List.all_eq_true.mpr fun c hc => h c ((PyProof.Rows.mem_join _ _ _).mpr (.inl ⟨y, hy, hc⟩))
  · intro h c hc
    rcases (PyProof.Rows.mem_join _ _ _).mp hc with ⟨t, ht, hc⟩ | ⟨_, hc⟩
    · exact List.all_eq_true.mp (h t ht) c hc
    · cases hc
/-- x, y = a pair that stands -/
theorem q_un2 {tu : TS} {D : Ends} {i j : Nat} {a : Addr} {v w : V} (hR : z.R H H) (nu : ¬ z.U a) (ha : H a = some (.tup [v, w])) (h : Ev z te σ H (Is (.ref a))) (k : ∀ H1, z.R H H1 → tu D ((σ.set i (some v)).set j (some w)) H1) :
    tSeq (tAsg te (gTup K 2 (gCons (gName i) (gCons (gName j) gNil)))) tu D σ H := h H hR _ fun x H1 e f => by
  have ex : x = .ref a := f H1 .refl
  subst ex
  exact ⟨a, [v, w], rfl, .inl (.inl (e.w a _ nu ha)), rfl, v, [w], rfl, w, [], rfl, rfl, k H1 e⟩
/-- x, y, w = a tuple of three that stands -/
theorem q_un3 {tu : TS} {D : Ends} {i j l : Nat} {a : Addr} {v w x : V} (hR : z.R H H) (nu : ¬ z.U a) (ha : H a = some (.tup [v, w, x])) (h : Ev z te σ H (Is (.ref a))) (k : ∀ H1, z.R H H1 → tu D (((σ.set i (some v)).set j (some w)).set l (some x)) H1) :
    tSeq (tAsg te (gTup K 3 (gCons (gName i) (gCons (gName j) (gCons (gName l) gNil))))) tu D σ H := h H hR _ fun y H1 e f => by
  have ey : y = .ref a := f H1 .refl
  subst ey
  exact ⟨a, [v, w, x], rfl, .inl (.inl (e.w a _ nu ha)), rfl, v, [w, x], rfl, w, [x], rfl, x, [], rfl, rfl, k H1 e⟩
end
end FB

set_option Elab.async false
set_option linter.all false
set_option maxRecDepth 100000
set_option maxHeartbeats 4000000
/-! FB, part y: data put together by draws: plain but for one part. -/
namespace FB
open PySem PySem.Spec PyProof.Rows L2 RZ
/-- what can be looked at -/
structure OkG (d : PyData) : Prop where
  sm : Sm d
  bd : Bd 3 d
def Mx (d : PyData) : Prop := d.hasDict = false ∨ hasL d = false
structure Dn (k m : Nat) (d : PyData) : Prop where
  lf : Lf k m d
  bd : Bd 3 d
def PlD (k m : Nat) (d : PyData) : Prop := Dn k m d ∧ Pl d
def MxD (k m : Nat) (d : PyData) : Prop := Dn k m d ∧ Mx d
def PlL (n k m : Nat) (ds : List PyData) : Prop := ds.length ≤ n ∧ ∀ d ∈ ds, PlD k m d
def MxL (n k m : Nat) (ds : List PyData) : Prop := ds.length ≤ n ∧ ∃ o, MxD k m o ∧ ∀ d ∈ ds, PlD k m d ∨ d = o
theorem Dn.mono {k k' m m' : Nat} {d : PyData} (h : Dn k m d) (h1 : k ≤ k') (h2 : m ≤ m') : Dn k' m' d := ⟨h.lf.mono h1 h2, h.bd⟩
theorem PlD.mono {k k' m m' : Nat} {d : PyData} (h : PlD k m d) (h1 : k ≤ k') (h2 : m ≤ m') : PlD k' m' d := ⟨h.1.mono h1 h2, h.2⟩
theorem MxD.mono {k k' m m' : Nat} {d : PyData} (h : MxD k m d) (h1 : k ≤ k') (h2 : m ≤ m') : MxD k' m' d := ⟨h.1.mono h1 h2, h.2⟩
theorem PlD.mx {k m : Nat} {d : PyData} (h : PlD k m d) : MxD k m d := ⟨h.1, .inl h.2.nd⟩
theorem PlL.mono {n n' k k' m m' : Nat} {ds : List PyData} (h : PlL n k m ds) (h0 : n ≤ n') (h1 : k ≤ k') (h2 : m ≤ m') : PlL n' k' m' ds := ⟨Nat.le_trans h.1 h0, fun d hd => (h.2 d hd).mono h1 h2⟩
theorem sl_of {d : PyData} (h : ∀ x, d ≠ .str x) : Sl d := fun x e => absurd e (h x)
theorem none_mx (k m : Nat) : MxD k m .none := ⟨⟨⟨rfl, rfl, Nat.zero_le _, Nat.zero_le _⟩, Bd.of (sl_of fun x e => by cases e) fun ds e => by cases e⟩, .inl rfl⟩
theorem PlL.mx {n k m : Nat} {ds : List PyData} (h : PlL n k m ds) : MxL n k m ds := ⟨h.1, .none, none_mx k m, fun d hd => .inl (h.2 d hd)⟩
theorem MxL.mono {n n' k k' m m' : Nat} {ds : List PyData} (h : MxL n k m ds) (h0 : n ≤ n') (h1 : k ≤ k') (h2 : m ≤ m') : MxL n' k' m' ds :=
  let ⟨a, o, b, c⟩ := h; ⟨Nat.le_trans a h0, o, b.mono h1 h2, fun d hd => (c d hd).imp (fun p => p.mono h1 h2) id⟩
theorem PlL.app {n n' k m : Nat} {a b : List PyData} (h : PlL n k m a) (h' : PlL n' k m b) : PlL (n + n') k m (a ++ b) :=
  ⟨by rw [List.length_append]; have := h.1; have := h'.1; omega, fun d hd => (List.mem_append.mp hd).elim (h.2 d) (h'.2 d)⟩
theorem MxL.app1 {n n' k m : Nat} {a b : List PyData} (h : MxL n k m a) (h' : PlL n' k m b) : MxL (n + n') k m (a ++ b) :=
  let ⟨l, o, ho, hd⟩ := h; ⟨by rw [List.length_append]; have := h'.1; omega, o, ho, fun d hm => (List.mem_append.mp hm).elim (hd d) fun q => .inl (h'.2 d q)⟩
theorem MxL.app2 {n n' k m : Nat} {a b : List PyData} (h : PlL n k m a) (h' : MxL n' k m b) : MxL (n + n') k m (a ++ b) :=
  let ⟨l, o, ho, hd⟩ := h'; ⟨by rw [List.length_append]; have := h.1; omega, o, ho, fun d hm => (List.mem_append.mp hm).elim (fun q => .inl (h.2 d q)) (hd d)⟩
theorem PlL.sub {n k m : Nat} {ds es : List PyData} (h : PlL n k m ds) (hl : es.length ≤ ds.length) (hm : ∀ e ∈ es, e ∈ ds) : PlL n k m es := ⟨Nat.le_trans hl h.1, fun d hd => h.2 d (hm d hd)⟩
theorem MxL.one {k m : Nat} {d : PyData} (h : MxD k m d) : MxL 1 k m [d] := ⟨Nat.le_refl _, d, h, fun e he => .inr (List.mem_singleton.mp he)⟩
theorem PlL.nil {n k m : Nat} : PlL n k m [] := ⟨Nat.zero_le _, fun _ h => by cases h⟩
theorem PlL.cons {n k m : Nat} {d : PyData} {ds : List PyData} (h : PlD k m d) (t : PlL n k m ds) : PlL (n + 1) k m (d :: ds) :=
  ⟨Nat.succ_le_succ t.1, fun e he => (List.mem_cons.mp he).elim (fun q => q ▸ h) (t.2 e)⟩
theorem MxL.lf {n k m : Nat} {ds : List PyData} (h : MxL n k m ds) : ∀ d ∈ ds, Dn k m d := fun d hd => let ⟨_, o, ho, hh⟩ := h; (hh d hd).elim (fun p => p.1) fun q => q ▸ ho.1
theorem MxL.tup {n k m : Nat} {ds : List PyData} (h : MxL n k m ds) (hn : n ≤ 60) : MxD (k + 1) (n * (m + 1)) (.tuple ds) := by
  have hd := h.lf
  obtain ⟨hl, o, ho, hh⟩ := h
  exact ⟨⟨Lf.tup (fun d q => (hd d q).lf) hl, Bd.tup (fun d q => (hd d q).bd) (Nat.le_trans hl hn)⟩, mx_tup ho.2 fun d q => (hh d q).imp (fun p => p.2) id⟩
theorem PlL.tup {n k m : Nat} {ds : List PyData} (h : PlL n k m ds) (hn : n ≤ 60) : PlD (k + 1) (n * (m + 1)) (.tuple ds) :=
  ⟨⟨Lf.tup (fun d q => (h.2 d q).1.lf) h.1, Bd.tup (fun d q => (h.2 d q).1.bd) (Nat.le_trans h.1 hn)⟩, Pl.tup fun d q => (h.2 d q).2⟩
theorem PlL.lst {n k m : Nat} {ds : List PyData} (h : PlL n k m ds) : MxD (k + 1) (n * (m + 1)) (.list ds) :=
  ⟨⟨Lf.lst (fun d q => (h.2 d q).1.lf) h.1, Bd.of (sl_of fun x e => by cases e) fun ds e => by cases e⟩, .inl (by simp only [PyData.hasDict]; exact nd_all fun d q => (h.2 d q).2.nd)⟩
theorem MxD.okg {k m : Nat} {d : PyData} (h : MxD k m d) (h1 : k ≤ 40) (h2 : m ≤ 9900) : OkG d := ⟨h.1.lf.sm h1 h2 h.2, h.1.bd⟩
theorem txs_pl {n : Nat} {x : Str} (h : Txs n x) (hn : n ≤ 1000) : PlD 0 n (.str x) := ⟨⟨h.lf, Bd.of (fun y e => by cases e; exact Nat.le_trans h.1 hn) fun ds e => by cases e⟩, Pl.str⟩
theorem strs_pl {n m : Nat} {xs : List Str} (h : ∀ x ∈ xs, Txs m x) (hl : xs.length ≤ n) (hm : m ≤ 1000) : PlL n 0 m (xs.map PyData.str) :=
  ⟨by rw [List.length_map]; exact hl, fun d hd => by
    obtain ⟨x, hx, rfl⟩ := List.mem_map.mp hd
    exact txs_pl (h x hx) hm⟩
/-! ### told as data for == -/
section
variable {U : Addr → Prop} {H : Hp} {K : PySem.W.Frag}
mutual
theorem DU.dp : ∀ {v : V} {d : PyData}, DU U H v d → d.hasDict = false → Dp K H v d
  | _, _, .non, _ => .non
  | _, _, .bl b, _ => .bl b
  | _, _, .int i, _ => .int i
  | _, _, .str x, _ => .str x
  | _, _, .lst _ e t, h => .lst (.inl (.inl e)) (DUA.dp t (by simpa only [PyData.hasDict] using h))
  | _, _, .tup _ e t, h => .tup (.inl (.inl e)) (DUA.dp t (by simpa only [PyData.hasDict] using h))
  | _, _, .dct _ _ _, h => by simp only [PyData.hasDict] at h; cases h
theorem DUA.dp : ∀ {vs : List V} {ds : List PyData}, DUA U H vs ds → PyData.hasDictAll ds = false → DpAll K H vs ds
  | _, _, .nil, _ => .nil
  | _, _, .cons h t, q => by
    simp only [PyData.hasDictAll, Bool.or_eq_false_iff] at q
    exact .cons (DU.dp h q.1) (DUA.dp t q.2)
end
end
/-! ### texts listed -/
theorem un_strs {m : Nat} : ∀ {ws : List V}, (∀ (i : Nat) w, ws[i]? = some w → ∃ x, w = V.str x ∧ Txs m x) → ∃ ys : List Str, ws = ys.map V.str ∧ ys.length = ws.length ∧ ∀ y ∈ ys, Txs m y
  | [], _ => ⟨[], rfl, rfl, fun _ h => by cases h⟩
  | w :: r, h => by
    obtain ⟨ys, e, hl, hy⟩ := un_strs (ws := r) fun i w hw => h (i + 1) w hw
    obtain ⟨x, ex, hx⟩ := h 0 w rfl
    refine ⟨x :: ys, by rw [ex, e]; rfl, by rw [List.length_cons, List.length_cons, hl], fun y hy' => ?_⟩
    rcases List.mem_cons.mp hy' with e | hy'
    · rw [e]; exact hx
    · exact hy y hy'
/-- a list of at most n texts of at most m signs -/
def TL (n m : Nat) : List V → Hp → Prop := fun ws _ => ∃ xs : List Str, ws = xs.map V.str ∧ xs.length ≤ n ∧ ∀ x ∈ xs, Txs m x
section
variable {z : Zn} {K : PySem.W.Frag} {σ : L2.St} {H : Hp} {te tb ta : TE} {tl th : TO} {lo hi : Option Int}
theorem tl_of {n m : Nat} {v : V} {H' : Hp} (h : Lst z (fun ws H' => ws.length ≤ n ∧ ∀ (i : Nat) w, ws[i]? = some w → Sv m w H') v H') : Lst z (TL n m) v H' := by
  obtain ⟨p, ws, e, nu, hp, hl, hw⟩ := h
  obtain ⟨ys, e2, hl2, hy⟩ := un_strs hw
  exact ⟨p, ws, e, nu, hp, ys, e2, by omega, hy⟩
theorem ev_sorted {n m : Nat} (h : Ev z te σ H (Lst z (TL n m))) (hn : n < 64) : Ev z (tCB (rSortedS K) (tCons te tNil)) σ H (Lst z (TL n m)) := fun H1 e Q q => h H1 e _ fun v H2 e2 f => by
  obtain ⟨p, ws, rfl, nu, hp, fw⟩ := Lst.at f
  obtain ⟨xs, rfl, hl, hx⟩ := fw H2 .refl
  exact ⟨p, xs, rfl, .inl (.inl hp), by omega, fun ys p' pm hs hn => q _ _ (e2.tr (e2.dr.new hn)) fun H3 w => ⟨p', _, rfl, e2.dr.nu hn, w p' _ (e2.dr.nu hn) upd_same, ys, rfl, by rw [pm.length_eq]; exact hl, fun y hy => hx y (pm.mem_iff.mp hy)⟩⟩
/-! ### tuples of data -/
theorem ev_tdv {i : Nat} {v : V} {ds : List PyData} (e : σ[i]? = some (some v)) (h : DU z.U H v (.tuple ds)) : Ev z (tVar i) σ H (TD z (· = ds)) := ev_var e fun H' w => by
  obtain ⟨a, vs, rfl, nu, ha, hds⟩ := (h.w w).tupAt
  exact ⟨a, vs, rfl, nu, ha, ds, rfl, hds⟩
theorem DUA.cut {U : Addr → Prop} {vs : List V} {ds : List PyData} (h : DUA U H vs ds) (lo hi : Option Int) : ∃ es, DUA U H (cutV vs lo hi) es ∧ es.length ≤ ds.length ∧ ∀ e ∈ es, e ∈ ds := by
  unfold cutV
  refine ⟨_, (h.drop _).take _, ?_, fun e he => List.mem_of_mem_drop (List.mem_of_mem_take he)⟩
  rw [List.length_take, List.length_drop]
  omega
theorem DUA.rev {U : Addr → Prop} : ∀ {vs : List V} {ds : List PyData}, DUA U H vs ds → DUA U H vs.reverse ds.reverse
  | _, _, .nil => .nil
  | _, _, .cons h t => by
    rw [List.reverse_cons, List.reverse_cons]
    exact (DUA.rev t).app (.one h)
/-- t[lo:hi] of data -/
theorem ev_slTD {P P' : List PyData → Prop} (h : Ev z te σ H (TD z P)) (h1 : EvO z tl σ H (· = lo)) (h2 : EvO z th σ H (· = hi)) (i : ∀ ds es, P ds → es.length ≤ ds.length → (∀ e ∈ es, e ∈ ds) → P' es) : Ev z (L2.tSl (rSlA K) te tl th) σ H (TD z P') :=
  ev_sl h h1 h2 fun v H1 r ⟨p, ws, e, nu, hp, ds, hP, hd⟩ Q q => by
    obtain ⟨es, hes, hl, hm⟩ := hd.cut lo hi
    refine ⟨p, ws, e, .inl (.inl hp), fun hc => ?_, fun _ p' hp' => ?_⟩
    · rw [cutV_all hc.1 hc.2] at hes
      exact q _ H1 r.dr fun H3 w => ⟨p, ws, rfl, nu, w p _ nu hp, es, i ds es hP hl hm, hes.w w⟩
    · exact q _ _ (r.dr.new hp') fun H3 w => ⟨p', _, rfl, r.dr.nu hp', w p' _ (r.dr.nu hp') upd_same, es, i ds es hP hl hm, hes.w ((r.dr.new hp').w.tr w)⟩
/-- t[:hi:-1] of data -/
theorem ev_revTD {P P' : List PyData → Prop} (h : Ev z te σ H (TD z P)) (h2 : EvO z th σ H (· = hi)) (h0 : ∀ j, hi = some j → 0 ≤ j) (i : ∀ ds es, P ds → es.length ≤ ds.length → (∀ e ∈ es, e ∈ ds) → P' es) : Ev z (tRevT K te th) σ H (TD z P') := fun H1 e Q q =>
  h H1 e _ fun v H2 e2 f => h2 H2 (e.tr e2) _ fun o H3 e3 p2 => by
    subst p2
    obtain ⟨p, ws, rfl, nu, hp, ds, hP, hd⟩ := f H3 e3.w
    refine ⟨p, ws, rfl, .inl (.inl hp), h0, fun p' hp' => q _ _ ((e2.tr e3).tr (e3.dr.new hp')) fun H4 w => ⟨p', _, rfl, e3.dr.nu hp', w p' _ (e3.dr.nu hp') upd_same, (ds.drop (ws.length - rvN ws.length o)).reverse, i ds _ hP ?_ ?_, ?_⟩⟩
    · rw [List.length_reverse, List.length_drop]; omega
    · exact fun x hx => List.mem_of_mem_drop (List.mem_reverse.mp hx)
    · unfold revV
      exact ((hd.w ((e3.dr.new hp').w.tr w)).drop _).rev
theorem ev_slPl {n k m : Nat} (h : Ev z te σ H (TD z (PlL n k m))) (h1 : EvO z tl σ H (· = lo)) (h2 : EvO z th σ H (· = hi)) : Ev z (L2.tSl (rSlA K) te tl th) σ H (TD z (PlL n k m)) := ev_slTD h h1 h2 fun ds es hP hl hm => hP.sub hl hm
theorem ev_revPl {n k m : Nat} (h : Ev z te σ H (TD z (PlL n k m))) (h2 : EvO z th σ H (· = hi)) (h0 : ∀ j, hi = some j → 0 ≤ j) : Ev z (tRevT K te th) σ H (TD z (PlL n k m)) := ev_revTD h h2 h0 fun ds es hP hl hm => hP.sub hl hm
theorem ev_catPl {n n' k m : Nat} (ha : Ev z ta σ H (TD z (PlL n k m))) (hb : ∀ (x : V) H1, z.R H H1 → Ev z tb σ H1 (TD z (PlL n' k m))) (hn : n + n' ≤ 100000) : Ev z (tOp (rCatA K) ta tb) σ H (TD z (PlL (n + n') k m)) :=
  TD.imp (ev_catTD ha hb fun a b h1 h2 => by have := h1.1; have := h2.1; omega) fun ds ⟨a, b, e, h1, h2⟩ => by rw [e]; exact h1.app h2
theorem ev_catM1 {n n' k m : Nat} (ha : Ev z ta σ H (TD z (MxL n k m))) (hb : ∀ (x : V) H1, z.R H H1 → Ev z tb σ H1 (TD z (PlL n' k m))) (hn : n + n' ≤ 100000) : Ev z (tOp (rCatA K) ta tb) σ H (TD z (MxL (n + n') k m)) :=
  TD.imp (ev_catTD ha hb fun a b h1 h2 => by have := h1.1; have := h2.1; omega) fun ds ⟨a, b, e, h1, h2⟩ => by rw [e]; exact h1.app1 h2
theorem ev_catM2 {n n' k m : Nat} (ha : Ev z ta σ H (TD z (PlL n k m))) (hb : ∀ (x : V) H1, z.R H H1 → Ev z tb σ H1 (TD z (MxL n' k m))) (hn : n + n' ≤ 100000) : Ev z (tOp (rCatA K) ta tb) σ H (TD z (MxL (n + n') k m)) :=
  TD.imp (ev_catTD ha hb fun a b h1 h2 => by have := h1.1; have := h2.1; omega) fun ds ⟨a, b, e, h1, h2⟩ => by rw [e]; exact MxL.app2 h1 h2
/-- (x,) of an odd thing -/
theorem ev_oneM {k m : Nat} (h : Ev z te σ H (Ds z (MxD k m))) : Ev z (tTup (tCons te tNil)) σ H (TD z (MxL 1 k m)) :=
  (ev_tup (ea_cons h fun v H1 r _ => ea_nil) fun vs H' ⟨v, r, e, _, er⟩ => by rw [e, er]; exact (show 1 ≤ 100000 by decide)).imp fun v H' _ ⟨p, ws, e, nu, hp, v', r, ew, ⟨d, hd, hv⟩, er⟩ =>
    ⟨p, ws, e, nu, hp, [d], MxL.one hd, by rw [ew, er]; exact .one hv⟩
theorem Ds.imp {P P' : PyData → Prop} (h : Ev z te σ H (Ds z P)) (i : ∀ d, P d → P' d) : Ev z te σ H (Ds z P') := Ev.imp h fun v H' _ ⟨d, hd, hv⟩ => ⟨d, i d hd, hv⟩
theorem ds_of {d : PyData} {P : PyData → Prop} (h : Ev z te σ H (Dd z d)) (hP : P d) : Ev z te σ H (Ds z P) := Ev.imp h fun v H' _ hv => ⟨d, hP, hv⟩
theorem ds_tup {P : List PyData → Prop} {P' : PyData → Prop} (h : Ev z te σ H (TD z P)) (i : ∀ ds, P ds → P' (.tuple ds)) : Ev z te σ H (Ds z P') := Ev.imp h fun v H' _ ⟨p, ws, e, nu, hp, ds, hP, hd⟩ => ⟨.tuple ds, i ds hP, by rw [e]; exact .tup nu hp hd⟩
theorem ds_lst {P : List PyData → Prop} {P' : PyData → Prop} (h : Ev z te σ H (Lst z fun ws H' => ∃ ds, P ds ∧ DUA z.U H' ws ds)) (i : ∀ ds, P ds → P' (.list ds)) : Ev z te σ H (Ds z P') := Ev.imp h fun v H' _ ⟨p, ws, e, nu, hp, ds, hP, hd⟩ => ⟨.list ds, i ds hP, by rw [e]; exact .lst nu hp hd⟩
theorem ds_var {i : Nat} {v : V} {d : PyData} {P : PyData → Prop} (e : σ[i]? = some (some v)) (h : DU z.U H v d) (hP : P d) : Ev z (tVar i) σ H (Ds z P) := ev_var e fun H' w => ⟨d, hP, h.w w⟩
/-! ### menus of data -/
def Da (z : Zn) (n : Nat) (P : PyData → Prop) : List V → Hp → Prop := fun vs H' => ∃ ds, DUA z.U H' vs ds ∧ ds.length = n ∧ ∀ d ∈ ds, P d
theorem da_nil {P : PyData → Prop} : EvA z tNil σ H (Da z 0 P) := ea_nil.imp fun vs H' _ e => ⟨[], by rw [e]; exact .nil, rfl, fun _ h => by cases h⟩
theorem da_cons {n : Nat} {P : PyData → Prop} {tr : TA} (h : Ev z te σ H (Ds z P)) (hr : ∀ H1, z.R H H1 → EvA z tr σ H1 (Da z n P)) : EvA z (tCons te tr) σ H (Da z (n + 1) P) :=
  (ea_cons h fun v H1 r _ => hr H1 r).imp fun vs H' _ ⟨v, r, e, ⟨d, hd, hv⟩, ds, h1, h2, h3⟩ => ⟨d :: ds, by rw [e]; exact .cons hv h1, by rw [List.length_cons, h2], fun x hx => (List.mem_cons.mp hx).elim (fun q => q ▸ hd) (h3 x)⟩
theorem da_lst {n : Nat} {P : PyData → Prop} {tr : TA} (h : EvA z tr σ H (Da z n P)) (hn : n ≤ 100000) : Ev z (tLst tr) σ H (Lst z (Da z n P)) := ev_lst h fun vs H' ⟨ds, h1, h2, _⟩ => by rw [h1.len, h2]; exact hn
theorem da_ix {n : Nat} {P : PyData → Prop} (ha : Ev z ta σ H (Lst z (Da z n P))) (hb : ∀ (x : V) H1, z.R H H1 → Ev z tb σ H1 (Nn n)) : Ev z (tOp (rIxL K) ta tb) σ H (Ds z P) :=
  ev_menu ha hb fun ws H1 _ ⟨ds, h1, h2, h3⟩ => ⟨by rw [h1.len, h2], fun w hw => by
    obtain ⟨d, hd, q⟩ := h1.mem hw
    exact ⟨d, h3 d hd, q⟩⟩
end
/-- data drawn by the purse u of data -/
def spDat2 (P P' : PyData → Prop) : Sp := fun vs H Q _ => ∃ (z : Zn) (u : Addr) (v : V) (d : PyData), vs = [.ref u, v] ∧ P d ∧ DU z.U H v d ∧ z.R H H ∧ z.I u = some IsPur ∧ ∀ v' d' H', P' d' → z.R H H' → (∀ H3, z.W H' H3 → DU z.U H3 v' d') → Q v' H'
/-- texts drawn by the purse u -/
def spTL (N m : Nat) : Sp := fun vs H Q _ => ∃ (z : Zn) (u : Addr) (n : Nat), vs = [.ref u, .int (n : Int)] ∧ n ≤ N ∧ z.R H H ∧ z.I u = some IsPur ∧ ∀ v H', z.R H H' → (∀ H3, z.W H' H3 → Lst z (TL n m) v H3) → Q v H'
section
variable {z : Zn} {K : PySem.W.Frag} {σ : L2.St} {H : Hp} {te tx : TE} {E : XK}
theorem ev_dat2 {P P' : PyData → Prop} {u : Addr} (hu : z.I u = some IsPur) (h1 : Ev z te σ H (Is (.ref u))) (h2 : ∀ H1, z.R H H1 → Ev z tx σ H1 (Ds z P)) : Ev z (tCall (spDat2 P P') [] E (tCons te (tCons tx tNil))) σ H (Ds z P') :=
  ev_call (ea_cons h1 fun v H1 r _ => ea_cons (h2 H1 r) fun v H1 r _ => ea_nil) fun vs H1 r ⟨v, rr, e, e1, v2, r2, e2, ⟨d, hd, hv⟩, e3⟩ Q q => ⟨z, u, v2, d, by rw [e, e2, e3, show v = .ref u from e1]; rfl, hd, hv, r.dr, hu, fun v' d' H' hd' r' hv' => q _ H' r' fun H3 w => ⟨d', hd', hv' H3 w⟩⟩
theorem ev_tl {N n m : Nat} {u : Addr} (hu : z.I u = some IsPur) (h1 : Ev z te σ H (Is (.ref u))) (h2 : ∀ H1, z.R H H1 → Ev z tx σ H1 (Nn n)) (hn : n ≤ N + 1) : Ev z (tCall (spTL N m) [] E (tCons te (tCons tx tNil))) σ H (Lst z (TL (n - 1) m)) :=
  ev_call (ea_cons h1 fun v H1 r _ => ea_cons (h2 H1 r) fun v H1 r _ => ea_nil) fun vs H1 r ⟨v, rr, e, e1, v2, r2, e2, ⟨i, ei, hi⟩, e3⟩ Q q => ⟨z, u, i, by rw [e, e2, e3, show v = .ref u from e1, ei]; rfl, by omega, r.dr, hu, fun v' H' r' f => q _ H' r' fun H3 w => by
    obtain ⟨p, ws, e, nu, hp, xs, ew, hl, hx⟩ := f H3 w
    exact ⟨p, ws, e, nu, hp, xs, ew, by omega, hx⟩⟩
/-- found.append(x) -/
theorem s_app {D : Ends} {to : TE} {p : Addr} {xs : List V} {φ : VP} (hR : z.R H H) (ho : Ev z to σ H (Is (.ref p))) (h : ∀ H1, z.R H H1 → Ev z te σ H1 φ) (ni : z.I p = none) (hp : H p = some (.lst xs)) (hl : xs.length ≤ 100000)
    (k : ∀ v H1, z.R H H1 → (∀ H2, z.W H1 H2 → φ v H2) → D.nx σ (upd H1 p (.lst (xs ++ [v])))) : tDrop (tBM K "list" rAppend to (tCons te tNil)) D σ H := by
  refine ho H hR _ fun v1 H1 r1 f1 => ?_
  have e1 : v1 = .ref p := f1 H1 .refl
  subst e1
  have h1 : H1 p = some (.lst xs) := r1.kp p _ ni hp
  refine ⟨.inl ⟨rfl, xs, .inl (.inl h1)⟩, ?_⟩
  refine h H1 r1 H1 r1.dr _ fun v H2 r2 f2 => ?_
  have h2 : H2 p = some (.lst xs) := r2.kp p _ ni h1
  exact ⟨p, xs, v, rfl, rfl, h2, Nat.lt_of_le_of_lt hl (by decide), k v H2 (r1.tr r2) f2⟩
end
section
variable {z : Zn} {K : PySem.W.Frag} {σ : L2.St} {H : Hp} {te tb ta : TE}
theorem ev_eqD {d e : PyData} (ha : Ev z ta σ H (Dd z d)) (hb : ∀ H1, z.R H H1 → Ev z tb σ H1 (Dd z e)) (h1 : d.hasDict = false) (h2 : e.hasDict = false) (s1 : SeqAt.shaped d = true) (s2 : SeqAt.shaped e = true) : Ev z (tOp (rEqD K) ta tb) σ H (Is (.bl (PyData.eqv d e))) :=
  ev_op ha (fun _ H1 r _ => hb H1 r) fun x y H1 r hx hy => rn_val r.dr (fun Q k => ⟨d, e, DU.dp hx h1, DU.dp hy h2, s1, s2, k⟩) fun _ _ => rfl
/-- one group with its users -/
def Grp (e : PyData) : Prop := ∃ (x : Str) (us : List Str), e = .tuple [.str x, .tuple (us.map PyData.str)] ∧ Txs 8 x ∧ us.length ≤ 4 ∧ ∀ u ∈ us, Txs 8 u
def Folk (ds : List PyData) : Prop := ds.length ≤ 9 ∧ ∀ e ∈ ds, Grp e
theorem Grp.pl {e : PyData} (h : Grp e) : PlD 2 74 e := by
  obtain ⟨x, us, rfl, hx, hl, hu⟩ := h
  exact (PlL.tup (n := 2) (k := 1) (m := 36) (PlL.cons ((txs_pl hx (by decide)).mono (by decide) (by decide)) (PlL.cons (n := 0) (PlL.tup (strs_pl hu hl (by decide)) (by decide)) PlL.nil)) (by decide)).mono (by decide) (by decide)
theorem Folk.pl {ds : List PyData} (h : Folk ds) : PlL 9 2 74 ds := ⟨h.1, fun d hd => (h.2 d hd).pl⟩
theorem strs_lay : ∀ {us : List Str}, (∀ u ∈ us, Txs 8 u) → PyData.canLayAll0 (us.map PyData.str) = true
  | [], _ => rfl
  | u :: r, h => by
    simp only [List.map_cons, PyData.canLayAll0, small_ok (h u List.mem_cons_self).2, strs_lay fun x hx => h x (List.mem_cons_of_mem _ hx), Bool.and_self]
theorem Grp.lay {e : PyData} (h : Grp e) : e.canLay0 = true := by
  obtain ⟨x, us, rfl, hx, hl, hu⟩ := h
  simp only [PyData.canLay0, PyData.canLayAll0, strs_lay hu, Bool.and_true]
  simpa only [PyData.canLay0] using small_ok hx.2
theorem grps_lay : ∀ {ds : List PyData}, (∀ e ∈ ds, Grp e) → PyData.canLayAll0 ds = true
  | [], _ => rfl
  | d :: r, h => by
    simp only [PyData.canLayAll0, (h d List.mem_cons_self).lay, grps_lay fun x hx => h x (List.mem_cons_of_mem _ hx), Bool.and_self]
theorem Folk.shaped {ds : List PyData} (h : Folk ds) : SeqAt.shaped (.tuple ds) = true := by
  unfold SeqAt.shaped
  rw [Bool.and_eq_true]
  refine ⟨by simp only [PyData.canLay0]; exact grps_lay h.2, decide_eq_true ?_⟩
  have := (PlL.tup h.pl (by decide)).1.lf.dp
  omega
end
section
variable {z : Zn} {K : PySem.W.Frag} {σ : L2.St} {H : Hp} {te tb ta : TE}
/-- a comprehension over a list just made -/
theorem ev_lcD {ts : TE} {g : TG} {tt : TT} {vs : List Nat} {χ : VP} {Φ : List V → Hp → Prop} (h : Ev z ts σ H (Lst z Φ)) (k : ∀ p ws H2, z.R H H2 → (∀ H3, z.W H2 H3 → Φ ws H3) → ¬ z.U p → H2 p = some (.lst ws) → Ev z (tLc (iList K (tC (.ref p))) g tt te vs) σ H2 χ) :
    Ev z (tLc (iList K ts) g tt te vs) σ H χ := fun H1 e Q q => h H1 e _ fun v H2 e2 f => by
  obtain ⟨p, ws, rfl, nu, hp, fw⟩ := Lst.at f
  exact k p ws H2 (e.tr e2) fw nu hp H2 e2.dr Q fun v H3 e3 fv => q v H3 (e2.tr e3) fv
/-- all([told(x) for x in things]), each true -/
theorem ev_allDa {ts : TE} {n j : Nat} {vs : List Nat} {P : PyData → Prop} (h : Ev z ts σ H (Lst z (Da z n P))) (hn : n ≤ 100000) (hv : ∀ v, wipe ((wipe σ vs).set j (some v)) vs = wipe σ vs)
    (hb : ∀ (v : V) (d : PyData) (D : Addr) H1, P d → (z.add D).R H1 H1 → DU (z.add D).U H1 v d → Ev (z.add D) te ((wipe σ vs).set j (some v)) H1 (Is (.bl true))) :
    Ev z (tCB (rAll K) (tCons (tLc (iList K ts) (gName j) tYes te vs) tNil)) σ H (Is (.bl true)) := by
  refine ev_to (ev_all (bs := List.replicate n true) (ev_lcD h fun p ws H2 r fw nu hp => ?_)) (by simp)
  obtain ⟨ds, hdu, hl, hP⟩ := fw H2 .refl
  have hlen := hdu.len
  refine (ev_lc (P := (· = ws.length)) (φ := fun _ w _ => w = .bl true) (ei_lst (K := K) (ev_c fun H' w => ⟨p, ws, rfl, nu, w p _ nu hp, rfl⟩)) (fun n' h => by omega) hv fun n' i x D H3 _ hi hx hD r3 rD => ?_).imp fun v H' _ ⟨p', ws', e1, e2, e3, e4, e5⟩ => ⟨p', ws', e1, e2, e3, ?_⟩
  · obtain ⟨d, hd, dv⟩ := hdu.at hx
    exact hb x d D H3 (hP d (List.mem_of_getElem? hd)) rD (dv.add hD r3.w)
  · have ht := bl_of (xs := List.replicate n true) (g := fun b => b) (ws := ws') (by rw [e4, List.length_replicate]; omega) fun i w hw => by
      have hi : i < n := by
        have := (List.getElem?_eq_some_iff.mp hw).1
        omega
      exact ⟨true, by rw [List.getElem?_replicate, if_pos hi], e5 i w hw⟩
    rw [ht, List.map_id']
theorem ev_catDa {n m : Nat} {P : PyData → Prop} (ha : Ev z ta σ H (Lst z (Da z n P))) (hb : ∀ H1, z.R H H1 → Ev z tb σ H1 (Lst z (Da z m P))) (hn : n + m ≤ 100000) : Ev z (tOp rCat ta tb) σ H (Lst z (Da z (n + m) P)) :=
  ev_op ha (fun _ H1 r _ => hb H1 r) fun x y H1 r ⟨p, ws, e1, n1, h1, ds, d1, l1, P1⟩ ⟨p', ws', e2, n2, h2, ds', d2, l2, P2⟩ Q q =>
    ⟨p, p', _, _, e1, e2, h1, h2, Nat.le_trans (show ws.length + ws'.length ≤ 100000 by rw [d1.len, d2.len]; omega) (by decide), fun d hd => q _ _ (r.dr.new hd) fun H3 w => ⟨d, _, rfl, r.dr.nu hd, w d _ (r.dr.nu hd) upd_same, ds ++ ds', ((d1.w (r.dr.new hd).w).w w).app ((d2.w (r.dr.new hd).w).w w), by rw [List.length_append, l1, l2], fun x hx =>
      (List.mem_append.mp hx).elim (P1 x) (P2 x)⟩⟩
theorem ev_lookT {ok : PyData → Prop} {E : XK} (h : Ev z te σ H (Ds z ok)) : Ev z (tCall (spLook ok fun _ => true) [] E (tCons te tNil)) σ H (Is (.bl true)) :=
  ev_call (ea_cons h fun v H1 r _ => ea_nil) fun vs H1 r ⟨v, rr, e, ⟨d, hd, hv⟩, er⟩ Q q => ⟨z, v, d, by rw [e, er]; rfl, r.dr, hv, hd, fun H' r' => q _ H' r' fun _ _ => rfl⟩
theorem ds_one {P P' : PyData → Prop} (h : Ev z te σ H (Ds z P)) (i : ∀ d, P d → P' (.tuple [d])) : Ev z (tTup (tCons te tNil)) σ H (Ds z P') :=
  (ev_tup (ea_cons h fun v H1 r _ => ea_nil) fun vs H' ⟨v, r, e, _, er⟩ => by rw [e, er]; exact (show 1 ≤ 100000 by decide)).imp fun v H' _ ⟨p, ws, e, nu, hp, v', r, ew, ⟨d, hd, hv⟩, er⟩ => ⟨.tuple [d], i d hd, by rw [e]; exact .tup nu hp (by rw [ew, er]; exact .one hv)⟩
theorem td_of_tl {n m : Nat} (h : Ev z te σ H (Tup z (TL n m))) (hm : m ≤ 1000) : Ev z te σ H (TD z (PlL n 0 m)) := h.imp fun v H' _ ⟨p, ws, e, nu, hp, xs, ew, hl, hx⟩ => ⟨p, ws, e, nu, hp, xs.map PyData.str, strs_pl hx hl hm, by rw [ew]; exact .strs xs⟩
end
section
variable {z : Zn} {K : PySem.W.Frag} {σ : L2.St} {H : Hp} {ta tk : TE} {D : Ends} {tu : TS}
/-- a new purse, held by a name -/
theorem q_purse {a : Addr} {ns : List Int} {k i : Nat} {E : XK} (hz : z.R H H) (h1 : Ev z ta σ H (Is (.ref a))) (h2 : Ev z tk σ H (Is (.int (k : Int)))) (hS : ∀ H1, z.R H H1 → SqL K H1 a (ns.map V.int)) (hl : ns.length ≤ 1000) (hk : k ≤ 1000)
    (kk : ∀ p o H1 H2, z.R H H1 → z.R H1 H2 → H1 p = none → ¬ z.U p → H2 p = some o → IsPur o → tu D (σ.set i (some (.ref p))) H2) : tSeq (tAsg (tCall (spPurse K) [] E (tCons ta (tCons tk tNil))) (gName i)) tu D σ H := by
  show tCons ta (tCons tk tNil) σ H fun vs H1 => spPurse K (vs ++ []) H1 (fun v H2 => tu D (σ.set i (some v)) H2) E
  exact (ea_is h1 (ea_is h2 ea_nil)) H hz _ fun vs H1 e f => ⟨z, a, ns, k, by rw [f H1 .refl]; rfl, e.dr, hS H1 e, hl, hk, fun p o H2 r2 hp hnu hpo hpur => kk p o H1 H2 e r2 hp hnu hpo hpur⟩
end
end FB

set_option Elab.async false
set_option linter.all false
set_option maxRecDepth 100000
set_option maxHeartbeats 4000000
/-! FB, part r: refusals: an own exception whose __init__ says super().__init__(text) and keeps one field. -/
namespace FB
open PySem PySem.W PySem.Calls PyProof.Rows PySem.HandSPX
/-! ### the text of __init__ -/
def riA (f : Str) (p1 p2 : Pos) : Arguments := { posonlyargs := [], args := [{ arg := "self", annotation := none, pos := p1 }, { arg := f, annotation := none, pos := p2 }], vararg := none, kwonlyargs := [], kw_defaults := [], kwarg := none, defaults := [] }
def riB (f msg : Str) (k : Nat) (a1 a2 a3 a4 a5 a6 b1 b2 b3 b4 : Pos) : List Stmt :=
  [.Expr (.Call (.Attribute (.Call (.Name "super" a1) [] [] a2) "__init__" a3) [.Constant (.str msg) k a4] [] a5) a6, .Assign [.Attribute (.Name "self" b1) f b2] (.Name f b3) b4]
def riS (f : Str) : Scope := { kind := .function, names := [("self", .local), (f, .local), ("__class__", .free), ("super", .globalImplicit)], isGenerator := false, isCoroutine := false, more := [] }
/-- what the written part says of the class at C, and of its __init__, at fI -/
structure RefTxt (prog : Program) (K : Frag) (mg : Str → Option Value) (nm f msg : Str) (C fI cc cda : Addr) : Prop where
  gC : mg nm = some (.ref C)
  zS : mg "super" = none
  cls : ∃ nm q N bs bm sn sub ab col dd k0 k1 k2 k3 k5, K.lookup C = some (excClassObj nm q C N bs bm true sn sub ab col dd k0 k1 k2 k3 k5 "ValueError.__new__") ∧ refsVE bm = true ∧ alongIn K "__init__" bm = some (some (.builtin "ValueError.__init__"))
  sa : findIn K (.ref C) "__setattr__" = some (some (.builtin "object.__setattr__"))
  ga : findIn K (.ref C) "__getattribute__" = some (some (.builtin "BaseException.__getattribute__"))
  gg : findIn K (.ref C) "__getattr__" = some none
  noN : findIn K (.ref C) f = some none
  iC : findIn K (.ref C) "__init__" = some (some (.ref fI))
  tC : typeIn K (.ref fI) = some (.type "function")
  kC : keepIn K (.ref C) = true
  exC : subIn K (.ref C) (.type "BaseException") = some true
  veC : subIn K (.ref C) (.type "ValueError") = some true
  seC : mroIn K C (.ref C) = some true
  tyC : typeIn K (.ref C) = some (.type "type")
  hdC : hasDictIn K C = true
  te : exmOne K (.ref C) (.ref C) = some true
  tp : nsIn K cStatics "thirdparty.any" = some none
  cell : ∃ cl cld csl, K.lookup cc = some ⟨cl, cld, .cell (some (.ref C)), csl⟩
  code : ∃ ccl cdd vs ccs file tf, K.lookup cda = some ⟨ccl, cdd, .fields vs, ccs⟩ ∧ vs[2]? = some (.str file tf) ∧ ((prog.main.file : Str) == file) = true
  top : (prog.main.scope.names.lookup ("super" : Str)).isSome = false
  nf : (f == ("self" : Str)) = false ∧ (("self" : Str) == f) = false ∧ (("__class__" : Str) == f) = false ∧ (("super" : Str) == f) = false ∧ (f == ("__debug__" : Str)) = false
  fn : ∃ (oc : Value) (od : Option Addr) (doc pm : Value) (an : Option Addr) (ct : Value) (osl : Array (Option Value)) (k : Nat) (p1 p2 a1 a2 a3 a4 a5 a6 b1 b2 b3 b4 : Pos),
    K.lookup fI = some ⟨oc, od, .func (fnX "__init__" (nm ++ ".__init__") (riA f p1 p2) (riB f msg k a1 a2 a3 a4 a5 a6 b1 b2 b3 b4) (riS f) [("__class__", cc)] .none .none doc pm an (.ref cda) ct), osl⟩ ∧ codeIn K (.ref cda) (nm ++ ".__init__") = true ∧ (a3.endLine == a5.line) = true ∧
    ∀ (s : Shared) (x v : Value), BindsTo s (fnX "__init__" (nm ++ ".__init__") (riA f p1 p2) (riB f msg k a1 a2 a3 a4 a5 a6 b1 b2 b3 b4) (riS f) [("__class__", cc)] .none .none doc pm an (.ref cda) ct) ⟨[x, v], []⟩ [("self", x), (f, v)]
theorem refs_one (v : Value) : [v].length ≤ sizeLine := by
  rw [sizeLine_eq]
  exact (by decide : 1 ≤ 16777216)
/-- what __init__ leaves of a fresh exception at x -/
structure RefEnd (f : Str) (h h' : Heap) (x C dx t1 : Addr) (v : Value) : Prop where
  keep : ∀ b o, b ≠ x → h.get? b = some o → h'.get? b = some o
  obj : h'.get? x = some { cls := .ref C, dict := some dx, data := .fields #[.ref t1, .none, .none, .none, .bool false, .none] }
  dbig : h.objs.size ≤ dx
  dne : dx ≠ x
  ns : h'.Ns1 dx (fun y => if y = f then some v else none)
section
variable {prog : Program} {w : World} {M : Model} {A : Around} {E : Value → Shared → Prop} {h : Heap} {g : Array GenState} {d : Drawn} {t : Nat} {os : OsState}
/-- the bound ValueError.__init__ at u, called -/
theorem ve_call {u x C t0 : Addr} {rest : List Value} {Q : Value → Shared → Prop} {nm q : Str} {N : Addr} {bs bm : List Value} {hdct : Bool} {sn : List Str} {sub : List Value} {ab : Bool} {col : Option Bool} {dd : Option Addr} {k0 k1 k2 k3 k5 : Option Value}
    (hC : h.get? C = some (excClassObj nm q C N bs bm hdct sn sub ab col dd k0 k1 k2 k3 k5 "ValueError.__new__")) (hu : h.get? u = some (kxs_mw "ValueError.__init__" x)) (he : h.get? x = some (excO C t0)) (hz : rest.length ≤ sizeLine)
    (hq : ∀ h' t1, (∀ b o, b ≠ x → h.get? b = some o → h'.get? b = some o) → h'.get? x = some (excO C t1) → Q .none ⟨h', g, d, t, os⟩) : wpAny (model prog w) A (call (.ref u) rest) Q E ⟨h, g, d, t, os⟩ := by
  refine wpAny_call (codeAny_of_tree ?_)
  show wpAny _ A.in1 (callAny (.ref u) ⟨rest, []⟩) _ _ _
  simp only [callAny]
  refine wpAny_bind (wpAny_load hu ?_)
  simp only [kxs_mw, show (Value.type "method-wrapper" == Value.type "method" || Value.type "method-wrapper" == Value.type "builtin_function_or_method" || Value.type "method-wrapper" == Value.type "method-wrapper") = true by decide, if_true]
  refine KFB.if_so (by decide) (wpAny_bind (check_bound_init F.excBase_ValueError.toExcCallFacts hC he rfl (wpAny_bind (wpAny_pure (wpAny_pure ?_)))))
  refine ⟨plainId_quiet F.excBase_ValueError.init.plain _, codeAny_builtin F.excBase_ValueError.initEntry ?_⟩
  exact exc_init_tree (cls := .ref C) (t0 := t0) (dv := none) (c2 := .none) (c3 := .none) (b4 := .bool false) he hz fun h' k e' _ => hq h' _ k e'
end
section
variable {prog : Program} {w : World} {A : Around} {E : Value → Shared → Prop} {R : Result → Shared → Prop} {s : Shared} {K : Frag} {mg mb : Str → Option Value} {nm f msg : Str} {C fI cc cda : Addr}
theorem ref_init (T : RefTxt prog K mg nm f msg C fI cc cda) {x t0 : Addr} {v : Value} (X : K.In s.heap) (hlim : s.heap.NoLimit) (hG : s.heap.Ns mainGlobals mg) (hB : s.heap.Ns builtinsNs mb) (hbb : ∀ y : Str, y ≠ "__name__" → mb y = bootBuiltins y)
    (hx : s.heap.get? x = some (excO C t0)) (hxG : x ≠ mainGlobals) (hxB : x ≠ builtinsNs) (hnx : K.lookup x = none) (hroom : A.depth < recursionLimit)
    (hq : ∀ h' tk dx t1, RefEnd f s.heap h' x C dx t1 v → R (.ok (.ret .none)) { s with heap := h', toks := tk }) :
    codeAny (model prog w) A (.call (.ref fI) ⟨[.ref x, v], []⟩) R s := by
  obtain ⟨oc, od, doc, pm, an, ct, osl, kk, p1, p2, a1, a2, a3, a4, a5, a6, b1, b2, b3, b4, ho, hcd, hline, hbind⟩ := T.fn
  obtain ⟨nm', q, N, bs, bm, sn, sub, ab, col, dd, k0, k1, k2, k3, k5, hC, hbm, hal⟩ := T.cls
  obtain ⟨n1, n2, n3, n4, n5⟩ := T.nf
  have hcl : clsIn K C = some { name := nm', bases := bs, mro := .ref C :: bm, ns := N, qualname := q, hasDict := true, slotNames := sn, subclasses := sub, abstract := ab, collection := col, hasDel := false } := by unfold clsIn; rw [hC] <;> rfl
  have d1 : (("super" : Str) == ("self" : Str)) = false := by decide
  have d2 : (("super" : Str) == ("__class__" : Str)) = false := by decide
  have d3 : (("super" : Str) == ("super" : Str)) = true := by decide
  have d4 : (("__class__" : Str) == ("self" : Str)) = false := by decide
  have d5 : (("__class__" : Str) == ("__class__" : Str)) = true := by decide
  have d6 : (("self" : Str) == ("self" : Str)) = true := by decide
  have d7 : (f == f) = true := beq_self_eq_true f
  have lS : (riS f).names.lookup ("super" : Str) = some .globalImplicit := by simp only [riS, List.lookup, d1, d2, d3, n4]
  have lC : (riS f).names.lookup ("__class__" : Str) = some .free := by simp only [riS, List.lookup, d4, d5, n3]
  have lF : (riS f).names.lookup f = some .local := by simp only [riS, List.lookup, n1, d7]
  have lX : (riS f).names.lookup ("self" : Str) = some .local := by simp only [riS, List.lookup, d6]
  have mS : ([("self", Value.ref x), (f, v)] : List (Str × Value)).reverse.lookup ("self" : Str) = some (.ref x) := by
    show List.lookup ("self" : Str) [(f, v), (("self" : Str), Value.ref x)] = _
    simp only [List.lookup, n2, d6]
  have mF : ([("self", Value.ref x), (f, v)] : List (Str × Value)).reverse.lookup f = some v := by
    show List.lookup f [(f, v), (("self" : Str), Value.ref x)] = _
    simp only [List.lookup, d7]
  refine ks_codeAny_call_defAt (fd := fnX "__init__" (nm ++ ".__init__") (riA f p1 p2) (riB f msg kk a1 a2 a3 a4 a5 a6 b1 b2 b3 b4) (riS f) [("__class__", cc)] .none .none doc pm an (.ref cda) ct) (body := riB f msg kk a1 a2 a3 a4 a5 a6 b1 b2 b3 b4) (binds := [("self", .ref x), (f, v)])
    hroom (X _ _ ho) rfl hlim (codeRec_of X hcd) rfl (hbind s _ _) ?_ ?_ (fun h₁ hns hk₁ => ?_) rfl rfl rfl
  · intro y hy
    simp only [riS, List.mem_cons, List.not_mem_nil, or_false] at hy
    rcases hy with rfl | rfl | rfl | rfl <;> (intro z; cases z)
  · intro y hy
    simp only [List.mem_cons, List.not_mem_nil, or_false] at hy
    rcases hy with rfl | rfl
    · exact lX
    · exact lF
  show PySem.wpAt (model prog w) (A.deeper (envX (nm ++ ".__init__") (riS f) s.heap.objs.size fI (.ref cda) [("__class__", cc)])) (.func _ (envX (nm ++ ".__init__") (riS f) s.heap.objs.size fI (.ref cda) [("__class__", cc)])) (execs _ (envX (nm ++ ".__init__") (riS f) s.heap.objs.size fI (.ref cda) [("__class__", cc)])) _ _ _
  have X₁ : K.In h₁ := X.keeps hk₁
  have hx₁ := hk₁ _ _ hx
  have hxL : s.heap.objs.size ≠ x := Nat.ne_of_gt (Heap.lt_size hx)
  obtain ⟨ccl, cdd, cvs, ccs, file, tf, hcode, hvs, hfile⟩ := T.code
  obtain ⟨cl, cld, csl, hcell⟩ := T.cell
  unfold riB
  obtain ⟨hp, g, dr, tk, os⟩ := s
  have he : eval (.Call (.Attribute (.Call (.Name "super" a1) [] [] a2) "__init__" a3) [.Constant (.str msg) kk a4] [] a5) (envX (nm ++ ".__init__") (riS f) hp.objs.size fI (.ref cda) [("__class__", cc)]) = (do
      let ov ← attributeBase (.Call (.Name "super" a1) [] [] a2) "__init__" (envX (nm ++ ".__init__") (riS f) hp.objs.size fI (.ref cda) [("__class__", cc)]) (eval (.Call (.Name "super" a1) [] [] a2) (envX (nm ++ ".__init__") (riS f) hp.objs.size fI (.ref cda) [("__class__", cc)]))
      standAt a3.atName
      let (f', first) ← holding [ov] (getMethod ov "__init__" (do return (← importBound (.Call (.Name "super" a1) [] [] a2) (envX (nm ++ ".__init__") (riS f) hp.objs.size fI (.ref cda) [("__class__", cc)])).getD true))
      callWith a5 f' first (backTo a5 (starEach [.Constant (.str msg) kk a4] (envX (nm ++ ".__init__") (riS f) hp.objs.size fI (.ref cda) [("__class__", cc)]))) []) := by
    have hpos : methodCallPos true (.Call (.Name "super" a1) [] [] a2) (envX (nm ++ ".__init__") (riS f) hp.objs.size fI (.ref cda) [("__class__", cc)]) a3 a5 = pure a5 := by unfold methodCallPos; simp [hline]
    rw [arm_eval_Call]
    unfold methodCall
    rw [show methodCallForm ([Expr.Constant (.str msg) kk a4].length + ([] : List Keyword).length) (backTo a5 (starEach [.Constant (.str msg) kk a4] (envX (nm ++ ".__init__") (riS f) hp.objs.size fI (.ref cda) [("__class__", cc)]))) (backToKw a5 (keywordEach [] (envX (nm ++ ".__init__") (riS f) hp.objs.size fI (.ref cda) [("__class__", cc)]))) = true from rfl, hpos]
    rfl
  refine ks_wpAt_execs_cons (ks_wpAt_Expr_any (ks_wpAt_MethodCall (he := he) ?_))
  refine ks_wpAt_super_base (env := envX (nm ++ ".__init__") (riS f) hp.objs.size fI (.ref cda) [("__class__", cc)]) lS lC (by decide) rfl (X₁ _ _ ho) rfl rfl rfl (X₁ _ _ hcode) rfl hvs hfile T.top ?_
  refine ks_loadName_global rfl lS (loadGlobal_builtin (env := envX (nm ++ ".__init__") (riS f) hp.objs.size fI (.ref cda) [("__class__", cc)]) (hG.keeps hk₁) T.zS (hB.keeps hk₁) ((hbb _ (by decide +kernel)).trans (by decide +kernel : bootBuiltins "super" = some (.type "super"))) ⟨rfl, ?_⟩)
  refine wpAny_loadName_free rfl lC rfl ⟨_, X₁ _ _ hcell, rfl⟩ ?_
  refine wpAny_loadName_local rfl lX hns mS ?_
  refine ks_wpAny_isType_cls (X₁ _ _ hC) rfl ⟨rfl, ?_⟩
  refine ks_wpAny_call_super (X₁ _ _ hC) rfl hx₁ rfl (fun c e => by cases e) (looks_mroIn X₁ T.seC) fun h₂ e₂ k₂ => ?_
  have X₂ : K.In h₂ := X₁.keeps k₂
  have hx₂ := k₂ _ _ hx₁
  have hCx : x ≠ C := fun z => by rw [z, hC] at hnx; cases hnx
  refine kxs_getMethod kxs_ValueError e₂ (looks_opaque X₂ T.tp) (l₀ := .ref C :: bm) (fun A Q E s k q => wpAny_bind ((looks_clsIn X₂ hcl) A _ E s k (wpAny_pure q))) (by simp [List.dropWhile_cons]) X₂ hal
    ((show Looks (model prog w) h₂ (typeOf (.ref x)) (.ref C) from (show InstAt h₂ x (excO C t0) C none from ⟨hx₂, rfl, rfl, trivial⟩).type).andThen (looks_subIn X₂ T.veC)) hCx (by decide) ?_
  have k₃ : ∀ b o, h₂.get? b = some o → (h₂.push (kxs_mw "ValueError.__init__" x)).get? b = some o := fun b o e => Heap.get?_push_of_some _ e
  have X₃ : K.In (h₂.push (kxs_mw "ValueError.__init__" x)) := X₂.keeps k₃
  have hu : (h₂.push (kxs_mw "ValueError.__init__" x)).get? h₂.objs.size = some (kxs_mw "ValueError.__init__" x) := Heap.get?_push_at rfl rfl
  refine kxs_callWith (i := "ValueError.__init__") (x := x) rfl ?_
  refine evalArgs_plain (PyProof.Rows.args_cons (Calls.Constant_str (PyProof.Rows.args_nil ⟨hu, ?_⟩)) rfl)
  refine ve_call (X₃ _ _ hC) hu (k₃ _ _ hx₂) (refs_one _) fun h₄ t1 k₄ hx₄ => ?_
  have kk₄ : ∀ b o, b ≠ x → h₁.get? b = some o → h₄.get? b = some o := fun b o hb e => k₄ b o hb (k₃ b o (k₂ b o e))
  have X₄ : K.In h₄ := fun b o e => kk₄ b o (fun z => by rw [z, hnx] at e; cases e) (X₁ b o e)
  have hn₄ : h₄.Ns hp.objs.size (fun y => ([("self", Value.ref x), (f, v)] : List (Str × Value)).reverse.lookup y) := by
    obtain ⟨oL, es, ep, hL, r⟩ := hns
    exact ⟨oL, es, ep, kk₄ _ _ hxL hL, r⟩
  refine wpAt_of_wpAny (wpAny_execs_cons (plainObj_wpAny_Assign_Attribute ?_))
  refine wpAny_Name (wpAny_loadName_local rfl lF hn₄ mF ?_) n5
  refine wpAny_Name (wpAny_loadName_local rfl lX hn₄ mS ?_) (by decide)
  refine set_plain X₄ (ox := excO C t1) (od := none) ⟨hx₄, rfl, rfl, trivial⟩ T.sa ?_
  refine exc_osa X₄ hx₄ hcl (show refsVE (.ref C :: bm) = true from hbm) rfl T.noN fun h₅ tk₅ dx k₅ dn dne hx₅ hn₅ => ?_
  show wpAny _ _ (execs _ _) _ _ _
  have z1 : hp.objs.size < h₄.objs.size := hn₄.lt
  exact wpAny_execs_nil (hq h₅ tk₅ dx t1 ⟨fun b o hb e => k₅ b o hb (kk₄ b o hb (hk₁ b o e)), hx₅, Nat.le_of_lt (Nat.lt_of_lt_of_le z1 dn), dne, hn₅⟩)
/-- a made refusal -/
structure RefMade (f : Str) (h h' : Heap) (e C d : Addr) (v : Value) : Prop where
  keep : ∀ b o, h.get? b = some o → h'.get? b = some o
  new : h.objs.size ≤ e
  obj : ∃ t1 : Addr, h'.get? e = some { cls := .ref C, dict := some d, data := .fields #[.ref t1, .none, .none, .none, .bool false, .none] }
  dbig : h.objs.size ≤ d
  dne : d ≠ e
  ns : h'.Ns1 d (fun y => if y = f then some v else none)
theorem ref_made (T : RefTxt prog K mg nm f msg C fI cc cda) {v : Value} (X : K.In s.heap) (hlim : s.heap.NoLimit) (hG : s.heap.Ns mainGlobals mg) (hB : s.heap.Ns builtinsNs mb) (hbb : ∀ y : Str, y ≠ "__name__" → mb y = bootBuiltins y) (hroom : A.depth + 1 < recursionLimit)
    (hq : ∀ h' tk e d, RefMade f s.heap h' e C d v → R (.ok (.ret (.ref e))) { s with heap := h', toks := tk }) : codeAny (model prog w) A (.call (.ref C) ⟨[v], []⟩) R s := by
  obtain ⟨nm', q, N, bs, bm, sn, sub, ab, col, dd, k0, k1, k2, k3, k5, hC, hbm, hal⟩ := T.cls
  obtain ⟨hp, g, dr, tk, os⟩ := s
  have k : ∀ b o, hp.get? b = some o → ((hp.push (kdv_tup [v])).push (HandSPX.excO C hp.objs.size)).get? b = some o := fun b o e => Heap.get?_push_of_some _ (Heap.get?_push_of_some _ e)
  have hget : ((hp.push (kdv_tup [v])).push (HandSPX.excO C hp.objs.size)).get? (hp.objs.size + 1) = some (HandSPX.excO C hp.objs.size) := by heap_get
  have big : ∀ {b : Addr} {o : Obj}, hp.get? b = some o → hp.objs.size + 1 ≠ b := fun {b o} e z => absurd (show b < hp.objs.size from Heap.lt_size e) (by rw [← z]; exact Nat.not_lt_of_le (Nat.le_succ _))
  have hnx : K.lookup (hp.objs.size + 1) = none := by
    cases e : K.lookup (hp.objs.size + 1) with
    | none => rfl
    | some o => exact absurd rfl (big (X _ _ e))
  have gne : hp.objs.size + 1 ≠ mainGlobals := by
    obtain ⟨o, _, _, e, _⟩ := hG
    exact big e
  have bne : hp.objs.size + 1 ≠ builtinsNs := by
    obtain ⟨o, _, _, e, _⟩ := hB
    exact big e
  refine call_own F.excBase_ValueError (fun X => refsVE_contains X bm hbm) (X _ _ hC) (looks_findIn X T.iC) (fun self => bind_fn X self T.tC) (refs_one v) ?_
  refine ref_init (mb := mb) (s := ⟨(hp.push (kdv_tup [v])).push (HandSPX.excO C hp.objs.size), g, dr, tk, os⟩) T (X.keeps k) (hlim.keeps k) (hG.keeps k) (hB.keeps k) hbb hget gne bne hnx ?_ fun h' tk' dx t1 ⟨k', hx, dn, dne, hns⟩ => ?_
  · show A.depth + 1 < recursionLimit
    exact hroom
  · have old : ∀ b o, hp.get? b = some o → h'.get? b = some o := fun b o e => k' b o (Nat.ne_of_lt (Nat.lt_succ_of_lt (Heap.lt_size e))) (k b o e)
    have z : hp.objs.size + 1 + 1 ≤ dx := by
      first
        | (simpa only [Heap.size_push] using dn)
        | exact dn
        | (have q := dn; rw [Heap.size_push, Heap.size_push] at q; exact q)
    exact ⟨rfl, hq h' tk' (hp.objs.size + 1) dx ⟨old, Nat.le_succ _, ⟨_, hx⟩, Nat.le_trans (Nat.le_trans (Nat.le_succ _) (Nat.le_succ _)) z, dne, hns⟩⟩
end
end FB
namespace FB
open PySem PySem.Spec PyProof.Rows L2
theorem relO_ref {g : Str} {v : V} {v' : Value} (r : RelV v v') (f : Str) : RelO (List.lookup f [(g, v)]) (if f = g then some v' else none) := by
  by_cases hw : f = g
  · rw [if_pos hw, hw]
    have q : List.lookup g [(g, v)] = some v := by simp [List.lookup]
    rw [q]
    exact r
  · rw [if_neg hw]
    have qw : (f == g) = false := by simpa using hw
    have q2 : List.lookup f [(g, v)] = none := by simp [List.lookup, qw]
    rw [q2]
    trivial
section
variable {X : Cx} {nm f msg : Str} {C fI cc cda : Addr}
/-- C(e), a refusal -/
def tMkRef (f : Str) (C : Addr) (ta : TA) : L2.St → Hp → XK → Prop := fun σ H Q => ta σ H fun vs H1 => ∃ v, vs = [v] ∧ ∀ d, H1 d = none → Q (.ref C) (some d) (upd H1 d (.xd [(f, v)]))
theorem pmk_ref {a : Expr} {ta : TA} {p pos : Pos} {k : Nat} (T : RefTxt X.prog X.K X.mg nm f msg C fI cc cda) (hr : Room k X.A) (ha : PA X [a] ta) (hg : Gl X nm := by rfl) (hdb : (nm == ("__debug__" : Str)) = false := by decide)
    (he : starEach (a :: []) X.env = (false, eval a X.env) :: starEach [] X.env := by rfl) (hpl : (backTo pos (starEach [] X.env)).any (·.1) = false := by rfl) : L2N.PMk X (.Call (.Name nm p) [a] [] pos) (tMkRef f C ta) := by
  intro pins s σ H Q I h
  refine wpAny_Call_Name_kw (ld_glob I hg T.gC ?_ hdb)
  refine PySem.W.callWith_K (h₀ := X.base) I.ok.mod.kin T.kC (thn (ha.run pos pins s σ H _ I h) fun us s1 hh => ?_) he hpl
  obtain ⟨vs, H1, I1, r1, v, ev, q1⟩ := hh
  subst ev
  refine ⟨I1.kIn, ?_⟩
  cases r1 with
  | cons rv rn =>
    rename_i v' us'
    cases rn
    show wpAny _ _ (call (.ref C) [v']) _ _ _
    have hlim := I1.nolimit
    obtain ⟨mb, hb1, hb2⟩ := I1.mod.blt
    have hG := I1.mod.glob.keeps I1.bk
    have hB := hb1.keeps I1.bk
    have hX := I1.kIn
    obtain ⟨hp, g, dr, tk, os⟩ := s1
    refine wpAny_call (ref_made (mb := mb) T hX hlim hG hB hb2 (by have := hr.dp; omega) fun h' tk' e d M => ?_)
    show L2N.MkP X pins σ Q (.ref e) ⟨h', g, dr, tk', os⟩
    obtain ⟨t1, hoe⟩ := M.obj
    have hns := M.ns
    obtain ⟨G', g1, g2⟩ := restrict h' fun b => decide (b ≠ e)
    have gk : ∀ b, b ≠ e → G'.get? b = h'.get? b := fun b hb => g1 b (decide_eq_true hb)
    have ge : G'.get? e = none := g2 e (by simp)
    have old : ∀ b o, hp.get? b = some o → G'.get? b = some o := fun b o q => (gk b (Nat.ne_of_lt (Nat.lt_of_lt_of_le (Heap.lt_size q) M.new))).trans (M.keep b o q)
    have ob : ObjOk X.prog X.w (upd H1 d (.xd [(f, v)])) G' d (.xd [(f, v)]) := ⟨_, hns.at (fun o q => (gk d M.dne).trans q), fun y => relO_ref rv y⟩
    have J : Inv X pins σ (upd H1 d (.xd [(f, v)])) ⟨G', g, dr, tk', os⟩ := I1.laid (t' := tk') old M.dbig ob
    refine ⟨e, _, _, ⟨G', g, dr, tk', os⟩, _, .ref C, some d, rfl, J, fun b o q => ?_, ge, hoe, ⟨rfl, rfl, fun vs e => by cases e; rfl⟩, rfl, rfl, ?_, rfl, I1.bare, raises_own T.exC T.tyC, q1 d (I1.hok.fresh M.dbig)⟩
    · by_cases hb : b = e
      · have q' : G'.get? b = some o := q
        rw [hb, ge] at q'
        cases q'
      · exact (gk b hb).symm.trans q
    · rw [upd_ne (Ne.symm M.dne)]
      exact I1.hok.fresh M.new
/-- raise C(e) -/
def tRaiseRef (f : Str) (C : Addr) (W : WX) (ta : TA) : TS := fun _ σ H => tMkRef f C ta σ H fun cls d H' => W cls d σ H'
theorem ps_raiseRef {a : Expr} {ta : TA} {W : WX} {p pos pos2 : Pos} {k : Nat} (hc : X.calm = true) (T : RefTxt X.prog X.K X.mg nm f msg C fI cc cda) (hr : Room k X.A) (tk : L2N.Takes X W) (ha : PA X [a] ta) (hg : Gl X nm := by rfl) (hdb : (nm == ("__debug__" : Str)) = false := by decide)
    (he : starEach (a :: []) X.env = (false, eval a X.env) :: starEach [] X.env := by rfl) (hpl : (backTo pos (starEach [] X.env)).any (·.1) = false := by rfl) : PS X (.Raise (some (.Call (.Name nm p) [a] [] pos)) none pos2) (tRaiseRef f C W ta) := L2N.ps_raise hc tk (pmk_ref T hr ha hg hdb he hpl)
/-- x.f, x the refusal that the suite holds -/
def tByRef (f : Str) (C : Addr) (a : Addr) (cls : Value) (d : Option Addr) (te : TE) : TE := fun σ H Q => te σ H fun x H1 => x = .ref a ∧ cls = .ref C ∧ ∃ (dd : Addr) (v : V), d = some dd ∧ H1 dd = some (.xd [(f, v)]) ∧ Q v H1
theorem pe_byRef {a : Addr} {oe : Obj} {cls : Value} {d : Option Addr} {pn : List (Addr × Obj)} {e : Expr} {te : TE} {pos : Pos} (T : RefTxt X.prog X.K X.mg nm f msg C fI cc cda) (hz : Zc cls d oe) (hf : ∃ vs, oe.data = .fields vs) (he : PE (X.suite a ((a, oe) :: pn)) e te)
    (hb : attributeBase e f X.env (eval e X.env) = eval e X.env := by rfl) : PE (X.suite a ((a, oe) :: pn)) (.Attribute e f pos) (tByRef f C a cls d te) := by
  refine ⟨fun pins s σ H Q I h => ?_⟩
  refine attr_of hb (thn (he.run pins s σ H _ I h) fun u s1 hh => ?_)
  obtain ⟨x, H1, I1, rx, ex, ec, dd, v, ed, ea, q⟩ := hh
  subst ex
  obtain rfl : u = Value.ref a := rx
  subst ec
  subst ed
  obtain ⟨ha, _⟩ := I1.pin (a, oe) (List.mem_append_left _ List.mem_cons_self)
  obtain ⟨vs, hd⟩ := hf
  have hx : ObjOk X.prog X.w H1 s1.heap dd (.xd [(f, v)]) := I1.hok dd _ ea
  obtain ⟨mA, hns, hr⟩ := hx
  obtain ⟨od, ho, hl⟩ := lookIn_ns hns
  have l : List.lookup f [(f, v)] = some v := by simp [List.lookup]
  obtain ⟨u, hu, ru⟩ := RelO.some_of (v := v) (o := mA f) (by rw [← l]; exact hr f)
  have J : PySem.W.InstAt s1.heap a oe C (some od) := ⟨ha, hz.1, by unfold PySem.W.notCls; rw [hd] <;> rfl, by rw [hz.2]; exact ho⟩
  exact HandSPX.exc_get I1.kIn J T.ga T.gg T.exC (PySem.W.findObj_own T.hdC T.noN rfl (by rw [hl, hu])) (handed_of ru) ⟨v, H1, I1.tok _, ru, q⟩
end
end FB


set_option Elab.async false
set_option linter.all false
set_option maxRecDepth 100000
set_option maxHeartbeats 4000000
/-! FB, part g: several except clauses, each with a name. -/
namespace FB
open PySem PySem.Spec PyProof.Rows L2
abbrev Cl := Value × Nat × (Addr → Value → Option Addr → TS)
/-- what the clauses wish of an exception of the body; none comes behind them -/
def wManyA (K : PySem.W.Frag) (D : Ends) : List Cl → WX
  | [] => fun _ _ _ _ => False
  | (c, i, ts) :: r => fun cls d σ H => ∃ b, PySem.W.exmOne K cls c = some b ∧
      (b = true → ∀ a, H a = none → ts a cls d { nx := fun σ' H' => D.nx (σ'.set i none) H', rt := D.rt, bk := fun σ' H' => D.bk (σ'.set i none) H', ct := fun σ' H' => D.ct (σ'.set i none) H' } (σ.set i (some (.ref a))) H) ∧
      (b = false → wManyA K D r cls d σ H)
inductive HdsA (X : Cx) : List ExceptHandler → List Cl → Prop
  | rest {hds : List ExceptHandler} : HdsA X hds []
  | cons {x n : Str} {c : Value} {i : Nat} {ts : Addr → Value → Option Addr → TS} {b₀ : Stmt} {suite : List Stmt} {np pos' : Pos} {hds : List ExceptHandler} {l : List Cl} (hc : Names X x c) (hi : X.N[i]? = some n) (hln : X.env.kindOf n = some .local)
      (hsu : ∀ (a : Addr) (oe : Obj) (cls : Value) (d : Option Addr) (pn : List (Addr × Obj)), L2N.Zn cls d oe → (∃ vs, oe.data = .fields vs) → PSs (X.suite a ((a, oe) :: pn)) (b₀ :: suite) (ts a cls d)) (r : HdsA X hds l) :
      HdsA X (.ExceptHandler (some (.Name x np)) (some n) (b₀ :: suite) pos' :: hds) ((c, i, ts) :: l)
section
variable {X : Cx} {body : List Stmt} {h₀ : ExceptHandler} {hds : List ExceptHandler} {l : List Cl} {pos : Pos} {tb : WX → TS}
theorem ps_try_manyA (hs : X.stack = X.env :: X.outer) (hf : X.env.frame = some X.env.locals) (hN : X.N.Nodup)
    (hb : ∀ (W : WX) (pn : List (Addr × Obj)) (xe : Value → Shared → Prop), L2N.Takes (X.tr pn xe) W → PassesOwn (model X.prog X.w) X.A X.env xe → PSs (X.tr pn xe) body (tb W)) (hh : HdsA X (h₀ :: hds) l) :
    PS X (.Try body (h₀ :: hds) [] [] pos) (fun D σ H => tb (wManyA X.K D l) D σ H) := by
  refine ⟨fun pins s σ H D I h => ?_⟩
  have ok := I.ok
  have hfr : X.A.frames = some (X.env :: X.outer) := by rw [ok.frames, hs]
  refine wpAny_Try_except ?_
  refine wpAny_mono ((hb (wManyA X.K D l) (X.pn ++ pins) (fun e u => wpAny (model X.prog X.w) X.A (noteFrame e X.env) (fun _ u2 => wpAny (model X.prog X.w) X.A (setFlight e none) (fun _ u3 => wpAny (model X.prog X.w) X.A (handleBy e X.env (h₀ :: hds)) (SP X pins D) X.xe u3) X.xe u2) X.xe u)
    (fun u s' xx => ?_) PassesOwn.looking).run [] s σ H D (I.toTry _) h) (fun f s1 hsp => ?_) (fun e s1 he => he)
  · obtain ⟨a, B, sI, pins', σ', H', cls, d, rfl, J', nb, up, sky, na, os, ag, w⟩ := xx
    have J : Inv X pins σ' H' sI := J'.ofTry ok
    have sky2 : Sky B (X.env :: X.outer) a (L2N.Zn cls d) X.env.locals s'.heap := by rw [← hs]; exact sky
    show wpAny (model X.prog X.w) X.A (noteFrame (.ref a) X.env) _ _ _
    refine L2N.Sky.land L2N.Zn.steady hfr hf sky2 fun h3 fl3 up3 => ?_
    have J3 : Inv X pins σ' H' { s' with heap := h3 } := J.landed nb fl3.1 (up.trans up3) os ag
    obtain ⟨oe3, vs3, he3, hz3, hd3⟩ := fl3.there
    have nfr : a ∉ frs (X.env :: X.outer) := fun hm => by
      obtain ⟨_, o', e', hnf⟩ := fl3.2.2.1.mem hm
      rw [he3] at e'
      cases e'
      exact hnf _ hd3
    have nL : a ≠ X.env.locals := fun z => nfr (List.mem_filterMap.mpr ⟨X.env, List.mem_cons_self, by rw [hf, z]⟩)
    have nF : a ∉ X.fs := fun hm => by
      obtain ⟨e, he, q⟩ := List.mem_filterMap.mp hm
      exact nfr (List.mem_filterMap.mpr ⟨e, List.mem_cons_of_mem _ he, q⟩)
    have S3 := J3.suite he3 hd3 na nL nF
    have LT : PySem.W.Looks (model X.prog X.w) h3 (typeOf (.ref a)) cls := fun A Q E s k q => wpAny_typeOf_ref (k _ _ he3) (by rw [hz3.1]; exact q)
    have go : ∀ {hd2 : List ExceptHandler} {l2 : List Cl}, HdsA X hd2 l2 → wManyA X.K D l2 cls d σ' H' → wpAny (model X.prog X.w) X.A (handleBy (.ref a) X.env hd2) (SP X pins D) X.xe { s' with heap := h3 } := by
      intro hd2 l2 hk
      induction hk with
      | rest => exact fun w => w.elim
      | @cons x n c i ts b₀ suite np pos' hd3' l3 hc hi hln hsu r ih =>
        intro w
        obtain ⟨b, hb1, hyes, hno⟩ := w
        have hloc : Loc X.env.scope n := .inl hln
        refine wpAny_handleBy_cons (codeAny_handlers_test ?_) (by intro q; cases q)
        have LM := PySem.W.exm_one (M := model X.prog X.w) (J3.kIn) LT hb1
        have test : ∀ {Q : Value → Shared → Prop} {E : Value → Shared → Prop}, Q c { s' with heap := h3 } → wpAny (model X.prog X.w) (X.A.mark (some (.ref a))) (eval (.Name x np) X.env) Q E { s' with heap := h3 } := fun {Q E} q => by
          obtain ⟨hg, hdbg, hm | ⟨hm, hv, hnn⟩⟩ := hc
          · exact ld_glob (X := X.suite a ((a, oe3) :: (X.pn ++ pins))) S3 hg hm q hdbg
          · exact ld_blt (X := X.suite a ((a, oe3) :: (X.pn ++ pins))) S3 hg hm hv q hnn hdbg
        refine test (LM.here ?_)
        cases b with
        | true =>
          refine codeAny_handlers_suite_as ?_
          refine HandSPX.lands_againZ fl3 fun h4 fl4 up4 => ?_
          have J4 : Inv X pins σ' H' { s' with heap := h4 } := J.landed nb fl4.1 ((up.trans up3).trans up4) os ag
          obtain ⟨oe4, vs4, he4, hz4, hd4⟩ := fl4.there
          have S4 := J4.suite he4 hd4 na nL nF
          refine store_ok (X := X.suite a ((a, oe4) :: (X.pn ++ pins))) (v := .ref a) S4 hN hi hloc rfl (fun s5 S5 => ?_) (.inr hln)
          refine wpAny_mono ((hsu a oe4 cls d (X.pn ++ pins) hz4 ⟨_, hd4⟩).run [] s5 _ H' _ S5 (hyes rfl a na)) (fun f s6 hsp => ?_) (fun _ _ z => False.elim z)
          have ends : ∀ {σ6 : L2.St} {H6 : Hp} {Q : Shared → Prop}, Inv (X.suite a ((a, oe4) :: (X.pn ++ pins))) [] σ6 H6 s6 → (∀ s7, Inv X pins (σ6.set i none) H6 s7 → Q s7) →
              wpAny (model X.prog X.w) X.A (do bindName X.env n .none; unbindBehindTheSuite X.env n pos') (fun _ s7 => Q s7) X.xe s6 := fun {σ6 H6 Q} S6 hq => gone_ok (S6.unsuite ok) hN hi hln hq
          cases f with
          | next =>
            obtain ⟨σ6, H6, S6, q6⟩ := hsp
            exact ends S6 fun s7 J7 => ⟨_, _, J7, q6⟩
          | brk =>
            obtain ⟨σ6, H6, S6, q6⟩ := hsp
            exact ends S6 fun s7 J7 => ⟨_, _, J7, q6⟩
          | cont =>
            obtain ⟨σ6, H6, S6, q6⟩ := hsp
            exact ends S6 fun s7 J7 => ⟨_, _, J7, q6⟩
          | ret u =>
            obtain ⟨v6, σ6, H6, S6, r6, q6⟩ := hsp
            exact ends S6 fun s7 J7 => ⟨_, _, _, J7, r6, q6⟩
        | false =>
          show wpAny _ X.A (handleBy (.ref a) X.env hd3') _ _ _
          exact ih (hno rfl)
    exact go hh w
  · cases f with
    | next =>
      obtain ⟨σ', H', J', q⟩ := hsp
      exact wpAny_execs_nil ⟨σ', H', J'.ofTry ok, q⟩
    | brk =>
      obtain ⟨σ', H', J', q⟩ := hsp
      exact ⟨σ', H', J'.ofTry ok, q⟩
    | cont =>
      obtain ⟨σ', H', J', q⟩ := hsp
      exact ⟨σ', H', J'.ofTry ok, q⟩
    | ret u =>
      obtain ⟨v, σ', H', J', r, q⟩ := hsp
      exact ⟨v, σ', H', J'.ofTry ok, r, q⟩
end
end FB

set_option Elab.async false
set_option linter.all false
set_option maxRecDepth 100000
set_option maxHeartbeats 4000000
/-! FB, part h: a caught exception handed to a def; isinstance of it. -/
namespace FB
open PySem PySem.Spec PyProof.Rows L2 L2H HotX
/-- a promise of a def to which the handled exception may be handed -/
structure FnE (P : Program) (w : World) (K : PySem.W.Frag) (mg : Str → Option Value) (base : Heap) (CX : CXT) (k : Nat) (f : Addr) (fd : FuncData) (ps : List Str) (sp : Addr × Obj → Sp) : Prop where
  n : ∀ p vs H Q E, sp p vs H Q E → vs.length = ps.length
  go : ∀ (A : Around) (outer : List Env) (s : Shared) (H : Hp) (args : Args) (us : List Value) (vs : List V) (Q : VK) (E : XK) (p : Addr × Obj), RoomH k A → Hot1 A p → PinOk outer H s p → Env0 P w K mg base A outer s H → BindsTo s fd args (ps.zip us) → Vals vs us → sp p vs H Q E →
    codeAny (model P w) A (.call (.ref f) args) (CR CX outer P w H s Q E) s
theorem fne_of {CX : CXT} {P : Program} {w : World} {K : PySem.W.Frag} {mg : Str → Option Value} {base : Heap} {k : Nat} {x qual : Str} {st : Stmt} {f : Addr} {fd : FuncData} {N ps : List Str} {sp : Addr × Obj → Sp} (F : Fun K x qual st f fd) (S : FnScope N ps (defScope st))
    (ln : ∀ p vs H Q E, sp p vs H Q E → vs.length = ps.length)
    (hb : ∀ (cdv : Value) (A : Around) (outer : List Env) (s : Shared) (H : Hp) (vs : List V) (Q : VK) (E : XK) (p : Addr × Obj), Hot1 A p → PinOk outer H s p → RoomH k (A.deeper (envOfC qual (defScope st) s.heap.objs.size f cdv)) → sp p vs H Q E →
      ∃ t, PSs (cxH CX P w K mg base N qual (defScope st) f cdv A outer s H E p) (defBody st) t ∧ t { nx := fun _ H' => Q .non H', rt := Q } (L2.start N vs) H) : FnE P w K mg base CX (k + 1) f fd ps sp := by
  obtain ⟨oc, od, kV, doc, pm, an, cdv, ct, osl, rfl, lk, hcd⟩ := F.ex
  refine ⟨ln, fun A outer s H args us vs Q E p hr hot hpin e0 hbd r hsp => ?_⟩
  have hl := ln _ _ _ _ _ hsp
  have KX : K.In s.heap := e0.mod.kin.keeps fun b o e => (e0.bs b o e).1
  have lim : s.heap.NoLimit := e0.mod.nolimit.keeps fun b o e => (e0.bs b o e).1
  have hkd : ∀ y ∈ ps.zip us, (defScope st).names.lookup y.1 = some .local ∨ ((defScope st).names.lookup y.1 = some .cell ∧ ((cellsFrom (s.heap.objs.size + 1) (defScope st).names []).lookup y.1).isSome = true) := fun ⟨n, v⟩ hy => by
    rcases S.par n (List.of_mem_zip hy).1 with q | q
    · exact .inl q
    · exact .inr ⟨q, PySem.W.cellsFrom_some _ _ _ (.inl q)⟩
  refine codeAny_call_function hr.depth (KX _ _ lk) rfl S.co S.gen rfl (PySem.W.codeRec_of KX hcd) (hbd _ _ _ _ (wpAny_newFunctionEnv_cells S.kind hkd fun env he s1 x1 => ?_))
  subst he
  refine ⟨lim.keeps x1.toInCall.keep, codeAny_func ?_⟩
  obtain ⟨t, ht, hq⟩ := hb cdv A outer s H vs Q E p hot hpin (hr.deeper _) hsp
  have I : Inv (cxH CX P w K mg base N qual (defScope st) f cdv A outer s H E p) [] (L2.start N vs) H s1 := inv_startH S hpin e0 hl r x1
  refine wpAny_mono (ht.run [] s1 (L2.start N vs) H _ I hq) (fun fl s' hs => ?_) fun e s' hs => hs
  have fin : ∀ {σ' : L2.St} {H' : Hp} {v : V} {u : Value}, Inv (cxH CX P w K mg base N qual (defScope st) f cdv A outer s H E p) [] σ' H' s' → RelV v u → Q v H' → CE outer P w H s Q u s' := fun {σ' H' v u} J rv q => ⟨v, H', J.os, J.bare, J.base, J.hok, rv, q⟩
  cases fl with
  | ret u => exact (let ⟨_, _, _, J, rv, q⟩ := hs; fin J rv q)
  | next => exact (let ⟨_, _, J, q⟩ := hs; fin (v := V.non) (u := Value.none) J rfl q)
  | brk => exact (let ⟨_, _, _, q⟩ := hs; False.elim q)
  | cont => exact (let ⟨_, _, _, q⟩ := hs; False.elim q)
section
variable {X : Cx} {CX : CXT} {k : Nat} {f : Addr} {fd : FuncData} {ps : List Str} {sp : Addr × Obj → Sp} {E : XK} {x : Str} {q pos : Pos} {e : Expr} {es : List Expr} {t : TA} {p : Addr × Obj}
theorem run_e {pins : List (Addr × Obj)} {σ : L2.St} {H : Hp} {s : Shared} {Q : VK} {us : List Value} {vs : List V} (F : FnE X.prog X.w X.K X.mg X.base CX k f fd ps sp) (hr : RoomH k X.A) (hot : Hot1 X.A p) (hp : p ∈ X.pn) (hb : Binds X.K fd ps []) (hx : Passes CX X E)
    (I : Inv X pins σ H s) (r : Vals vs us) (h : sp p vs H Q E) : wpAny (model X.prog X.w) X.A (call (.ref f) us) (EP X pins σ Q) X.xe s := by
  have hl : us.length = ps.length := by rw [← r.length]; exact F.n _ _ _ _ _ h
  have b := hb s us I.kIn (by rw [List.append_nil]; exact hl)
  rw [List.append_nil] at b
  have P1 := I.pin p (List.mem_append_left _ hp)
  have hpin : PinOk X.stack H s p := ⟨P1.1, P1.2.1, fun hm => (List.mem_cons.mp (I.stkSub p.1 hm)).elim P1.2.2.1 P1.2.2.2.1, P1.2.2.2.2⟩
  refine wpAny_call (codeAny_mono (F.go X.A X.stack s H ⟨us, []⟩ us vs Q E p hr hot hpin I.env0 b r h) fun r s' hq => ?_)
  match r, hq with
  | .error e, hq => exact hx pins σ H s e s' I hq
  | .ok (.ret u), hq => exact I.after hq
  | .ok .next, hq => exact hq.elim
  | .ok .brk, hq => exact hq.elim
  | .ok .cont, hq => exact hq.elim
/-- f(..) in an except suite, the exception among what is handed -/
theorem pe_callE (F : FnE X.prog X.w X.K X.mg X.base CX k f fd ps sp) (hr : RoomH k X.A) (hot : Hot1 X.A p) (hp : p ∈ X.pn) (hg : Gl X x) (hm : X.mg x = some (.ref f)) (hk : PySem.W.keepIn X.K (.ref f) = true) (hb : Binds X.K fd ps []) (hx : Passes CX X E)
    (ha : PA X (e :: es) t) (hdb : (x == ("__debug__" : Str)) = false := by decide) (he : starEach (e :: es) X.env = (false, eval e X.env) :: starEach es X.env := by rfl) (hpl : (backTo pos (starEach es X.env)).any (·.1) = false := by rfl) :
    PE X (.Call (.Name x q) (e :: es) [] pos) (tCall (sp p) [] E t) := by
  refine ⟨fun pins s σ H Q I h => ?_⟩
  refine wpAny_Call_Name_kw (ld_glob I hg hm ?_ hdb)
  refine PySem.W.callWith_K (h₀ := X.base) I.ok.mod.kin hk (thn (ha.run pos pins s σ H _ I h) fun us s1 ⟨vs, H1, I1, r, q⟩ => ⟨I1.kIn, ?_⟩) he hpl
  have q' : sp p (vs ++ []) H1 Q E := q
  rw [List.append_nil] at q'
  exact run_e F hr hot hp hb hx I1 r q'
end
/-- what the written part says of a class for isinstance of its exceptions -/
structure KitC (K : PySem.W.Frag) (C : Addr) : Prop where
  cl : (PySem.W.clsIn K C).isSome = true
  ga : PySem.W.findIn K (.ref C) "__getattribute__" = some (some (.builtin "BaseException.__getattribute__"))
  gg : PySem.W.findIn K (.ref C) "__getattr__" = some none
  ex : PySem.W.subIn K (.ref C) (.type "BaseException") = some true
  at' : PySem.W.findIn K (.ref C) "__class__" = some (some (.builtin "object.__class__"))
  gt : PySem.W.specialIn K (.builtin "object.__class__") "__get__" = some (some (.builtin "getset_descriptor.__get__"))
  tk : PySem.W.takesIn K (.builtin "object.__class__") = some true
  ob : PySem.W.mroIn K C (.type "object") = some true
/-- isinstance(x, c), x the exception at a, of the class at C, its dict at d -/
def rIsE (K : PySem.W.Frag) (a C d : Addr) : List V → Hp → VK → Prop := fun xs H Q => ∃ (c : V) (u : Value) (b : Bool) (fs : List (Str × V)), xs = [.ref a, c] ∧ ClsV c u ∧ H d = some (.xd fs) ∧ PySem.W.kitOne K (.ref C) u = some b ∧ Q (.bl b) H
section
variable {X : Cx} {K : PySem.W.Frag} {a C d : Addr} {oe : Obj}
theorem call_isiE (T : KitC K C) (hp : (a, oe) ∈ X.pn) (hz : Zc (.ref C) (some d) oe) (hf : ∃ vs, oe.data = .fields vs) (hK : X.K = K := by rfl) : CallR X (.builtin "isinstance") (rIsE K a C d) := by
  subst hK
  intro pins s σ H xs us Q I r h
  obtain ⟨c, u, b, fs, rfl, k, hd, e, q⟩ := h
  obtain ⟨u1, u2, rfl, r1, r2⟩ := vals2 r
  have e2 := k.eq r2
  subst e2
  obtain rfl : u1 = Value.ref a := r1
  obtain ⟨ha, _⟩ := I.pin (a, oe) (List.mem_append_left _ hp)
  obtain ⟨vs, hdat⟩ := hf
  have hx : ObjOk X.prog X.w H s.heap d (.xd fs) := I.hok d _ hd
  obtain ⟨mA, hns, _⟩ := hx
  obtain ⟨od, ho, _⟩ := lookIn_ns hns
  have J : PySem.W.InstAt s.heap a oe C (some od) := ⟨ha, hz.1, by unfold PySem.W.notCls; rw [hdat] <;> rfl, by rw [hz.2]; exact ho⟩
  exact PySem.W.kia_one (PySem.W.kitx_exc (ox := oe) (od := some od) T.cl T.ga T.gg T.ex T.at' T.gt T.tk T.ob) I.kIn J e (fun z => nomatch z) fun tk => ⟨.bl b, H, I.tok tk, rfl, q⟩
end
section
variable {X : Cx} {K : PySem.W.Frag} {a C d : Addr} {oe : Obj} {k : Nat}
theorem hot_of {cls : Value} {dd : Option Addr} (hz : L2N.Zn cls dd oe) (hf : ∃ vs, oe.data = .fields vs) : Hot1 (X.A.mark (some (.ref a))) (a, oe) := ⟨rfl, hf.choose, hf.choose_spec, hz.2.2 _ hf.choose_spec⟩
theorem room_mark {v : Option Value} (r : Room k X.A) : RoomH k (X.A.mark v) := ⟨r.dp, r.un⟩
/-- isinstance(x, (c1, c2, ..)), x the exception at a -/
def rIsTE (K : PySem.W.Frag) (a C d : Addr) : List V → Hp → VK → Prop := fun xs H Q => ∃ (tp : Addr) (cs : List V) (us : List Value) (b : Bool) (fs : List (Str × V)), xs = [.ref a, .ref tp] ∧ H tp = some (.tup cs) ∧ Paired ClsV cs us ∧ H d = some (.xd fs) ∧ PySem.W.kitAny K (.ref C) us = some b ∧ Q (.bl b) H
theorem call_isiTE (T : KitC K C) (hp : (a, oe) ∈ X.pn) (hz : Zc (.ref C) (some d) oe) (hf : ∃ vs, oe.data = .fields vs) (hK : X.K = K := by rfl) : CallR X (.builtin "isinstance") (rIsTE K a C d) := by
  subst hK
  intro pins s σ H xs us Q I r h
  obtain ⟨tp, cs, ws, b, fs, rfl, hT, kc, hd, e, q⟩ := h
  obtain ⟨u1, u2, rfl, r1, r2⟩ := vals2 r
  obtain rfl : u1 = Value.ref a := r1
  obtain rfl : u2 = Value.ref tp := r2
  obtain ⟨ha, _⟩ := I.pin (a, oe) (List.mem_append_left _ hp)
  obtain ⟨vs, hdat⟩ := hf
  have hx : ObjOk X.prog X.w H s.heap d (.xd fs) := I.hok d _ hd
  obtain ⟨mA, hns, _⟩ := hx
  obtain ⟨od, ho, _⟩ := lookIn_ns hns
  have J : PySem.W.InstAt s.heap a oe C (some od) := ⟨ha, hz.1, by unfold PySem.W.notCls; rw [hdat] <;> rfl, by rw [hz.2]; exact ho⟩
  obtain ⟨_, its, rv, o, h1, h2, n, h3⟩ := (show ObjOk X.prog X.w H s.heap tp (.tup cs) from I.hok tp _ hT)
  have e3 := ClsV.all kc rv
  subst e3
  obtain ⟨oc, odd, dt, sl⟩ := o
  simp only at h2 h3
  subst h2 h3
  exact PySem.W.kia_tup (PySem.W.kitx_exc (ox := oe) (od := some od) T.cl T.ga T.gg T.ex T.at' T.gt T.tk T.ob) I.kIn J h1 e (fun z => nomatch z) fun tk => ⟨.bl b, H, I.tok tk, rfl, q⟩
end
section
variable {X : Cx} {CX : CXT} {k n : Nat} {f : Addr} {fd : FuncData} {ps ks : List Str} {sp : Sp} {E : L2.St → XK} {x : Str} {p pos : Pos} {e : Expr} {es : List Expr} {kws : List Keyword} {t tk : TA} {g : List Value → List Value → List Value} {gV : List V → List V → List V}
theorem run_NS {pins : List (Addr × Obj)} {σ : L2.St} {H : Hp} {s : Shared} {Q : VK} {us ws : List Value} {vs zs : List V} (F : FnOk X.prog X.w X.K X.mg X.base CX k f fd ps sp) (hr : Room k X.A) (hb : KBn X.K fd ps n ks g gV) (hx : PassesAt CX X σ (E σ))
    (I : Inv X pins σ H s) (r : Vals vs us) (rz : Vals zs ws) (l1 : vs.length = n) (l2 : zs.length = ks.length) (h : sp (gV vs zs) H Q (E σ)) : wpAny (model X.prog X.w) X.A (call (.ref f) us (ks.zip ws)) (EP X pins σ Q) X.xe s := by
  have r2 := hb.rel r rz
  refine wpAny_call (codeAny_mono (F.run X.A X.stack s H ⟨us, ks.zip ws⟩ (g us ws) (gV vs zs) Q (E σ) hr I.env0 (hb.to s us ws I.kIn (r.length.symm.trans l1) (rz.length.symm.trans l2)) r2 h) fun r s' hq => ?_)
  match r, hq with
  | .error e, hq => exact hx pins H s e s' I hq
  | .ok (.ret u), hq => exact I.after hq
  | .ok .next, hq => exact hq.elim
  | .ok .brk, hq => exact hq.elim
  | .ok .cont, hq => exact hq.elim
/-- f(e, .., k = v, ..), which may raise -/
def tCallNS (n m : Nat) (sp : Sp) (gV : List V → List V → List V) (E : L2.St → XK) (t tk : TA) : TE := fun σ H Q => t σ H fun vs H1 => tk σ H1 fun zs H2 => vs.length = n ∧ zs.length = m ∧ sp (gV vs zs) H2 Q (E σ)
theorem pe_callNS (F : FnOk X.prog X.w X.K X.mg X.base CX k f fd ps sp) (hr : Room k X.A) (hg : Gl X x) (hm : X.mg x = some (.ref f)) (hk : PySem.W.keepIn X.K (.ref f) = true) (hb : KBn X.K fd ps n ks g gV) (hx : ∀ σ, PassesAt CX X σ (E σ))
    (ha : PA X (e :: es) t) (hkw : PK X kws tk) (hall : (backToKw pos (keywordEach kws X.env)).all (·.1.isSome) = true := by rfl) (hks : (backToKw pos (keywordEach kws X.env)).filterMap (·.1) = ks := by rfl)
    (hdb : (x == ("__debug__" : Str)) = false := by decide) (he : starEach (e :: es) X.env = (false, eval e X.env) :: starEach es X.env := by rfl)
    (hpl : ((backTo pos (starEach (e :: es) X.env)).any (·.1) || (backToKw pos (keywordEach kws X.env)).any (·.1.isNone)) = false := by rfl) : PE X (.Call (.Name x p) (e :: es) kws pos) (tCallNS n ks.length sp gV E t tk) := by
  refine ⟨fun pins s σ H Q I h => ?_⟩
  refine wpAny_Call_Name_kw (ld_glob I hg hm ?_ hdb)
  refine PySem.W.callWith_KW (h₀ := X.base) I.ok.mod.kin hk hall (thn (ha.run pos pins s σ H _ I h) fun us s1 ⟨vs, H1, I1, r, q⟩ => ?_) hpl he
  refine thn (hkw.run pos pins s1 σ H1 _ I1 q) fun ws s2 ⟨zs, H2, I2, rz, l1, l2, q2⟩ => ⟨I2.kIn, ?_⟩
  rw [hks]
  exact run_NS F hr hb (hx σ) I2 r rz l1 l2 q2
end
end FB

set_option Elab.async false
set_option linter.all false
set_option maxRecDepth 100000
set_option maxHeartbeats 4000000
namespace FB
open PySem PySem.W PySem.Calls PyProof.Rows PySem.HandSPX
theorem exm_mk {K : Frag} {cls : Value} {C : Addr} {b : Bool} (h1 : subIn K (.ref C) (.type "BaseException") = some true) (h2 : (clsIn K C).isSome = true) (h3 : typeIn K (.ref C) = some (.type "type")) (h4 : subIn K cls (.ref C) = some b) : exmOne K cls (.ref C) = some b := by
  have e1 : (subIn K (.ref C) (.type "BaseException") == some true) = true := by rw [h1]; rfl
  have e2 : ((clsIn K C).isSome && typeIn K (.ref C) == some (.type "type")) = true := by rw [h2, h3]; simp
  unfold exmOne kitCls
  rw [if_pos e1]
  show (if ((clsIn K C).isSome && typeIn K (.ref C) == some (.type "type")) = true then subIn K cls (.ref C) else none) = some b
  rw [if_pos e2, h4]
theorem mk_ref {prog : Program} {K : Frag} {h : Heap} {mg : Str → Option Value} {nm f msg : Str} {C fI cc cda : Addr} (X : K.In h) (G : h.Ns mainGlobals mg)
    {nm' q : Str} {N : Addr} {bs bm : List Value} {sn : List Str} {sub : List Value} {ab : Bool} {col : Option Bool} {dd : Option Addr} {k0 k1 k2 k3 k5 : Option Value}
    {cl : Value} {cld : Option Addr} {csl : Array (Option Value)} {ccl : Value} {cdd : Option Addr} {vs : Array Value} {ccs : Array (Option Value)} {file : Str} {tf : Tok}
    {oc : Value} {od : Option Addr} {doc pm : Value} {an : Option Addr} {ct : Value} {osl : Array (Option Value)} {k : Nat} {p1 p2 a1 a2 a3 a4 a5 a6 b1 b2 b3 b4 : Pos}
    (m1 : nsIn K mainGlobals nm = some (some (.ref C))) (m2 : nsIn K mainGlobals "super" = some none)
    (m3 : K.lookup C = some (excClassObj nm' q C N bs bm true sn sub ab col dd k0 k1 k2 k3 k5 "ValueError.__new__")) (m4 : refsVE bm = true) (m5 : ks_superIn K C C "__init__" = some (some (.builtin "ValueError.__init__")))
    (m6 : findIn K (.ref C) "__setattr__" = some (some (.builtin "object.__setattr__"))) (m7 : findIn K (.ref C) "__getattribute__" = some (some (.builtin "BaseException.__getattribute__"))) (m8 : findIn K (.ref C) "__getattr__" = some none) (m9 : findIn K (.ref C) f = some none)
    (n1 : findIn K (.ref C) "__init__" = some (some (.ref fI))) (n2 : typeIn K (.ref fI) = some (.type "function")) (n3 : keepIn K (.ref C) = true) (n4 : subIn K (.ref C) (.type "BaseException") = some true) (n5 : subIn K (.ref C) (.type "ValueError") = some true)
    (n6 : mroIn K C (.ref C) = some true) (n7 : typeIn K (.ref C) = some (.type "type")) (n8 : hasDictIn K C = true) (n0 : subIn K (.ref C) (.ref C) = some true) (o1 : nsIn K cStatics "thirdparty.any" = some none)
    (o2 : K.lookup cc = some ⟨cl, cld, .cell (some (.ref C)), csl⟩) (o3 : K.lookup cda = some ⟨ccl, cdd, .fields vs, ccs⟩) (o4 : vs[2]? = some (.str file tf)) (o5 : ((prog.main.file : Str) == file) = true) (o6 : (prog.main.scope.names.lookup ("super" : Str)).isSome = false)
    (o7 : (f == ("self" : Str)) = false ∧ (("self" : Str) == f) = false ∧ (("__class__" : Str) == f) = false ∧ (("super" : Str) == f) = false ∧ (f == ("__debug__" : Str)) = false)
    (o8 : K.lookup fI = some ⟨oc, od, .func (fnX "__init__" (nm ++ ".__init__") (riA f p1 p2) (riB f msg k a1 a2 a3 a4 a5 a6 b1 b2 b3 b4) (riS f) [("__class__", cc)] .none .none doc pm an (.ref cda) ct), osl⟩) (o9 : codeIn K (.ref cda) (nm ++ ".__init__") = true)
    (r1 : (a3.endLine == a5.line) = true) (r2 : ∀ (s : Shared) (x v : Value), BindsTo s (fnX "__init__" (nm ++ ".__init__") (riA f p1 p2) (riB f msg k a1 a2 a3 a4 a5 a6 b1 b2 b3 b4) (riS f) [("__class__", cc)] .none .none doc pm an (.ref cda) ct) ⟨[x, v], []⟩ [("self", x), (f, v)]) :
    RefTxt prog K mg nm f msg C fI cc cda := by
  have al : alongIn K "__init__" bm = some (some (.builtin "ValueError.__init__")) := by
    have hcl : clsIn K C = some { name := nm', bases := bs, mro := .ref C :: bm, ns := N, qualname := q, hasDict := true, slotNames := sn, subclasses := sub, abstract := ab, collection := col, hasDel := false } := by unfold clsIn; rw [m3] <;> rfl
    unfold ks_superIn at m5
    rw [hcl] at m5
    simpa [List.dropWhile_cons] using m5
  exact ⟨mg_of X G m1, mg_none_of X G m2, ⟨_, _, _, _, _, _, _, _, _, _, _, _, _, _, _, m3, m4, al⟩, m6, m7, m8, m9, n1, n2, n3, n4, n5, n6, n7, n8, exm_mk n4 (by unfold clsIn; rw [m3] <;> rfl) n7 n0, o1, ⟨_, _, _, o2⟩, ⟨_, _, _, _, _, _, o3, o4, o5⟩, o6, o7, ⟨_, _, _, _, _, _, _, _, _, _, _, _, _, _, _, _, _, _, _, _, o8, o9, r1, r2⟩⟩
end FB

set_option Elab.async false
set_option linter.all false
set_option maxRecDepth 100000
set_option maxHeartbeats 4000000
/-! FB, part j: list.count of truths. -/
namespace FB
open PySem PySem.Spec PyProof.Rows L2
def eqb (k : Bool) (v : Value) : Bool := match v with
  | .bool b => b == k
  | _ => false
theorem eqb_gives {k : Bool} : ∀ {us : List Value} {bs : List Bool}, Vals (bs.map V.bl) us → ∀ y ∈ us, MeetsSeq.EqGives y (.bool k) (eqb k y)
  | [], _, _ => fun y hy => by cases hy
  | u :: us, [], r => by cases r
  | u :: us, b :: bs, r => fun y hy => by
    cases r with
    | cons r1 r2 =>
      have e : u = Value.bool b := r1
      subst e
      rcases List.mem_cons.mp hy with e | e
      · rw [e]
        intro M w A s Q E h
        refine (PpSet.boolK _ _).eqBool (a := b) (b := k) ?_ ?_ ?_
        all_goals first
          | (exact beq_self_eq_true _)
          | (rw [← PpSet.beq_dec]; exact h)
      · exact eqb_gives r2 y e
theorem eqb_count {k : Bool} : ∀ {us : List Value} {bs : List Bool}, Vals (bs.map V.bl) us → us.countP (eqb k) = bs.count k
  | [], [], _ => rfl
  | [], _ :: _, r => by cases r
  | u :: us, [], r => by cases r
  | u :: us, b :: bs, r => by
    cases r with
    | cons r1 r2 =>
      have e : u = Value.bool b := r1
      subst e
      rw [List.countP_cons, List.count_cons, eqb_count (k := k) r2] <;> rfl
def rCntB (K : PySem.W.Frag) : V → List V → Hp → VK → Prop := fun x xs H Q => ∃ (p : Addr) (bs : List Bool) (k : Bool), x = .ref p ∧ xs = [.bl k] ∧ SqL K H p (bs.map V.bl) ∧ Q (.int (bs.count k : Nat)) H
section
variable {X : Cx} {K : PySem.W.Frag}
theorem mt_countB (hK : X.K = K := by rfl) : MtR X "list.count" (rCntB K) := by
  subst hK
  intro pins s σ H x xs v us Q I rx rxs h
  obtain ⟨p, bs, k, rfl, rfl, hs, q⟩ := h
  cases rx
  obtain ⟨u, rfl, ru⟩ := rxs.one
  have eu : u = Value.bool k := ru
  subst eu
  obtain ⟨its, rv, ⟨⟨cls, dd, data, sl⟩, n, ho, hc, hdn, hd⟩, hlen⟩ := I.list hs
  simp only at hc hd
  subst hc hd
  refine call_meets PySem.F.slot_list_count ⟨_, ho, rfl⟩ PySem.F.entry_list_count (PySem.F.args_list_count_2 _ _) (SeqAt.list_countAt p its.toArray n dd sl (.bool k) (eqb k)) ⟨ho, fun y hy => (eqb_gives rv y (by simpa using hy)).at _ _, ?_⟩
  have ec : its.toArray.toList.countP (eqb k) = bs.count k := eqb_count rv
  refine ⟨.int (bs.count k : Nat), H, I.tok _, ⟨s.toks, ?_⟩, q⟩
  show Value.int ((its.toArray.toList.countP (eqb k) : Nat) : Int) s.toks = Value.int ((bs.count k : Nat) : Int) s.toks
  rw [ec]
end
section
variable {z : Zn} {K : PySem.W.Frag} {σ : L2.St} {H : Hp} {to te : TE}
/-- bs.count(k) -/
theorem ev_countB {bs : List Bool} {k : Bool} (ho : Ev z to σ H (Lst z fun ws _ => ws = bs.map V.bl)) (hk : Ev z te σ H (Is (.bl k))) : Ev z (tBM K "list" (rCntB K) to (tCons te tNil)) σ H (Is (.int ((bs.count k : Nat) : Int))) := fun H1 e Q q =>
  ho H1 e _ fun v H2 e2 f => by
    obtain ⟨p, ws, rfl, nu, hp, rfl⟩ := f H2 .refl
    refine ⟨.inl ⟨rfl, _, .inl (.inl hp)⟩, hk H2 (e.tr e2) _ fun v3 H3 e3 f3 => ?_⟩
    have e4 : v3 = .bl k := f3 H3 .refl
    subst e4
    exact ⟨p, bs, k, rfl, rfl, .inl (.inl (e3.w p _ nu hp)), q _ H3 (e2.tr e3) fun _ _ => rfl⟩
end
/-! ### [elt for x in source if test] -/
theorem range_filter (b : Nat → Bool) (i : Nat) : (List.range (i + 1)).filter b = (List.range i).filter b ++ (if b i = true then [i] else []) := by
  rw [List.range_succ, List.filter_append]
  congr 1
  by_cases h : b i = true
  · rw [if_pos h, List.filter_cons_of_pos h]
    rfl
  · rw [if_neg h, List.filter_cons_of_neg h]
    rfl
section
variable {z : Zn} {σ : L2.St} {H : Hp} {te : TE} {tt : TT}
theorem ev_lcIf {wi : TI} {j : Nat} {P : Nat → Prop} {vs : List Nat} {it : Nat → V → Prop} {φ : Nat → VP} {b : Nat → Bool} (hs : EvI z wi σ H P it) (hn : ∀ n, P n → n ≤ 100000) (hv : ∀ x, wipe ((wipe σ vs).set j (some x)) vs = wipe σ vs)
    (ht : ∀ n i x D H1, P n → i < n → it i x → H D = none → z.R H H1 → (z.add D).R H1 H1 → EvT (z.add D) tt ((wipe σ vs).set j (some x)) H1 (· = b i))
    (hb : ∀ n i x D H1, P n → i < n → it i x → b i = true → H D = none → z.R H H1 → (z.add D).R H1 H1 → Ev (z.add D) te ((wipe σ vs).set j (some x)) H1 (φ i)) :
    Ev z (tLc wi (gName j) tt te vs) σ H (Lst z fun ws H' => ∃ n, P n ∧ ws.length = ((List.range n).filter b).length ∧ ∀ (k i : Nat) w, ((List.range n).filter b)[k]? = some i → ws[k]? = some w → φ i w H') := fun H1 e Q q => by
  refine hs H1 e _ fun J H2 n hP e2 S D hD => ?_
  have hn2 := hn n hP
  have hD0 : H D = none := (e.tr e2).back hD
  have nU : ¬ z.U D := e2.dr.nu hD
  have nI : z.I D = none := e2.dr.ni hD
  refine ⟨fun i m H' => i + m = n ∧ z.R H2 H' ∧ ∃ acc : List V, H' D = some (.lst acc) ∧ acc.length = ((List.range i).filter b).length ∧ ∀ (k i' : Nat) w, ((List.range i).filter b)[k]? = some i' → acc[k]? = some w → ∀ H3, (z.add D).W H' H3 → φ i' w H3,
    ⟨n, by omega, e2.dr.new hD, [], upd_same, rfl, fun k i' w _ h => by simp at h⟩, fun i m H' hW => ?_⟩
  obtain ⟨em, r, acc, hacc, hl, hφ⟩ := hW
  have w2 : z.W H2 H' := r.w
  have flen : ((List.range i).filter b).length ≤ i := Nat.le_trans (List.length_filter_le _ _) (by rw [List.length_range]; exact Nat.le_refl _)
  by_cases hi : i < n
  · right
    refine ⟨S.go i H' w2 hi, fun H'' => z.R H2 H'' ∧ ∃ acc : List V, H'' D = some (.lst acc) ∧ acc.length = ((List.range (i + 1)).filter b).length ∧ ∀ (k i' : Nat) w, ((List.range (i + 1)).filter b)[k]? = some i' → acc[k]? = some w → ∀ H3, (z.add D).W H'' H3 → φ i' w H3,
      fun H'' h => ⟨m - 1, by omega, by omega, h⟩, fun x H'' hy => ?_⟩
    obtain ⟨rfl, hx⟩ := S.yld i H' x H'' w2 hi hy
    have rD : (z.add D).R H'' H'' := r.dr.up (by rw [hacc]; simp) (by rw [hacc]; simp)
    refine ⟨hv x, ht n i x D H'' hP hi hx hD0 ((e.tr e2).tr r) rD H'' rD _ fun c H3 e3 hc => ?_⟩
    subst hc
    have h3D : H3 D = some (.lst acc) := e3.kp D _ nI hacc
    by_cases hbi : b i = true
    · rw [if_pos hbi]
      refine hb n i x D H3 hP hi hx hbi hD0 (((e.tr e2).tr r).tr e3.dn) e3.dr H3 e3.dr _ fun y H4 e4 fy => ?_
      have h4D : H4 D = some (.lst acc) := e4.kp D _ nI h3D
      refine ⟨acc, h4D, Nat.lt_of_le_of_lt (show acc.length ≤ 100000 by omega) (by decide), ((r.tr e3.dn).tr e4.dn).mut hD, acc ++ [y], upd_same, by rw [range_filter, if_pos hbi, List.length_append, List.length_append, hl]; rfl, fun k i' w hk hw H5 w5 => ?_⟩
      have w45 : (z.add D).W H4 (upd H4 D (.lst (acc ++ [y]))) := fun a o na ha => by
        rw [upd_ne fun ea => na (Or.inr ea)]
        exact ha
      rw [range_filter, if_pos hbi] at hk
      by_cases hk2 : k < acc.length
      · rw [List.getElem?_append_left hk2] at hw
        rw [List.getElem?_append_left (by omega)] at hk
        exact hφ k i' w hk hw H5 (((e3.w.tr e4.w).tr w45).tr w5)
      · have ek : k = acc.length := by
          have h5 := (List.getElem?_eq_some_iff.mp hw).1
          rw [List.length_append, List.length_cons, List.length_nil] at h5
          omega
        subst ek
        rw [List.getElem?_append_right (Nat.le_refl _), Nat.sub_self] at hw
        rw [List.getElem?_append_right (by omega), hl, Nat.sub_self] at hk
        have ey : y = w := Option.some.inj hw
        have ei : i = i' := Option.some.inj hk
        subst ey
        subst ei
        exact fy H5 (w45.tr w5)
    · have hbf : b i = false := by simpa using hbi
      rw [if_neg hbi]
      refine ⟨r.tr e3.dn, acc, h3D, by rw [range_filter, if_neg hbi, List.append_nil, hl], fun k i' w hk hw H5 w5 => ?_⟩
      rw [range_filter, if_neg hbi, List.append_nil] at hk
      exact hφ k i' w hk hw H5 (e3.w.tr w5)
  · left
    have ei : i = n := by omega
    subst ei
    exact ⟨S.stop H' w2, q _ H' (e2.tr r) fun H3 w3 => ⟨D, acc, rfl, nU, w3 D _ nU hacc, i, hP, hl, fun k i' w hk hw => hφ k i' w hk hw H3 w3.dn⟩⟩
end
section
variable {z : Zn} {K : PySem.W.Frag} {σ : L2.St} {H : Hp} {te : TE} {D : Ends}
theorem ev_any {bs : List Bool} (h : Ev z te σ H (Lst z fun ws _ => ws = bs.map V.bl)) : Ev z (tCB (rAny K) (tCons te tNil)) σ H (Is (.bl (bs.any id))) := fun H1 e Q q =>
  h H1 e _ fun v H2 e2 f => by
    obtain ⟨p, ws, ev, nu, hp, ew⟩ := f H2 .refl
    exact ⟨p, bs, by rw [ev], .inl (.inl (by rw [hp, ew])), q _ H2 e2 fun _ _ => rfl⟩
end
/-- a def with names behind the *, where it stands -/
structure Dk (K : PySem.W.Frag) (mg : Str → Option Value) (x : Str) (st : Stmt) where
  f : Addr
  fd : FuncData
  F : Fun K x x st f fd
  g : mg x = some (.ref f)
theorem Dk.kb {K : PySem.W.Frag} {mg : Str → Option Value} {x : Str} {st : Stmt} (d : Dk K mg x st) {ps ks : List Str} {n : Nat} {g : List Value → List Value → List Value} {gV : List V → List V → List V}
    (h : ∀ (kV doc pm : Value) (an : Option Addr) (cdv ct : Value) (us ws : List Value), us.length = n → ws.length = ks.length → bindArgs (PySem.W.fnOf x x (defArgs st) (defBody st) (defScope st) .none kV doc pm an cdv ct) ⟨us, ks.zip ws⟩ = pure (ps.zip (g us ws)))
    (hr : ∀ {vs zs : List V} {us ws : List Value}, Vals vs us → Vals zs ws → Vals (gV vs zs) (g us ws)) : KBn K d.fd ps n ks g gV := by
  obtain ⟨oc, od, kV, doc, pm, an, cdv, ct, osl, hfd, lk, hcd⟩ := d.F.ex
  refine ⟨fun s us ws _ h1 h2 => ?_, fun r r2 => hr r r2⟩
  rw [hfd]
  exact .of_eq (h kV doc pm an cdv ct us ws h1 h2)
section
variable {z : Zn} {σ : L2.St} {H : Hp} {te : TE} {D : Ends} {f : Str} {C : Addr} {W : WX}
/-- raise C(v) -/
theorem s_raise {v : V} (hR : z.R H H) (h : Ev z te σ H (Is v)) (k : ∀ H1 d, z.R H H1 → H1 d = none → W (.ref C) (some d) σ (upd H1 d (.xd [(f, v)]))) : tRaiseRef f C W (tCons te tNil) D σ H := by
  show te σ H fun x H1 => ∃ v, [x] = [v] ∧ ∀ d, H1 d = none → W (.ref C) (some d) σ (upd H1 d (.xd [(f, v)]))
  exact h H hR _ fun v' H1 e f' => ⟨v', rfl, fun d hd => by
    have e2 : v' = v := f' H1 .refl
    subst e2
    exact k H1 d e hd⟩
end
end FB

set_option Elab.async false
set_option linter.all false
set_option maxRecDepth 100000
set_option maxHeartbeats 4000000
/-! FB, part n: targets of any form in loops and comprehensions; statements that nothing reaches; sorted lists of texts. -/
namespace FB
open PySem PySem.Spec PyProof.Rows L2 RZ
/-- a statement that nothing reaches -/
theorem ps_dead {X : Cx} {st : Stmt} : PS X st (fun _ _ _ => False) := ⟨fun _ _ _ _ _ _ h => h.elim⟩
section
variable {z : Zn} {K : PySem.W.Frag} {σ : L2.St} {H : Hp} {te ta tb : TE} {D : Ends} {ts tu : TS}
theorem ev_lcG {wi : TI} {g : TG} {P : Nat → Prop} {vs : List Nat} {it : Nat → V → Prop} {φ : Nat → VP} (hs : EvI z wi σ H P it) (hn : ∀ n, P n → n ≤ 100000)
    (hb : ∀ n i x D H1, P n → i < n → it i x → H D = none → z.R H H1 → (z.add D).R H1 H1 → ∃ σ2, (∀ k : L2.St → Hp → Prop, k σ2 H1 → g x (wipe σ vs) H1 k) ∧ wipe σ2 vs = wipe σ vs ∧ Ev (z.add D) te σ2 H1 (φ i)) :
    Ev z (tLc wi g tYes te vs) σ H (Lst z fun ws H' => P ws.length ∧ ∀ i w, ws[i]? = some w → φ i w H') := fun H1 e Q q => by
  refine hs H1 e _ fun J H2 n hP e2 S D hD => ?_
  have hn2 := hn n hP
  have hD0 : H D = none := (e.tr e2).back hD
  have nU : ¬ z.U D := e2.dr.nu hD
  have nI : z.I D = none := e2.dr.ni hD
  refine ⟨fun i m H' => i + m = n ∧ z.R H2 H' ∧ ∃ acc : List V, H' D = some (.lst acc) ∧ acc.length = i ∧ ∀ k w, acc[k]? = some w → ∀ H3, (z.add D).W H' H3 → φ k w H3,
    ⟨n, by omega, e2.dr.new hD, [], upd_same, rfl, fun k w h => by simp at h⟩, fun i m H' hW => ?_⟩
  obtain ⟨em, r, acc, hacc, hl, hφ⟩ := hW
  have w2 : z.W H2 H' := r.w
  by_cases hi : i < n
  · right
    refine ⟨S.go i H' w2 hi, fun H'' => z.R H2 H'' ∧ ∃ acc : List V, H'' D = some (.lst acc) ∧ acc.length = i + 1 ∧ ∀ k w, acc[k]? = some w → ∀ H3, (z.add D).W H'' H3 → φ k w H3,
      fun H'' h => ⟨m - 1, by omega, by omega, h⟩, fun x H'' hy => ?_⟩
    obtain ⟨rfl, hx⟩ := S.yld i H' x H'' w2 hi hy
    have rD : (z.add D).R H'' H'' := r.dr.up (by rw [hacc]; simp) (by rw [hacc]; simp)
    obtain ⟨σ2, hg, hw, hev⟩ := hb n i x D H'' hP hi hx hD0 ((e.tr e2).tr r) rD
    refine hg _ ⟨hw, ?_⟩
    refine hev H'' rD _ fun y H4 e4 fy => ?_
    have h4D : H4 D = some (.lst acc) := e4.kp D _ nI hacc
    refine ⟨acc, h4D, Nat.lt_of_le_of_lt (show acc.length ≤ 100000 by omega) (by decide), (r.tr e4.dn).mut hD, acc ++ [y], upd_same, by rw [List.length_append, hl]; rfl, fun k w hk H3 w3 => ?_⟩
    have w45 : (z.add D).W H4 (upd H4 D (.lst (acc ++ [y]))) := fun a o na ha => by
      rw [upd_ne fun ea => na (Or.inr ea)]
      exact ha
    by_cases hk2 : k < acc.length
    · rw [List.getElem?_append_left hk2] at hk
      exact hφ k w hk H3 ((e4.w.tr w45).tr w3)
    · have ek : k = acc.length := by
        have h5 := (List.getElem?_eq_some_iff.mp hk).1
        rw [List.length_append, List.length_cons, List.length_nil] at h5
        omega
      subst ek
      rw [List.getElem?_append_right (Nat.le_refl _), Nat.sub_self] at hk
      have ey : y = w := Option.some.inj hk
      subst ey
      rw [hl]
      exact fy H3 (w45.tr w3)
  · left
    have ei : i = n := by omega
    subst ei
    exact ⟨S.stop H' w2, q _ H' (e2.tr r) fun H3 w3 => ⟨D, acc, rfl, nU, w3 D _ nU hacc, hl ▸ hP, fun k w hk => hφ k w hk H3 w3.dn⟩⟩
/-- a loop over a tuple that stands, its target of any form -/
theorem s_forTG {g : TG} {xs : List V} (hR : z.R H H) (h : Ev z te σ H (Tup z fun ws _ => ws = xs)) (main : ∀ H1, z.R H H1 → ∃ Pv : Nat → L2.St → Hp → Prop, Pv 0 σ H1 ∧ (∀ i σ' H', Pv i σ' H' → z.W H1 H') ∧
      (∀ i x σ' H', xs[i]? = some x → Pv i σ' H' → g x σ' H' fun σ2 H2 => ts { D with nx := Pv (i + 1), ct := Pv (i + 1), bk := D.nx } σ2 H2) ∧ ∀ σ' H', Pv xs.length σ' H' → D.nx σ' H') : tFor (iTup K te) g ts D σ H :=
  h H hR _ fun v H1 e f => by
    obtain ⟨p, ws, ev, nu, hp, ew⟩ := f H1 .refl
    subst ew
    obtain ⟨Pv, p0, pw, ps, pd⟩ := main H1 e
    exact ⟨p, ev, ⟨ws, .inl (.inl hp)⟩, for_tup (K := K) (a := p) (xs := ws) Pv p0 (fun i σ' H' _ q => .inl (.inl (pw i σ' H' q p _ nu hp))) (fun i x σ' H' hx q => ps i x σ' H' hx q) pd⟩
theorem q_forTG {g : TG} {xs : List V} (hR : z.R H H) (h : Ev z te σ H (Tup z fun ws _ => ws = xs)) (main : ∀ H1, z.R H H1 → ∃ Pv : Nat → L2.St → Hp → Prop, Pv 0 σ H1 ∧ (∀ i σ' H', Pv i σ' H' → z.W H1 H') ∧
      (∀ i x σ' H', xs[i]? = some x → Pv i σ' H' → g x σ' H' fun σ2 H2 => ts { D with nx := Pv (i + 1), ct := Pv (i + 1), bk := tu D } σ2 H2) ∧ ∀ σ' H', Pv xs.length σ' H' → tu D σ' H') : tSeq (tFor (iTup K te) g ts) tu D σ H :=
  s_forTG (D := { D with nx := tu D }) hR h main
/-- x in a tuple just made -/
theorem ev_inT {xs : List V} {x : V} (ha : Ev z ta σ H (Is x)) (hb : ∀ H1, z.R H H1 → Ev z tb σ H1 (Tup z fun ws _ => ws = xs)) (fx : flatV x = true) (fs : xs.all flatV = true) : Ev z (tOp (rIn K false) ta tb) σ H (Is (.bl (inV x xs))) :=
  ev_op ha (fun _ H1 r _ => hb H1 r) fun x' y H1 r e ⟨p, ws, e2, nu, hp, ew⟩ => by
    subst e2
    have e' : x' = x := e
    subst e'
    exact rn_val r.dr (fun Q q => ⟨p, xs, rfl, .inr (.inl (.inl (by rw [hp, ew]))), fx, fs, q⟩) fun _ _ => rfl
theorem ev_notIn {p : Addr} {xs : List V} {x : V} (ha : Ev z ta σ H (Is x)) (hb : Ev z tb σ H (Is (.ref p))) (hp : ∀ H1, z.R H H1 → SqL K H1 p xs ∨ SqT K H1 p xs) (fx : flatV x = true) (fs : xs.all flatV = true) : Ev z (tOp (rIn K true) ta tb) σ H (Is (.bl (!inV x xs))) :=
  ev_op2 ha hb fun H1 r => rn_val r.dr (fun Q q => ⟨p, xs, rfl, hp H1 r, fx, fs, by simpa using q⟩) fun _ _ => rfl
/-- sorted(a list of texts) -/
theorem ev_sortedP {xs : List Str} (h : Ev z te σ H (Lst z fun ws _ => ws = xs.map V.str)) (h64 : xs.length < 64) :
    Ev z (tCB (rSortedS K) (tCons te tNil)) σ H (Lst z fun ws _ => ∃ ks : List Str, ws = ks.map V.str ∧ ks.Perm xs ∧ sortedS ks = true) := fun H1 e Q q =>
  h H1 e _ fun v H2 e2 f => by
    obtain ⟨p, ws, rfl, nu, hp, ew⟩ := f H2 .refl
    exact ⟨p, xs, rfl, .inl (.inl (by rw [hp, ew])), h64, fun ks p' h1 h2 hn => q _ _ (e2.tr (e2.dr.new hn)) fun H3 w => ⟨p', _, rfl, e2.dr.nu hn, w p' _ (e2.dr.nu hn) upd_same, ks, rfl, h1, h2⟩⟩
end
end FB

set_option Elab.async false
set_option linter.all false
set_option maxRecDepth 100000
set_option maxHeartbeats 4000000
/-! FB, part o: items set by a draw; lists of texts known by a property, sorted, cut, picked from. -/
namespace FB
open PySem PySem.Spec PyProof.Rows L2 RZ
/-- a list of texts of which P holds -/
def LP (P : List Str → Prop) : List V → Hp → Prop := fun ws _ => ∃ xs : List Str, ws = xs.map V.str ∧ P xs
section
variable {z : Zn} {K : PySem.W.Frag} {σ : L2.St} {H : Hp} {te ta tb to ti : TE} {D : Ends} {ts tu : TS}
theorem s_subN {p : Addr} {xs : List V} {n : Nat} {v : V} (hR : z.R H H) (h : Ev z te σ H (Is v)) (ho : Ev z to σ H (Is (.ref p))) (hi : Ev z ti σ H (Nn n)) (ni : z.I p = none) (hp : H p = some (.lst xs)) (hn : n ≤ xs.length)
    (k : ∀ j H1, j < n → z.R H H1 → D.nx σ (upd H1 p (.lst (xs.set j v)))) : tAsg te (gSub to ti rSetL) D σ H := h H hR _ fun v1 H1 e1 f1 => ho H1 e1 _ fun v2 H2 e2 f2 => hi H2 (e1.tr e2) _ fun v3 H3 e3 f3 => by
  have q1 : v1 = v := f1 H1 .refl
  have q2 : v2 = .ref p := f2 H2 .refl
  obtain ⟨j, q3, hj⟩ := f3 H3 .refl
  subst q1
  subst q2
  subst q3
  have r := (e1.tr e2).tr e3
  exact ⟨p, xs, (j : Int), j, rfl, rfl, r.kp p _ ni hp, Evl.ixN_nat (by omega), k j H3 hj r⟩
/-- sorted(set(texts)) -/
theorem ev_sortSetP {P : List Str → Prop} (h : Ev z te σ H (Lst z (LP P))) (h64 : ∀ xs, P xs → xs.length < 64) :
    Ev z (tSortSet K te) σ H (Lst z (LP fun ks => ∃ xs, P xs ∧ sortedS ks = true ∧ ks.Nodup ∧ (∀ k, k ∈ ks ↔ k ∈ xs) ∧ ks.length ≤ xs.length)) := fun H1 e Q q => h H1 e _ fun v H2 e2 f => by
  obtain ⟨p, ws, rfl, nu, hp, xs, ew, hP⟩ := f H2 .refl
  exact ⟨p, xs, rfl, .inl (.inl (.inl (by rw [hp, ew]))), h64 xs hP, fun ks p' h1 h2 h3 h4 hn => q _ _ (e2.tr (e2.dr.new hn)) fun H3 w => ⟨p', _, rfl, e2.dr.nu hn, w p' _ (e2.dr.nu hn) upd_same, ks, rfl, xs, hP, h1, h2, h3, h4⟩⟩
/-- sorted(texts) -/
theorem ev_sortedLP {P : List Str → Prop} (h : Ev z te σ H (Lst z (LP P))) (h64 : ∀ xs, P xs → xs.length < 64) :
    Ev z (tCB (rSortedS K) (tCons te tNil)) σ H (Lst z (LP fun ks => ∃ xs, P xs ∧ ks.Perm xs ∧ sortedS ks = true)) := fun H1 e Q q =>
  h H1 e _ fun v H2 e2 f => by
    obtain ⟨p, ws, rfl, nu, hp, xs, ew, hP⟩ := f H2 .refl
    exact ⟨p, xs, rfl, .inl (.inl (by rw [hp, ew])), h64 xs hP, fun ks p' h1 h2 hn => q _ _ (e2.tr (e2.dr.new hn)) fun H3 w => ⟨p', _, rfl, e2.dr.nu hn, w p' _ (e2.dr.nu hn) upd_same, ks, rfl, xs, hP, h1, h2⟩⟩
/-- texts[:n], n drawn -/
theorem ev_cutLP {P : List Str → Prop} {th : TE} {n : Nat} (h : Ev z te σ H (Lst z (LP P))) (hh : ∀ x H1, z.R H H1 → Lst z (LP P) x H1 → Ev z th σ H1 (Nn n)) :
    Ev z (L2.tSl (rSlL K) te tNoPart (tPart th)) σ H (Lst z (LP fun ys => ∃ xs, P xs ∧ ys.length ≤ xs.length ∧ ∀ y ∈ ys, y ∈ xs)) := fun H1 e Q q =>
  h H1 e _ fun v H2 e2 f => by
    refine hh v H2 (e.tr e2) (f H2 .refl) H2 e2.dr _ fun y H3 e3 g => ?_
    obtain ⟨i, rfl, hi⟩ := g H3 .refl
    refine ⟨(i : Int), rfl, ?_⟩
    obtain ⟨p, ws, rfl, nu, hp, xs, rfl, hP⟩ := f H3 e3.w
    obtain ⟨ys, e5, hl, hm⟩ := cut_strs xs none (some (i : Int))
    refine ⟨p, _, rfl, .inl (.inl hp), fun p' hn => q _ _ ((e2.tr e3).tr (e3.dr.new hn)) fun H4 w => ⟨p', _, rfl, e3.dr.nu hn, w p' _ (e3.dr.nu hn) upd_same, ys, e5, xs, hP, hl, hm⟩⟩
/-- [x for x in a list that stands if a draw] -/
theorem ev_lcSub {wi : TI} {j : Nat} {xs : List V} {vs : List Nat} {tt : TT} (hs : EvI z wi σ H (· = xs.length) (fun i v => xs[i]? = some v)) (hn : xs.length ≤ 100000) (hv : ∀ x, wipe ((wipe σ vs).set j (some x)) vs = wipe σ vs)
    (hj : ∀ x : V, ((wipe σ vs).set j (some x))[j]? = some (some x))
    (ht : ∀ x D H1, H D = none → z.R H H1 → (z.add D).R H1 H1 → EvT (z.add D) tt ((wipe σ vs).set j (some x)) H1 (fun _ => True)) :
    Ev z (tLc wi (gName j) tt (tVar j) vs) σ H (Lst z fun ws _ => ws.Sublist xs) := fun H1 e Q q => by
  refine hs H1 e _ fun J H2 n hP e2 S D hD => ?_
  subst hP
  have hD0 : H D = none := (e.tr e2).back hD
  have nU : ¬ z.U D := e2.dr.nu hD
  have nI : z.I D = none := e2.dr.ni hD
  refine ⟨fun i m H' => i + m = xs.length ∧ z.R H2 H' ∧ ∃ acc : List V, H' D = some (.lst acc) ∧ acc.Sublist (xs.take i),
    ⟨xs.length, by omega, e2.dr.new hD, [], upd_same, List.nil_sublist _⟩, fun i m H' hW => ?_⟩
  obtain ⟨em, r, acc, hacc, hsub⟩ := hW
  have w2 : z.W H2 H' := r.w
  have hla : acc.length ≤ 100000 := by
    have := hsub.length_le
    rw [List.length_take] at this
    omega
  by_cases hi : i < xs.length
  · right
    refine ⟨S.go i H' w2 hi, fun H'' => z.R H2 H'' ∧ ∃ acc : List V, H'' D = some (.lst acc) ∧ acc.Sublist (xs.take (i + 1)), fun H'' h => ⟨m - 1, by omega, by omega, h⟩, fun x H'' hy => ?_⟩
    obtain ⟨rfl, hx⟩ := S.yld i H' x H'' w2 hi hy
    have rD : (z.add D).R H'' H'' := r.dr.up (by rw [hacc]; simp) (by rw [hacc]; simp)
    have etk : xs.take (i + 1) = xs.take i ++ [x] := by
      rw [List.take_add_one, hx]
      rfl
    refine ⟨hv x, ht x D H'' hD0 ((e.tr e2).tr r) rD H'' rD _ fun c H3 e3 _ => ?_⟩
    have h3D : H3 D = some (.lst acc) := e3.kp D _ nI hacc
    cases c with
    | true =>
      refine ⟨x, hj x, acc, h3D, Nat.lt_of_le_of_lt hla (by decide), (r.tr e3.dn).mut hD, acc ++ [x], upd_same, ?_⟩
      rw [etk]
      exact hsub.append (.refl _)
    | false =>
      refine ⟨r.tr e3.dn, acc, h3D, ?_⟩
      rw [etk]
      exact hsub.trans (List.sublist_append_left _ _)
  · left
    have ei : i = xs.length := by omega
    subst ei
    rw [List.take_length] at hsub
    exact ⟨S.stop H' w2, q _ H' (e2.tr r) fun H3 w3 => ⟨D, acc, rfl, nU, w3 D _ nU hacc, hsub⟩⟩
theorem sub_strs : ∀ {ws : List V} {xs : List Str}, ws.Sublist (xs.map V.str) → ∃ ys : List Str, ws = ys.map V.str ∧ ys.Sublist xs := fun {ws xs} h => by
  obtain ⟨ys, hs, e⟩ := List.sublist_map_iff.mp h
  exact ⟨ys, e, hs⟩
end
section
variable {z : Zn} {K : PySem.W.Frag} {σ : L2.St} {H : Hp} {te ta : TE} {D : Ends} {ts tu : TS} {t : TT}
/-- an if whose truth nobody knows -/
theorem q_ifU (hR : z.R H H) (h : EvT z t σ H (fun _ => True)) (h1 : ∀ H1, z.R H H1 → ts { D with nx := tu D } σ H1) (h2 : ∀ H1, z.R H H1 → tu D σ H1) : tSeq (tIfS t ts tNext) tu D σ H := h H hR _ fun c H1 e _ => by
  cases c with
  | true => exact h1 H1 e
  | false => exact h2 H1 e
theorem et_any (h : Ev z te σ H (fun v _ => ∃ b, v = .bl b)) : EvT z (tTest te) σ H (fun _ => True) := fun H1 e Q q => h H1 e _ fun v H2 e2 f => by
  obtain ⟨b, e3⟩ := f H2 .refl
  exact ⟨b, e3, q b H2 e2 trivial⟩
theorem ev_drawEq {n : Nat} {k : Int} (h : Ev z ta σ H (Nn n)) : Ev z (tOp rEq ta (tC (.int k))) σ H (fun v _ => ∃ b, v = .bl b) :=
  ev_op h (fun _ H1 r _ => ev_k) fun x y H1 r ⟨i, e, _⟩ e2 => by
    subst e
    have e2' : y = .int k := e2
    subst e2'
    exact rn_val r.dr (fun Q q => ⟨rfl, q⟩) fun _ _ => ⟨_, rfl⟩
end
section
variable {z : Zn} {K : PySem.W.Frag} {σ : L2.St} {H : Hp} {te ta tb : TE} {D : Ends} {ts tu : TS}
/-- two lists that stand, one behind the other -/
theorem ev_catV {ws us : List V} (ha : Ev z ta σ H (Lst z fun ws' _ => ws' = ws)) (hb : ∀ H1, z.R H H1 → Ev z tb σ H1 (Lst z fun ws' _ => ws' = us)) (hn : ws.length + us.length ≤ 100000) : Ev z (tOp rCat ta tb) σ H (Lst z fun ws' _ => ws' = ws ++ us) :=
  ev_op ha (fun _ H1 r _ => hb H1 r) fun x y H1 r ⟨p, ws', e1, n1, h1, l1⟩ ⟨p', us', e2, n2, h2, l2⟩ Q q => by
    subst l1
    subst l2
    exact ⟨p, p', _, _, e1, e2, h1, h2, Nat.le_trans hn (by decide), fun d hd => q _ _ (r.dr.new hd) fun H3 w => ⟨d, _, rfl, r.dr.nu hd, w d _ (r.dr.nu hd) upd_same, rfl⟩⟩
/-- x = [e], a list of one's own -/
theorem q_lst1 {i : Nat} {φ : VP} (hR : z.R H H) (h : Ev z te σ H φ) (k : ∀ v p H1, z.R H H1 → H1 p = none → (∀ H2, z.W H1 H2 → φ v H2) → tu D (σ.set i (some (.ref p))) (upd H1 p (.lst [v]))) : tSeq (tAsg (tLst (tCons te tNil)) (gName i)) tu D σ H :=
  h H hR _ fun v H1 e f => ⟨show (1 : Nat) ≤ sizeLine by decide, fun p hp => k v p H1 e hp f⟩
theorem q_app {to : TE} {p : Addr} {xs : List V} {φ : VP} (hR : z.R H H) (ho : Ev z to σ H (Is (.ref p))) (h : ∀ H1, z.R H H1 → Ev z te σ H1 φ) (ni : z.I p = none) (hp : H p = some (.lst xs)) (hl : xs.length ≤ 100000)
    (k : ∀ v H1, z.R H H1 → (∀ H2, z.W H1 H2 → φ v H2) → tu D σ (upd H1 p (.lst (xs ++ [v])))) : tSeq (tDrop (tBM K "list" rAppend to (tCons te tNil))) tu D σ H := s_app (D := { D with nx := tu D }) hR ho h ni hp hl k
/-- x, y, w = a tuple of three just made -/
theorem q_trip {i j l : Nat} {Φ : V → V → V → Hp → Prop} (hR : z.R H H) (h : Ev z te σ H (Tup z fun ws H' => ∃ v w x, ws = [v, w, x] ∧ Φ v w x H')) (k : ∀ v w x H1, z.R H H1 → (∀ H2, z.W H1 H2 → Φ v w x H2) → tu D (((σ.set i (some v)).set j (some w)).set l (some x)) H1) :
    tSeq (tAsg te (gTup K 3 (gCons (gName i) (gCons (gName j) (gCons (gName l) gNil))))) tu D σ H := h H hR _ fun v H1 e f => by
  obtain ⟨p, ws, rfl, nu, hp, v, w, x, rfl, _⟩ := f H1 .refl
  refine ⟨p, [v, w, x], rfl, .inl (.inl hp), rfl, v, [w, x], rfl, w, [x], rfl, x, [], rfl, rfl, k v w x H1 e fun H2 w2 => ?_⟩
  obtain ⟨p', ws', e', _, hp', v', w', x', ew, q⟩ := f H2 w2
  cases e'
  rw [w2 p _ nu hp] at hp'
  cases hp'
  cases ew
  exact q
end
theorem q_par3 {z : Zn} {σ : L2.St} {H : Hp} {D : Ends} {tu : TS} {i j l : Nat} {ta : TA} {Φ : V → V → V → Hp → Prop} (hR : z.R H H) (h : EvA z ta σ H (fun vs H' => ∃ u v w, vs = [u, v, w] ∧ Φ u v w H')) (k : ∀ u v w H1, z.R H H1 → (∀ H2, z.W H1 H2 → Φ u v w H2) → tu D (((σ.set i (some u)).set j (some v)).set l (some w)) H1) : tSeq (tPar3 i j l ta) tu D σ H :=
  h H hR _ fun vs H1 e f => by
    obtain ⟨u, v, w, ev, _⟩ := f H1 .refl
    refine ⟨u, v, w, ev, k u v w H1 e fun H2 w2 => ?_⟩
    obtain ⟨u', v', w', e', q⟩ := f H2 w2
    rw [ev] at e'
    cases e'
    exact q
theorem gr_lt : ∀ {l : List Str} {x : Str}, grS (x :: l) = true → ∀ y ∈ l, ltS x y = true
  | [], _, _, y, h => by cases h
  | a :: r, x, g, y, h => by
    have g' : (ltS x a && grS (a :: r)) = true := g
    rw [Bool.and_eq_true] at g'
    rcases List.mem_cons.mp h with rfl | h
    · exact g'.1
    · exact ltS_trans g'.1 (gr_lt g'.2 y h)
theorem gr_tl {l : List Str} {x : Str} (g : grS (x :: l) = true) : grS l = true := by
  cases l with
  | nil => rfl
  | cons y r =>
    have g' : (ltS x y && grS (y :: r)) = true := g
    rw [Bool.and_eq_true] at g'
    exact g'.2
section
variable {z : Zn} {σ : L2.St} {H : Hp} {ta tb tc td : TE}
theorem ea_four {a b d : V} {φ : VP} (h1 : Ev z ta σ H (Is a)) (h2 : Ev z tb σ H (Is b)) (h3 : ∀ H1, z.R H H1 → Ev z tc σ H1 φ) (h4 : Ev z td σ H (Is d)) :
    EvA z (tCons ta (tCons tb (tCons tc (tCons td tNil)))) σ H (fun vs H' => ∃ y, φ y H' ∧ vs = [a, b, y, d]) :=
  (ea_cons h1 fun _ H1 r1 _ => ea_cons (h2.up r1) fun _ H2 r2 _ => ea_cons (h3 H2 (r1.tr r2)) fun _ H3 r3 _ => ea_is (h4.up ((r1.tr r2).tr r3)) ea_nil).imp fun vs H' _ ⟨a', r, e, ea, b', r', e', eb, y, r'', e'', ey, e3⟩ =>
    ⟨y, ey, by rw [e, e', e'', e3, show a' = a from ea, show b' = b from eb]⟩
end
end FB

set_option Elab.async false
set_option linter.all false
/-! FPa: parts and cells as lists of ints; what putting and cutting make of them. -/
namespace FB
abbrev Tri := Int × Int × Int
abbrev Cel := Int × Int
/-- a part as it must be -/
def okT (t : Tri) : Prop := 1 ≤ t.1 ∧ 0 ≤ t.2.1 ∧ 1 ≤ t.2.2
def okL (l : List Tri) : Prop := ∀ t ∈ l, okT t
def tot : List Tri → Int
  | [] => 0
  | t :: r => t.2.2 + tot r
def firstC : List Tri → Int → List Tri
  | [], _ => []
  | t :: r, n => if n ≤ 0 then [] else (t.1, t.2.1, if n < t.2.2 then n else t.2.2) :: firstC r (n - t.2.2)
def behindC : List Tri → Int → List Tri
  | [], _ => []
  | t :: r, n => (if n ≤ 0 then [t] else if n < t.2.2 then [(t.1, t.2.1 + n, t.2.2 - n)] else []) ++ behindC r (n - t.2.2)
/-- one more part, the last one longer where it goes on there -/
def joinStep (rows : List Tri) (t : Tri) : List Tri :=
  match rows.getLast? with
  | none => [t]
  | some l => if l.1 = t.1 ∧ l.2.1 + l.2.2 = t.2.1 then rows.dropLast ++ [(t.1, l.2.1, l.2.2 + t.2.2)] else rows ++ [t]
def joined (l : List Tri) : List Tri := l.foldl joinStep []
def eachT (t : Tri) : List Cel := (List.range t.2.2.toNat).map fun (k : Nat) => (t.1, t.2.1 + (k : Int))
def each : List Tri → List Cel
  | [] => []
  | t :: r => eachT t ++ each r
def one (c : Cel) : Tri := (c.1, c.2, 1)
def runs (cs : List Cel) : List Tri := (cs.map one).foldl joinStep []
def spl (l more : List Tri) (n : Int) : List Tri := joined (firstC l n ++ (more ++ behindC l (n + tot more)))
def shr (l : List Tri) (n : Int) : List Tri := joined (firstC l n)

theorem eachT_len (t : Tri) : (eachT t).length = t.2.2.toNat := by simp [eachT]
theorem each_app : ∀ a b : List Tri, each (a ++ b) = each a ++ each b
  | [], b => rfl
  | t :: r, b => by
    show eachT t ++ each (r ++ b) = (eachT t ++ each r) ++ each b
    rw [each_app r b, List.append_assoc]
theorem okL_tl {t : Tri} {l : List Tri} (h : okL (t :: l)) : okL l := fun x hx => h x (List.mem_cons_of_mem _ hx)
theorem okL_app {a b : List Tri} (h : okL a) (h' : okL b) : okL (a ++ b) := fun t ht => (List.mem_append.mp ht).elim (h t) (h' t)
theorem tot_len : ∀ {l : List Tri}, okL l → tot l = ((each l).length : Int)
  | [], _ => rfl
  | t :: r, h => by
    have h1 := (h t List.mem_cons_self).2.2
    show t.2.2 + tot r = ((eachT t ++ each r).length : Int)
    rw [tot_len (okL_tl h), List.length_append, eachT_len]
    omega
theorem eachT_take (t : Tri) (n : Int) (h : 0 ≤ n) : (eachT t).take n.toNat = eachT (t.1, t.2.1, if n < t.2.2 then n else t.2.2) := by
  unfold eachT
  rw [← List.map_take, List.take_range]
  congr 2
  show min n.toNat t.2.2.toNat = (if n < t.2.2 then n else t.2.2).toNat
  split <;> omega
theorem eachT_drop (t : Tri) (n : Int) (h : 0 ≤ n) (h2 : n < t.2.2) : (eachT t).drop n.toNat = eachT (t.1, t.2.1 + n, t.2.2 - n) := by
  apply List.ext_getElem?
  intro i
  unfold eachT
  rw [List.getElem?_drop, List.getElem?_map, List.getElem?_map]
  by_cases hi : n.toNat + i < t.2.2.toNat
  · rw [List.getElem?_range hi, List.getElem?_range (show i < (t.2.2 - n).toNat by omega)]
    show some (t.1, t.2.1 + ((n.toNat + i : Nat) : Int)) = some (t.1, t.2.1 + n + (i : Int))
    congr 2
    omega
  · rw [List.getElem?_eq_none (by rw [List.length_range]; omega), List.getElem?_eq_none (by rw [List.length_range]; show (t.2.2 - n).toNat ≤ i; omega)]
    rfl
theorem each_first : ∀ {l : List Tri} (n : Int), okL l → each (firstC l n) = (each l).take n.toNat
  | [], n, _ => by simp [firstC, each]
  | t :: r, n, h => by
    have h1 := (h t List.mem_cons_self).2.2
    unfold firstC
    by_cases hn : n ≤ 0
    · rw [if_pos hn, show n.toNat = 0 by omega]
      rfl
    · rw [if_neg hn]
      show eachT _ ++ each (firstC r (n - t.2.2)) = (eachT t ++ each r).take n.toNat
      rw [each_first (n - t.2.2) (okL_tl h), List.take_append, ← eachT_take t n (by omega), eachT_len]
      congr 2
      omega
theorem each_behind : ∀ {l : List Tri} (n : Int), okL l → each (behindC l n) = (each l).drop n.toNat
  | [], n, _ => by simp [behindC, each]
  | t :: r, n, h => by
    have h1 := (h t List.mem_cons_self).2.2
    unfold behindC
    show each (_ ++ behindC r (n - t.2.2)) = (eachT t ++ each r).drop n.toNat
    rw [each_app, each_behind (n - t.2.2) (okL_tl h), List.drop_append, eachT_len]
    have e : (n - t.2.2).toNat = n.toNat - t.2.2.toNat := by omega
    rw [e]
    congr 1
    by_cases hn : n ≤ 0
    · rw [if_pos hn, show n.toNat = 0 by omega]
      show eachT t ++ [] = eachT t
      rw [List.append_nil]
    · rw [if_neg hn]
      by_cases h2 : n < t.2.2
      · rw [if_pos h2, eachT_drop t n (by omega) h2]
        show eachT _ ++ [] = _
        rw [List.append_nil]
      · rw [if_neg h2, List.drop_eq_nil_of_le (by rw [eachT_len]; omega)]
        rfl
theorem okL_first : ∀ {l : List Tri} (n : Int), okL l → okL (firstC l n)
  | [], _, _ => fun t ht => by cases ht
  | t :: r, n, h => by
    unfold firstC
    by_cases hn : n ≤ 0
    · rw [if_pos hn]; exact fun t ht => by cases ht
    · rw [if_neg hn]
      intro x hx
      rcases List.mem_cons.mp hx with rfl | hx
      · have h1 := h t List.mem_cons_self
        refine ⟨h1.1, h1.2.1, ?_⟩
        have := h1.2.2
        show 1 ≤ if n < t.2.2 then n else t.2.2
        split <;> omega
      · exact okL_first _ (okL_tl h) x hx
theorem okL_behind : ∀ {l : List Tri} (n : Int), okL l → okL (behindC l n)
  | [], _, _ => fun t ht => by cases ht
  | t :: r, n, h => by
    have h1 := h t List.mem_cons_self
    unfold behindC
    intro x hx
    rcases List.mem_append.mp hx with hx | hx
    · by_cases hn : n ≤ 0
      · rw [if_pos hn] at hx
        rw [List.mem_singleton.mp hx]
        exact h1
      · rw [if_neg hn] at hx
        by_cases h2 : n < t.2.2
        · rw [if_pos h2] at hx
          rw [List.mem_singleton.mp hx]
          exact ⟨h1.1, by have := h1.2.1; show 0 ≤ t.2.1 + n; omega, by show 1 ≤ t.2.2 - n; omega⟩
        · rw [if_neg h2] at hx
          cases hx
    · exact okL_behind _ (okL_tl h) x hx
theorem first_len : ∀ (l : List Tri) (n : Int), (firstC l n).length ≤ l.length
  | [], _ => Nat.le_refl _
  | t :: r, n => by
    unfold firstC
    split
    · exact Nat.zero_le _
    · have := first_len r (n - t.2.2)
      simp only [List.length_cons]
      omega
theorem behind_len : ∀ (l : List Tri) (n : Int), (behindC l n).length ≤ l.length
  | [], _ => Nat.le_refl _
  | t :: r, n => by
    unfold behindC
    have := behind_len r (n - t.2.2)
    rw [List.length_append, List.length_cons]
    have h1 : (if n ≤ 0 then [t] else if n < t.2.2 then [((t.1, t.2.1 + n, t.2.2 - n) : Tri)] else []).length ≤ 1 := by
      split
      · exact Nat.le_refl _
      · split
        · exact Nat.le_refl _
        · exact Nat.zero_le _
    omega
/-! ### joined -/
theorem joinStep_nil (t : Tri) : joinStep [] t = [t] := rfl
theorem joinStep_app (rows : List Tri) (l t : Tri) : joinStep (rows ++ [l]) t = if l.1 = t.1 ∧ l.2.1 + l.2.2 = t.2.1 then rows ++ [(t.1, l.2.1, l.2.2 + t.2.2)] else (rows ++ [l]) ++ [t] := by
  unfold joinStep
  rw [List.getLast?_concat]
  simp only [List.dropLast_concat]
/-- behind a step the last part ends where the new one ends -/
theorem joinStep_end (rows : List Tri) (t : Tri) : ∃ pre s k, joinStep rows t = pre ++ [(t.1, s, k)] ∧ s + k = t.2.1 + t.2.2 ∧ ∀ m : Int, joinStep rows (t.1, t.2.1, t.2.2 + m) = pre ++ [(t.1, s, k + m)] := by
  rcases List.eq_nil_or_concat rows with rfl | ⟨pre, l, rfl⟩
  · exact ⟨[], t.2.1, t.2.2, rfl, rfl, fun m => rfl⟩
  · rw [List.concat_eq_append, joinStep_app]
    by_cases h : l.1 = t.1 ∧ l.2.1 + l.2.2 = t.2.1
    · rw [if_pos h]
      refine ⟨pre, l.2.1, l.2.2 + t.2.2, rfl, by omega, fun m => ?_⟩
      rw [joinStep_app, if_pos h]
      show pre ++ [(t.1, l.2.1, l.2.2 + (t.2.2 + m))] = _
      rw [Int.add_assoc]
    · rw [if_neg h]
      refine ⟨pre ++ [l], t.2.1, t.2.2, rfl, rfl, fun m => ?_⟩
      rw [joinStep_app, if_neg h]
theorem runs_part (rows : List Tri) (p f : Int) : ∀ n : Nat, ((eachT (p, f, (n : Int) + 1)).map one).foldl joinStep rows = joinStep rows (p, f, (n : Int) + 1)
  | 0 => by
    show joinStep rows (p, f + ((0 : Nat) : Int), 1) = joinStep rows (p, f, ((0 : Nat) : Int) + 1)
    simp
  | n + 1 => by
    have ih := runs_part rows p f n
    have e : eachT (p, f, ((n + 1 : Nat) : Int) + 1) = eachT (p, f, (n : Int) + 1) ++ [(p, f + ((n : Int) + 1))] := by
      unfold eachT
      show (List.range (((n + 1 : Nat) : Int) + 1).toNat).map _ = (List.range ((n : Int) + 1).toNat).map _ ++ _
      rw [show (((n + 1 : Nat) : Int) + 1).toNat = (n + 1) + 1 by omega, show ((n : Int) + 1).toNat = n + 1 by omega, List.range_succ, List.map_append]
      rfl
    rw [e, List.map_append, List.foldl_append, ih]
    obtain ⟨pre, s, k, e1, e2, e3⟩ := joinStep_end rows (p, f, (n : Int) + 1)
    rw [e1]
    show joinStep (pre ++ [(p, s, k)]) (p, f + ((n : Int) + 1), 1) = _
    rw [joinStep_app, if_pos ⟨rfl, e2⟩, show (((n + 1 : Nat) : Int) + 1) = ((n : Int) + 1) + 1 by omega, e3 1]
theorem join_each : ∀ {l : List Tri} (rows : List Tri), okL l → l.foldl joinStep rows = ((each l).map one).foldl joinStep rows
  | [], _, _ => rfl
  | t :: r, rows, h => by
    have h1 := (h t List.mem_cons_self).2.2
    show r.foldl joinStep (joinStep rows t) = ((eachT t ++ each r).map one).foldl joinStep rows
    rw [List.map_append, List.foldl_append, join_each _ (okL_tl h)]
    congr 1
    have := runs_part rows t.1 t.2.1 (t.2.2 - 1).toNat
    rw [show (((t.2.2 - 1).toNat : Nat) : Int) + 1 = t.2.2 by omega] at this
    exact this.symm
theorem joined_runs {l : List Tri} (h : okL l) : joined l = runs (each l) := join_each [] h
theorem eachT_one (c : Cel) : eachT (one c) = [c] := by
  show [(c.1, c.2 + ((0 : Nat) : Int))] = [c]
  simp
theorem each_step {rows : List Tri} {t : Tri} (h : okL rows) (ht : okT t) : each (joinStep rows t) = each rows ++ eachT t ∧ okL (joinStep rows t) := by
  rcases List.eq_nil_or_concat rows with rfl | ⟨pre, l, rfl⟩
  · refine ⟨?_, fun x hx => ?_⟩
    · show eachT t ++ [] = [] ++ eachT t
      simp
    · rw [List.mem_singleton.mp hx]; exact ht
  · rw [List.concat_eq_append] at h ⊢
    have hl := h l (List.mem_append.mpr (.inr List.mem_cons_self))
    have hpre : okL pre := fun x hx => h x (List.mem_append.mpr (.inl hx))
    rw [joinStep_app]
    by_cases hj : l.1 = t.1 ∧ l.2.1 + l.2.2 = t.2.1
    · rw [if_pos hj]
      have h2 := hl.2.2
      have h3 := ht.2.2
      refine ⟨?_, okL_app hpre fun x hx => ?_⟩
      · rw [each_app, each_app, List.append_assoc]
        congr 1
        show eachT (t.1, l.2.1, l.2.2 + t.2.2) ++ [] = (eachT l ++ []) ++ eachT t
        rw [List.append_nil, List.append_nil]
        unfold eachT
        show (List.range (l.2.2 + t.2.2).toNat).map _ = _
        rw [show (l.2.2 + t.2.2).toNat = l.2.2.toNat + t.2.2.toNat by omega, List.range_add, List.map_append, List.map_map]
        congr 1
        · rw [← hj.1]
        · refine List.map_congr_left fun k hk => ?_
          show (t.1, l.2.1 + ((l.2.2.toNat + k : Nat) : Int)) = (t.1, t.2.1 + (k : Int))
          congr 1
          omega
      · rw [List.mem_singleton.mp hx]
        exact ⟨ht.1, hl.2.1, by show 1 ≤ l.2.2 + t.2.2; omega⟩
    · rw [if_neg hj]
      refine ⟨?_, okL_app h fun x hx => by rw [List.mem_singleton.mp hx]; exact ht⟩
      rw [each_app]
      congr 1
      show eachT t ++ [] = eachT t
      rw [List.append_nil]
/-- cells as they must be -/
def okC (cs : List Cel) : Prop := ∀ c ∈ cs, 1 ≤ c.1 ∧ 0 ≤ c.2
theorem each_fold : ∀ {cs : List Cel} {rows : List Tri}, okL rows → okC cs → each ((cs.map one).foldl joinStep rows) = each rows ++ cs ∧ okL ((cs.map one).foldl joinStep rows)
  | [], rows, h, _ => ⟨by simp, h⟩
  | c :: r, rows, h, hc => by
    have h1 := hc c List.mem_cons_self
    obtain ⟨e, o⟩ := each_step h (t := one c) ⟨h1.1, h1.2, Int.le_refl 1⟩
    obtain ⟨e2, o2⟩ := each_fold (cs := r) o fun x hx => hc x (List.mem_cons_of_mem _ hx)
    refine ⟨?_, o2⟩
    show each ((r.map one).foldl joinStep (joinStep rows (one c))) = _
    rw [e2, e, eachT_one, List.append_assoc]
    rfl
theorem each_runs {cs : List Cel} (h : okC cs) : each (runs cs) = cs := (each_fold (rows := []) (fun t ht => by cases ht) h).1
theorem okL_runs {cs : List Cel} (h : okC cs) : okL (runs cs) := (each_fold (rows := []) (fun t ht => by cases ht) h).2
theorem okC_each : ∀ {l : List Tri}, okL l → okC (each l)
  | [], _ => fun c hc => by cases hc
  | t :: r, h => fun c hc => by
    rcases List.mem_append.mp hc with hc | hc
    · obtain ⟨k, hk, rfl⟩ := List.mem_map.mp hc
      have h1 := h t List.mem_cons_self
      have := h1.2.1
      exact ⟨h1.1, by show 0 ≤ t.2.1 + (k : Int); omega⟩
    · exact okC_each (okL_tl h) c hc
/-- put, by cells -/
theorem spl_runs {l more : List Tri} {n : Int} (h : okL l) (hm : okL more) (h0 : 0 ≤ n) : spl l more n = runs ((each l).take n.toNat ++ (each more ++ (each l).drop (n.toNat + (each more).length))) := by
  unfold spl
  rw [joined_runs (okL_app (okL_first n h) (okL_app hm (okL_behind _ h))), each_app, each_app, each_first n h, each_behind _ h, tot_len hm]
  congr 4
  omega
theorem shr_runs {l : List Tri} {n : Int} (h : okL l) : shr l n = runs ((each l).take n.toNat) := by
  unfold shr
  rw [joined_runs (okL_first n h), each_first n h]
theorem joinStep_len (rows : List Tri) (t : Tri) : (joinStep rows t).length ≤ rows.length + 1 := by
  rcases List.eq_nil_or_concat rows with rfl | ⟨pre, l, rfl⟩
  · exact Nat.le_refl _
  · rw [List.concat_eq_append, joinStep_app]
    split <;> simp
theorem fold_len : ∀ (l rows : List Tri), (l.foldl joinStep rows).length ≤ rows.length + l.length
  | [], rows => Nat.le_refl _
  | t :: r, rows => by
    have := fold_len r (joinStep rows t)
    have := joinStep_len rows t
    simp only [List.foldl_cons, List.length_cons]
    omega
theorem runs_len (cs : List Cel) : (runs cs).length ≤ cs.length := by
  have := fold_len (cs.map one) []
  rw [List.length_map, List.length_nil, Nat.zero_add] at this
  exact this
end FB

set_option Elab.async false
set_option linter.all false
set_option maxRecDepth 100000
set_option maxHeartbeats 4000000
/-! FPb: lists built by appends; data of parts and cells; loops over them. -/
namespace FB
open PySem PySem.Spec PyProof.Rows L2 RZ
def trD (t : Tri) : PyData := .tuple [.int t.1, .int t.2.1, .int t.2.2]
def ceD (c : Cel) : PyData := .tuple [.int c.1, .int c.2]
def paD (l : List Tri) : PyData := .tuple (l.map trD)
def plD (l : List Tri) : PyData := .list (l.map trD)
def clD (l : List Cel) : PyData := .list (l.map ceD)
section
variable {U : Addr → Prop} {H : Hp}
theorem DU.intAt {v : V} {i : Int} (h : DU U H v (.int i)) : v = .int i := by cases h; rfl
theorem DU.lstAt {v : V} {ds : List PyData} (h : DU U H v (.list ds)) : ∃ a vs, v = .ref a ∧ ¬ U a ∧ H a = some (.lst vs) ∧ DUA U H vs ds := by
  cases h with
  | lst n e t => exact ⟨_, _, rfl, n, e, t⟩
theorem tr_at {v : V} {t : Tri} (h : DU U H v (trD t)) : ∃ a, v = .ref a ∧ ¬ U a ∧ H a = some (.tup [.int t.1, .int t.2.1, .int t.2.2]) := by
  obtain ⟨a, vs, e, nu, ha, hd⟩ := h.tupAt
  cases hd with
  | cons h1 r => cases r with
    | cons h2 r => cases r with
      | cons h3 r => cases r with
        | nil =>
          rw [h1.intAt, h2.intAt, h3.intAt] at ha
          exact ⟨a, e, nu, ha⟩
theorem ce_at {v : V} {c : Cel} (h : DU U H v (ceD c)) : ∃ a, v = .ref a ∧ ¬ U a ∧ H a = some (.tup [.int c.1, .int c.2]) := by
  obtain ⟨a, vs, e, nu, ha, hd⟩ := h.tupAt
  cases hd with
  | cons h1 r => cases r with
    | cons h2 r => cases r with
      | nil =>
        rw [h1.intAt, h2.intAt] at ha
        exact ⟨a, e, nu, ha⟩
theorem DUA.set {vs : List V} {ds : List PyData} {v : V} {d : PyData} : ∀ {i : Nat}, DUA U H vs ds → DU U H v d → DUA U H (vs.set i v) (ds.set i d)
  | _, .nil, _ => .nil
  | 0, .cons h t, hv => .cons hv t
  | i + 1, .cons h t, hv => .cons h (t.set hv)
end
/-- the list at p, made since H, holds ds -/
structure Bl (z : Zn) (p : Addr) (H H' : Hp) (ds : List PyData) : Prop where
  r : z.R H H'
  w : (z.add p).W (upd H p (.lst [])) H'
  b : ∃ vs, H' p = some (.lst vs) ∧ DUA (z.add p).U H' vs ds
section
variable {z : Zn} {K : PySem.W.Frag} {σ : L2.St} {H H' H'' : Hp} {te ta tb to : TE} {D : Ends} {ts tu : TS} {p : Addr} {ds : List PyData}
theorem Bl.rz (b : Bl z p H H' ds) : (z.add p).R H' H' := by
  obtain ⟨vs, hv, _⟩ := b.b
  exact b.r.dr.up (by rw [hv]; simp) (by rw [hv]; simp)
theorem Bl.go (b : Bl z p H H' ds) (hn : H p = none) (hz : z.R H H) (r : (z.add p).R H' H'') : Bl z p H H'' ds := by
  obtain ⟨vs, hv, hd⟩ := b.b
  exact ⟨b.r.tr r.dn, b.w.tr r.w, vs, r.kp p _ (hz.ni hn) hv, hd.w r.w⟩
/-- what was told ahead -/
theorem Bl.du (b : Bl z p H H' ds) (hn : H p = none) {v : V} {d : PyData} (h : DU z.U H v d) : DU (z.add p).U H' v d := h.add hn b.r.w
theorem Bl.at (b : Bl z p H H' ds) (hn : H p = none) {a : Addr} {o : HO} (nu : ¬ z.U a) (h : H a = some o) : ¬ (z.add p).U a ∧ H' a = some o := by
  refine ⟨fun u => u.elim nu fun e => ?_, b.r.w a _ nu h⟩
  have e' : a = p := e
  rw [e', hn] at h
  cases h
/-- x = [] -/
theorem q_new {i : Nat} (hz : z.R H H) (k : ∀ p, H p = none → Bl z p H (upd H p (.lst [])) [] → tu D (σ.set i (some (.ref p))) (upd H p (.lst []))) : tSeq (tAsg (tLst tNil) (gName i)) tu D σ H :=
  ⟨Nat.zero_le _, fun p hp => k p hp ⟨hz.new hp, .refl, [], upd_same, .nil⟩⟩
/-- x.append(e) -/
theorem bl_app {d : PyData} (b : Bl z p H H' ds) (hn : H p = none) (hz : z.R H H) (ho : Ev (z.add p) to σ H' (Is (.ref p))) (h : ∀ H1, (z.add p).R H' H1 → Ev (z.add p) te σ H1 (Dd (z.add p) d)) (hl : ds.length ≤ 100000)
    (k : ∀ H'', (z.add p).W H' H'' → Bl z p H H'' (ds ++ [d]) → D.nx σ H'') : tDrop (tBM K "list" rAppend to (tCons te tNil)) D σ H' := by
  obtain ⟨vs, hv, hd⟩ := b.b
  have hlen := hd.len
  refine s_app (z := z.add p) (φ := Dd (z.add p) d) b.rz ho h (hz.ni hn) hv (by omega) fun v H1 r1 f1 => ?_
  have wu : (z.add p).W H1 (upd H1 p (.lst (vs ++ [v]))) := fun a o na ha => by
    rw [upd_ne fun ea => na (Or.inr ea)]
    exact ha
  have hv' : DU (z.add p).U (upd H1 p (.lst (vs ++ [v]))) v d := f1 _ wu
  exact k _ (r1.w.tr wu) ⟨(b.r.tr r1.dn).mut hn, (b.w.tr r1.w).tr wu, vs ++ [v], upd_same, ((hd.w r1.w).w wu).app (.one hv')⟩
/-- x[-1] = e -/
theorem bl_last {d e : PyData} {ti : TE} (b : Bl z p H H' (ds ++ [d])) (hn : H p = none) (hz : z.R H H) (ho : ∀ H1, (z.add p).R H' H1 → Ev (z.add p) to σ H1 (Is (.ref p))) (hi : ∀ H1, (z.add p).R H' H1 → Ev (z.add p) ti σ H1 (Is (.int (-1)))) (h : Ev (z.add p) te σ H' (Dd (z.add p) e))
    (k : ∀ H'', (z.add p).W H' H'' → Bl z p H H'' (ds ++ [e]) → D.nx σ H'') : tAsg te (gSub to ti rSetL) D σ H' := h H' b.rz _ fun v H1 r1 f1 => ho H1 r1 H1 r1.dr _ fun v2 H2 r2 f2 => hi H2 (r1.tr r2) H2 r2.dr _ fun v3 H3 r3 f3 => by
  have q2 : v2 = .ref p := f2 H2 .refl
  have q3 : v3 = .int (-1) := f3 H3 .refl
  subst q2
  subst q3
  have b3 := b.go hn hz ((r1.tr r2).tr r3)
  obtain ⟨vs, hv, hd⟩ := b3.b
  have hlen := hd.len
  rw [List.length_append, List.length_cons, List.length_nil] at hlen
  refine ⟨p, vs, -1, vs.length - 1, rfl, rfl, hv, ?_, ?_⟩
  · unfold ixN
    rw [if_neg (by decide), if_pos (by omega)]
    congr 1
    omega
  · have wu : (z.add p).W H3 (upd H3 p (.lst (vs.set (vs.length - 1) v))) := fun a o na ha => by
      rw [upd_ne fun ea => na (Or.inr ea)]
      exact ha
    have hv' : DU (z.add p).U (upd H3 p (.lst (vs.set (vs.length - 1) v))) v e := f1 _ ((r2.w.tr r3.w).tr wu)
    refine k _ (((r1.tr r2).tr r3).w.tr wu) ⟨b3.r.mut hn, b3.w.tr wu, _, upd_same, ?_⟩
    have := (hd.w wu).set (i := vs.length - 1) hv'
    have e2 : (ds ++ [d]).set (vs.length - 1) e = ds ++ [e] := by
      rw [show vs.length - 1 = ds.length by omega]
      simp
    rwa [e2] at this
/-- x[-1] -/
theorem ev_last {d : PyData} {ti : TE} (b : Bl z p H H' (ds ++ [d])) (hn : H p = none) (hz : z.R H H) (ho : Ev (z.add p) to σ H' (Is (.ref p))) (hi : Ev (z.add p) ti σ H' (Is (.int (-1)))) : Ev (z.add p) (tOp (rIxL K) to ti) σ H' (Dd (z.add p) d) :=
  ev_op2 ho hi fun H1 r1 => by
    have b1 := b.go hn hz r1
    obtain ⟨vs, hv, hd⟩ := b1.b
    have hlen := hd.len
    rw [List.length_append, List.length_cons, List.length_nil] at hlen
    have hw : vs[vs.length - 1]? = some (vs[vs.length - 1]'(by omega)) := List.getElem?_eq_getElem _
    obtain ⟨d', hd', dv⟩ := hd.at hw
    have e : d' = d := by
      rw [show vs.length - 1 = ds.length by omega, List.getElem?_append_right (Nat.le_refl _), Nat.sub_self] at hd'
      exact (Option.some.inj hd').symm
    subst e
    refine rn_val r1.dr (fun Q q => ⟨p, vs, -1, _, rfl, rfl, .inl (.inl hv), ?_, q⟩) fun H2 w => dv.w w
    unfold atI ixN
    rw [if_neg (by decide), if_pos (by omega), show (-1 + (vs.length : Int)).toNat = vs.length - 1 by omega]
    exact hw
/-- whether a list has anything -/
theorem et_list (b : Bl z p H H' ds) (hn : H p = none) (hz : z.R H H) (ho : Ev (z.add p) to σ H' (Is (.ref p))) : EvT (z.add p) (fun σ H Q => to σ H fun x H' => ∃ k, TruV K x H' k ∧ Q k H') σ H' (· = !ds.isEmpty) := fun H1 r1 Q q =>
  ho H1 r1 _ fun v H2 r2 f => by
    have e : v = .ref p := f H2 .refl
    subst e
    obtain ⟨vs, hv, hd⟩ := (b.go hn hz (r1.tr r2)).b
    have hlen := hd.len
    refine ⟨!vs.isEmpty, .inl ⟨vs, .inl (.inl hv), rfl⟩, q _ H2 r2 ?_⟩
    cases vs <;> cases ds <;> first | rfl | (simp at hlen)
/-- the list, told -/
theorem Bl.list (b : Bl z p H H' ds) (hn : H p = none) (hz : z.R H H) : DU z.U H' (.ref p) (.list ds) := by
  obtain ⟨vs, hv, hd⟩ := b.b
  exact .lst (hz.nu hn) hv (hd.go fun a o n e => ⟨fun x => n (Or.inl x), e⟩)
/-- data that functions tell -/
def spF (A : Zn → Hp → List V → PyData → Prop) : Sp := fun vs H Q _ => ∃ z d, z.R H H ∧ A z H vs d ∧ ∀ v H', z.R H H' → (∀ H'', z.W H' H'' → DU z.U H'' v d) → Q v H'
theorem ev_F {A : Zn → Hp → List V → PyData → Prop} {E : XK} {t : TA} {Φ : List V → Hp → Prop} {d : PyData} (h : EvA z t σ H Φ) (hs : ∀ vs H1, z.R H H1 → Φ vs H1 → A z H1 vs d) : Ev z (tCall (spF A) [] E t) σ H (Dd z d) :=
  ev_call h fun vs H1 r f Q q => ⟨z, d, r.dr, by rw [List.append_nil]; exact hs vs H1 r f, fun v H' r' g => q v H' r' g⟩
theorem ev_int {i : Int} (h : Ev z te σ H (Dd z (.int i))) : Ev z te σ H (Is (.int i)) := h.imp fun v H' _ f => DU.intAt f
theorem ev_bl {b : Bool} (h : Ev z te σ H (Dd z (.bool b))) : Ev z te σ H (Is (.bl b)) := h.imp fun v H' _ f => by
  have f' : DU z.U H' v (.bool b) := f
  cases f'
  rfl
theorem ev_dint {i : Int} (h : Ev z te σ H (Is (.int i))) : Ev z te σ H (Dd z (.int i)) := h.imp fun v H' _ e => by
  have e' : v = .int i := e
  rw [e']
  exact .int i
/-- (a, b, c) of ints -/
theorem ev_tri {a b c : Int} {tc : TE} (h1 : Ev z ta σ H (Is (.int a))) (h2 : Ev z tb σ H (Is (.int b))) (h3 : Ev z tc σ H (Is (.int c))) : Ev z (tTup (tCons ta (tCons tb (tCons tc tNil)))) σ H (Dd z (trD (a, b, c))) :=
  (ev_tup (ea_is h1 (ea_is h2 (ea_is h3 ea_nil))) fun vs H' e => by rw [e]; exact (show 3 ≤ 100000 by decide)).imp fun v H' _ ⟨p, ws, e, nu, hp, ew⟩ => by
    rw [e]
    exact .tup nu hp (by rw [ew]; exact .cons (.int a) (.cons (.int b) (.one (.int c))))
theorem ev_cel {a b : Int} (h1 : Ev z ta σ H (Is (.int a))) (h2 : Ev z tb σ H (Is (.int b))) : Ev z (tTup (tCons ta (tCons tb tNil))) σ H (Dd z (ceD (a, b))) :=
  (ev_tup (ea_is h1 (ea_is h2 ea_nil)) fun vs H' e => by rw [e]; exact (show 2 ≤ 100000 by decide)).imp fun v H' _ ⟨p, ws, e, nu, hp, ew⟩ => by
    rw [e]
    exact .tup nu hp (by rw [ew]; exact .cons (.int a) (.one (.int b)))
/-- one of three names, from a part -/
theorem g_tri {i j l : Nat} {t : Tri} {v : V} {k : L2.St → Hp → Prop} (h : DU z.U H v (trD t)) (hk : k (((σ.set i (some (.int t.1))).set j (some (.int t.2.1))).set l (some (.int t.2.2))) H) : gTup K 3 (gCons (gName i) (gCons (gName j) (gCons (gName l) gNil))) v σ H k := by
  obtain ⟨a, rfl, _, ha⟩ := tr_at h
  exact ⟨a, _, rfl, .inl (.inl ha), rfl, _, _, rfl, _, _, rfl, _, _, rfl, rfl, hk⟩
theorem g_cel {i j : Nat} {c : Cel} {v : V} {k : L2.St → Hp → Prop} (h : DU z.U H v (ceD c)) (hk : k ((σ.set i (some (.int c.1))).set j (some (.int c.2))) H) : gTup K 2 (gCons (gName i) (gCons (gName j) gNil)) v σ H k := by
  obtain ⟨a, rfl, _, ha⟩ := ce_at h
  exact ⟨a, _, rfl, .inl (.inl ha), rfl, _, _, rfl, _, _, rfl, rfl, hk⟩
/-- a, b, c = e, a part -/
theorem q_tri {i j l : Nat} {t : Tri} (hR : z.R H H) (h : Ev z te σ H (Dd z (trD t))) (k : ∀ H1, z.R H H1 → tu D (((σ.set i (some (.int t.1))).set j (some (.int t.2.1))).set l (some (.int t.2.2))) H1) :
    tSeq (tAsg te (gTup K 3 (gCons (gName i) (gCons (gName j) (gCons (gName l) gNil))))) tu D σ H := h H hR _ fun v H1 r f => g_tri (z := z) (f H1 .refl) (k H1 r)
/-- x -= e -/
theorem s_augI {i : Nat} {g : Int → Int → Int} {a b : Int} (hR : z.R H H) (h0 : σ[i]? = some (some (.int a))) (h : Ev z te σ H (Is (.int b))) (k : ∀ H1, z.R H H1 → D.nx (σ.set i (some (.int (g a b)))) H1) : tAug i te (ipI g) D σ H :=
  ⟨.int a, h0, h H hR _ fun v H1 r f => ⟨a, b, rfl, f H1 .refl, k H1 r⟩⟩
/-- sum(a list of ints) -/
theorem ev_sum {ns : List Int} (h : Ev z te σ H (Lst z fun ws _ => ws = ns.map V.int)) : Ev z (tCB (rSum K) (tCons te tNil)) σ H (Is (.int ns.sum)) := fun H1 e Q q =>
  h H1 e _ fun v H2 e2 f => by
    obtain ⟨p, ws, ev, nu, hp, ew⟩ := f H2 .refl
    exact ⟨p, ns, by rw [ev], .inl (.inl (by rw [hp, ew])), q _ H2 e2 fun _ _ => rfl⟩
/-- tuple(a list), data -/
theorem ev_tupD (h : Ev z te σ H (Dd z (.list ds))) : Ev z (tCB (fun xs H Q => ∃ p ys, xs = [.ref p] ∧ ((SqL K H p ys ∧ ∀ l, H l = none → Q (.ref l) (upd H l (.tup ys))) ∨ (SqT K H p ys ∧ Q (.ref p) H))) (tCons te tNil)) σ H (Dd z (.tuple ds)) :=
  (ev_tupleL (Φ := fun ws H' => DUA z.U H' ws ds) (h.imp fun v H' _ f => by
    obtain ⟨a, vs, e, nu, ha, hd⟩ := DU.lstAt f
    exact ⟨a, vs, e, nu, ha, hd⟩)).imp fun v H' _ ⟨p, ws, e, nu, hp, hd⟩ => by
      rw [e]
      exact .tup nu hp hd
end
section
variable {z : Zn} {K : PySem.W.Frag} {σ : L2.St} {H : Hp} {te ta : TE} {D : Ends} {ts tu : TS} {X : Cx}
theorem k_sum (hc : X.calm = true := by rfl) (h : X.K = K := by rfl) : CallR X (.builtin "sum") (rSum K) := h ▸ cr_sum hc
/-- a loop over a list that stands, its target of any form -/
theorem s_forLG {g : TG} {xs : List V} (hR : z.R H H) (h : Ev z te σ H (Lst z fun ws _ => ws = xs)) (main : ∀ H1, z.R H H1 → ∃ Pv : Nat → L2.St → Hp → Prop, Pv 0 σ H1 ∧ (∀ i σ' H', Pv i σ' H' → z.W H1 H') ∧
      (∀ i x σ' H', xs[i]? = some x → Pv i σ' H' → g x σ' H' fun σ2 H2 => ts { D with nx := Pv (i + 1), ct := Pv (i + 1), bk := D.nx } σ2 H2) ∧ ∀ σ' H', Pv xs.length σ' H' → D.nx σ' H') : tFor (iList K te) g ts D σ H :=
  h H hR _ fun v H1 e f => by
    obtain ⟨p, ws, ev, nu, hp, ew⟩ := f H1 .refl
    subst ew
    obtain ⟨Pv, p0, pw, ps, pd⟩ := main H1 e
    exact ⟨p, ev, ⟨ws, .inl (.inl hp)⟩, for_list (K := K) (a := p) (xs := ws) Pv p0 (fun i σ' H' _ q => .inl (.inl (pw i σ' H' q p _ nu hp))) (fun i x σ' H' hx q => ps i x σ' H' hx q) pd⟩
theorem q_forLG {g : TG} {xs : List V} (hR : z.R H H) (h : Ev z te σ H (Lst z fun ws _ => ws = xs)) (main : ∀ H1, z.R H H1 → ∃ Pv : Nat → L2.St → Hp → Prop, Pv 0 σ H1 ∧ (∀ i σ' H', Pv i σ' H' → z.W H1 H') ∧
      (∀ i x σ' H', xs[i]? = some x → Pv i σ' H' → g x σ' H' fun σ2 H2 => ts { D with nx := Pv (i + 1), ct := Pv (i + 1), bk := tu D } σ2 H2) ∧ ∀ σ' H', Pv xs.length σ' H' → tu D σ' H') : tSeq (tFor (iList K te) g ts) tu D σ H :=
  s_forLG (D := { D with nx := tu D }) hR h main
theorem ev_lstv2 {a : Addr} {vs : List V} {i : Nat} (e : σ[i]? = some (some (.ref a))) (n : ¬ z.U a) (h : H a = some (.lst vs)) : Ev z (tVar i) σ H (Lst z fun ws _ => ws = vs) :=
  ev_var e fun H' w => ⟨a, vs, rfl, n, w a _ n h, rfl⟩
/-- *xs, .. -/
theorem ea_star {t : TA} {d : PyData} {ds es : List PyData} (hd : d = .list ds ∨ d = .tuple ds) (h : Ev z te σ H (Dd z d)) (hr : ∀ H1, z.R H H1 → EvA z t σ H1 (fun vs H' => DUA z.U H' vs es)) : EvA z (StX.tStar K te t) σ H (fun vs H' => DUA z.U H' vs (ds ++ es)) := fun H1 e Q q =>
  h H1 e _ fun v H2 e2 f => by
    rcases hd with rfl | rfl
    · obtain ⟨a, xs, ev, nu, ha, hdu⟩ := DU.lstAt (f H2 .refl)
      exact ⟨a, xs, ev, .inr (.inl (.inl ha)), hr H2 (e.tr e2) H2 e2.dr _ fun vs H3 e3 g => q _ H3 (e2.tr e3) fun H4 w => ((hdu.w (z := z) e3.w).w w).app (g H4 w)⟩
    · obtain ⟨a, xs, ev, nu, ha, hdu⟩ := DU.tupAt (f H2 .refl)
      exact ⟨a, xs, ev, .inl (.inl (.inl ha)), hr H2 (e.tr e2) H2 e2.dr _ fun vs H3 e3 g => q _ H3 (e2.tr e3) fun H4 w => ((hdu.w (z := z) e3.w).w w).app (g H4 w)⟩
theorem vals_of {α : Type} {xs : List α} {g : α → V} {ws : List V} (hl : ws.length = xs.length) (h : ∀ (i : Nat) w, ws[i]? = some w → ∃ x, xs[i]? = some x ∧ w = g x) : ws = xs.map g := by
  apply List.ext_getElem?
  intro i
  rw [List.getElem?_map]
  cases e : ws[i]? with
  | none =>
    have := List.getElem?_eq_none_iff.mp e
    rw [List.getElem?_eq_none (by omega)]
    rfl
  | some w =>
    obtain ⟨x, hx, ew⟩ := h i w e
    rw [hx, ew]
    rfl
/-- data of a list, part by part -/
theorem dua_of {U : Addr → Prop} {α : Type} {g : α → PyData} : ∀ {ws : List V} {xs : List α}, ws.length = xs.length → (∀ (i : Nat) w x, ws[i]? = some w → xs[i]? = some x → DU U H w (g x)) → DUA U H ws (xs.map g)
  | [], [], _, _ => .nil
  | w :: ws, x :: xs, hl, h => .cons (h 0 w x rfl rfl) (dua_of (by simpa using hl) fun i w' x' h1 h2 => h (i + 1) w' x' h1 h2)
  | [], x :: xs, hl, _ => by simp at hl
  | w :: ws, [], hl, _ => by simp at hl
end
/-! ### kinds -/
def isIntD : PyData → Bool
  | .int _ => true
  | _ => false
def iOf : PyData → Int
  | .int i => i
  | _ => 0
theorem kit_int (d : PyData) : kitB (tyD d) "int" = some (isIntD d || isBlD d) := by
  cases d <;> (simp only [tyD, isIntD, isBlD]; decide +kernel)
theorem int_of {d : PyData} (h : isIntD d = true) : d = .int (iOf d) := by
  cases d <;> first | rfl | cases h
def ftD (d : PyData) (lo hi : Int) : Bool := isIntD d && (decide (lo ≤ iOf d) && decide (iOf d ≤ hi))
def isPartD : PyData → Bool
  | .tuple ds => decide (ds.length = 3) && ((isIntD (ds.getD 0 .none) && (isIntD (ds.getD 1 .none) && isIntD (ds.getD 2 .none))) && (decide (1 ≤ iOf (ds.getD 0 .none)) && (decide (0 ≤ iOf (ds.getD 1 .none)) && decide (1 ≤ iOf (ds.getD 2 .none)))))
  | _ => false
def isPartsD : PyData → Bool
  | .tuple ds => ds.all isPartD
  | _ => false
theorem part_tr {t : Tri} : isPartD (trD t) = true ↔ okT t := by
  show (true && ((true && (true && true)) && (decide (1 ≤ t.1) && (decide (0 ≤ t.2.1) && decide (1 ≤ t.2.2))))) = true ↔ _
  simp only [Bool.true_and, Bool.and_true, Bool.and_eq_true, decide_eq_true_eq]
  rfl
theorem parts_ok {l : List Tri} (h : okL l) : isPartsD (paD l) = true := by
  show (l.map trD).all isPartD = true
  rw [List.all_map]
  exact List.all_eq_true.mpr fun t ht => part_tr.mpr (h t ht)
/-- tuples not too long -/
def Lg (d : PyData) : Prop := ∀ ds, d = .tuple ds → ds.length ≤ 100000
def goB (t : Tri) (p f : Int) : Bool := decide (V.int t.1 = V.int p) && decide (V.int (t.2.1 + t.2.2) = V.int f)
theorem goB_iff {t : Tri} {p f : Int} : goB t p f = true ↔ (t.1 = p ∧ t.2.1 + t.2.2 = f) := by
  unfold goB
  rw [Bool.and_eq_true, decide_eq_true_eq, decide_eq_true_eq]
  constructor
  · rintro ⟨h1, h2⟩
    injection h1 with h1
    injection h2 with h2
    exact ⟨h1, h2⟩
  · rintro ⟨h1, h2⟩
    rw [h1, h2]
    exact ⟨rfl, rfl⟩
/-! ### promises of the functions on parts -/
def spFT : Sp := fun vs H Q _ => ∃ (z : Zn) (v : V) (d : PyData) (lo hi : Int), vs = [v, .int lo, .int hi] ∧ z.R H H ∧ DU z.U H v d ∧ ∀ H', z.R H H' → Q (.bl (ftD d lo hi)) H'
def spTot : Sp := spF fun z H vs d => ∃ v l, vs = [v] ∧ DU z.U H v (paD l) ∧ l.length ≤ 30000 ∧ d = .int (tot l)
def spFirst : Sp := spF fun z H vs d => ∃ v l n, vs = [v, .int n] ∧ DU z.U H v (paD l) ∧ l.length ≤ 30000 ∧ d = plD (firstC l n)
def spBehind : Sp := spF fun z H vs d => ∃ v l n, vs = [v, .int n] ∧ DU z.U H v (paD l) ∧ l.length ≤ 30000 ∧ d = plD (behindC l n)
def spGo : Sp := spF fun z H vs d => ∃ v t p f, vs = [v, .int p, .int f] ∧ DU z.U H v (trD t) ∧ d = .bool (goB t p f)
def spJoin : Sp := spF fun z H vs d => ∃ v l, vs = [v] ∧ DU z.U H v (plD l) ∧ l.length ≤ 90000 ∧ d = paD (joined l)
def spSpl : Sp := spF fun z H vs d => ∃ v m l more n, vs = [v, m, .int n] ∧ DU z.U H v (paD l) ∧ DU z.U H m (paD more) ∧ l.length ≤ 30000 ∧ more.length ≤ 30000 ∧ d = paD (spl l more n)
def spShr : Sp := spF fun z H vs d => ∃ v l n, vs = [v, .int n] ∧ DU z.U H v (paD l) ∧ l.length ≤ 30000 ∧ d = paD (shr l n)
def spLen : Sp := spF fun z H vs d => ∃ v l, vs = [v] ∧ DU z.U H v (paD l) ∧ l.length ≤ 30000 ∧ okL l ∧ d = .int (tot l)
def spPut : Sp := spF fun z H vs d => ∃ v m pl l more n, vs = [v, m, pl] ∧ DU z.U H v (paD l) ∧ DU z.U H m (paD more) ∧ l.length ≤ 30000 ∧ more.length ≤ 30000 ∧ okL l ∧ okL more ∧ ((pl = .non ∧ n = tot l) ∨ (pl = .int n ∧ 0 ≤ n ∧ n ≤ tot l)) ∧ d = paD (spl l more n)
def spCut : Sp := spF fun z H vs d => ∃ v l n, vs = [v, .int n] ∧ DU z.U H v (paD l) ∧ l.length ≤ 30000 ∧ okL l ∧ 0 ≤ n ∧ n ≤ tot l ∧ d = paD (shr l n)
section
variable {z : Zn} {K : PySem.W.Frag} {σ : L2.St} {H : Hp} {te ta tb tc : TE} {E : XK}
theorem ev_isN {x : V} (h : Ev z te σ H (Is x)) : Ev z (tOp (fun x y H Q => y = .non ∧ Q (.bl (decide (x = .non))) H) te (tC .non)) σ H (Is (.bl (decide (x = .non)))) :=
  ev_op2 h ev_k fun H1 r => rn_val r.dr (fun Q q => ⟨rfl, q⟩) fun _ _ => rfl
theorem ev_ft {d : PyData} {lo hi : Int} (h : Ev z ta σ H (Dd z d)) (h1 : Ev z tb σ H (Is (.int lo))) (h2 : Ev z tc σ H (Is (.int hi))) : Ev z (tCall spFT [] E (tCons ta (tCons tb (tCons tc tNil)))) σ H (Is (.bl (ftD d lo hi))) :=
  ev_call (ea_cons h fun v H1 r _ => ea_is (h1.up r) (ea_is (h2.up r) ea_nil)) fun vs H1 r ⟨v, rr, e, hv, er⟩ Q q => ⟨z, v, d, lo, hi, by rw [e, er]; rfl, r.dr, hv, fun H' r' => q _ H' r' fun _ _ => rfl⟩
theorem ev_tot {l : List Tri} (h : Ev z te σ H (Dd z (paD l))) (hl : l.length ≤ 30000) : Ev z (tCall spTot [] E (tCons te tNil)) σ H (Is (.int (tot l))) :=
  ev_int (ev_F (A := fun z H vs d => ∃ v l, vs = [v] ∧ DU z.U H v (paD l) ∧ l.length ≤ 30000 ∧ d = .int (tot l)) (ea_cons h fun v H1 r _ => ea_nil) fun vs H1 r ⟨v, rr, e, hv, er⟩ => ⟨v, l, by rw [e, er], hv, hl, rfl⟩)
theorem ev_first {l : List Tri} {n : Int} (h : Ev z te σ H (Dd z (paD l))) (h2 : Ev z ta σ H (Is (.int n))) (hl : l.length ≤ 30000) : Ev z (tCall spFirst [] E (tCons te (tCons ta tNil))) σ H (Dd z (plD (firstC l n))) :=
  ev_F (A := fun z H vs d => ∃ v l n, vs = [v, .int n] ∧ DU z.U H v (paD l) ∧ l.length ≤ 30000 ∧ d = plD (firstC l n)) (ea_cons h fun v H1 r _ => ea_is (h2.up r) ea_nil) fun vs H1 r ⟨v, rr, e, hv, er⟩ => ⟨v, l, n, by rw [e, er], hv, hl, rfl⟩
theorem ev_behind {l : List Tri} {n : Int} (h : Ev z te σ H (Dd z (paD l))) (h2 : Ev z ta σ H (Is (.int n))) (hl : l.length ≤ 30000) : Ev z (tCall spBehind [] E (tCons te (tCons ta tNil))) σ H (Dd z (plD (behindC l n))) :=
  ev_F (A := fun z H vs d => ∃ v l n, vs = [v, .int n] ∧ DU z.U H v (paD l) ∧ l.length ≤ 30000 ∧ d = plD (behindC l n)) (ea_cons h fun v H1 r _ => ea_is (h2.up r) ea_nil) fun vs H1 r ⟨v, rr, e, hv, er⟩ => ⟨v, l, n, by rw [e, er], hv, hl, rfl⟩
theorem ev_joined {l : List Tri} (h : Ev z te σ H (Dd z (plD l))) (hl : l.length ≤ 90000) : Ev z (tCall spJoin [] E (tCons te tNil)) σ H (Dd z (paD (joined l))) :=
  ev_F (A := fun z H vs d => ∃ v l, vs = [v] ∧ DU z.U H v (plD l) ∧ l.length ≤ 90000 ∧ d = paD (joined l)) (ea_cons h fun v H1 r _ => ea_nil) fun vs H1 r ⟨v, rr, e, hv, er⟩ => ⟨v, l, by rw [e, er], hv, hl, rfl⟩
theorem ev_spl {l more : List Tri} {n : Int} (h : Ev z ta σ H (Dd z (paD l))) (hm : Ev z tb σ H (Dd z (paD more))) (h2 : Ev z tc σ H (Is (.int n))) (hl : l.length ≤ 30000) (hl2 : more.length ≤ 30000) : Ev z (tCall spSpl [] E (tCons ta (tCons tb (tCons tc tNil)))) σ H (Dd z (paD (spl l more n))) :=
  ev_F (A := fun z H vs d => ∃ v m l more n, vs = [v, m, .int n] ∧ DU z.U H v (paD l) ∧ DU z.U H m (paD more) ∧ l.length ≤ 30000 ∧ more.length ≤ 30000 ∧ d = paD (spl l more n)) (ea_cons h fun v H1 r _ => ea_cons (hm.up r) fun v2 H2 r2 _ => ea_is (h2.up (r.tr r2)) ea_nil)
    fun vs H1 r ⟨v, rr, e, hv, v2, r2, e2, hv2, er⟩ => ⟨v, v2, l, more, n, by rw [e, e2, er], hv, hv2, hl, hl2, rfl⟩
theorem ev_shr {l : List Tri} {n : Int} (h : Ev z te σ H (Dd z (paD l))) (h2 : Ev z ta σ H (Is (.int n))) (hl : l.length ≤ 30000) : Ev z (tCall spShr [] E (tCons te (tCons ta tNil))) σ H (Dd z (paD (shr l n))) :=
  ev_F (A := fun z H vs d => ∃ v l n, vs = [v, .int n] ∧ DU z.U H v (paD l) ∧ l.length ≤ 30000 ∧ d = paD (shr l n)) (ea_cons h fun v H1 r _ => ea_is (h2.up r) ea_nil) fun vs H1 r ⟨v, rr, e, hv, er⟩ => ⟨v, l, n, by rw [e, er], hv, hl, rfl⟩
theorem lg_pa {l : List Tri} (h : l.length ≤ 30000) : Lg (paD l) := fun ds e => by
  cases e
  rw [List.length_map]
  omega
end
/-- a def with a default behind the * -/
structure Dq (K : PySem.W.Frag) (mg : Str → Option Value) (x : Str) (st : Stmt) (kws : List (Str × V)) where
  f : Addr
  fd : FuncData
  F : FunD K x x (defArgs st) (defBody st) (defScope st) [] kws f fd
  g : mg x = some (.ref f)
theorem Dq.kb {K : PySem.W.Frag} {mg : Str → Option Value} {x : Str} {st : Stmt} {kws : List (Str × V)} (d : Dq K mg x st kws) {ps ks : List Str} {n : Nat} {g : List Value → List Value → List Value} {gV : List V → List V → List V}
    (h : ∀ (kV doc pm : Value) (an : Option Addr) (cdv ct : Value) (us ws : List Value), us.length = n → ws.length = ks.length → bindArgs (PySem.W.fnOf x x (defArgs st) (defBody st) (defScope st) .none kV doc pm an cdv ct) ⟨us, ks.zip ws⟩ = pure (ps.zip (g us ws)))
    (hr : ∀ {vs zs : List V} {us ws : List Value}, Vals vs us → Vals zs ws → Vals (gV vs zs) (g us ws)) : KBn K d.fd ps n ks g gV := by
  obtain ⟨oc, od, dV, kV, doc, pm, an, cdv, ct, osl, hfd, lk, hcd, hD, hK⟩ := d.F.ex
  rcases hD with ⟨_, hD⟩ | ⟨hD, _⟩
  · refine ⟨fun s us ws _ h1 h2 => ?_, fun r r2 => hr r r2⟩
    rw [hfd, hD]
    exact .of_eq (h kV doc pm an cdv ct us ws h1 h2)
  · exact absurd rfl hD
end FB

set_option Elab.async false
set_option linter.all false
set_option maxRecDepth 100000
set_option maxHeartbeats 4000000
/-! FPc: lists of data read, cut, put together; drawn numbers; lists built in a zone. -/
namespace FB
open PySem PySem.Spec PyProof.Rows L2 RZ
theorem cut_to (xs : List V) (n : Nat) : cutV xs none (some (n : Int)) = xs.take n := by
  unfold cutV
  rw [HT.sIx_nat, HT.sIx_none, List.drop_zero, Nat.sub_zero]
  by_cases h : n ≤ xs.length
  · rw [Nat.min_eq_left h]
  · rw [Nat.min_eq_right (by omega), List.take_length, List.take_of_length_le (by omega)]
theorem cut_from (xs : List V) (n : Nat) : cutV xs (some (n : Int)) none = xs.drop n := by
  unfold cutV
  rw [HT.sIx_nat, HT.sIx_none]
  by_cases h : n ≤ xs.length
  · rw [Nat.min_eq_left h, List.take_of_length_le (by rw [List.length_drop]; omega)]
  · rw [Nat.min_eq_right (by omega), List.drop_length, List.take_nil, List.drop_eq_nil_of_le (by omega)]
theorem cut_mid (xs : List V) (a b : Nat) (h : b ≤ xs.length) : cutV xs (some (a : Int)) (some (b : Int)) = (xs.take b).drop a := by
  unfold cutV
  rw [HT.sIx_nat, HT.sIx_nat, Nat.min_eq_left h]
  by_cases h2 : a ≤ xs.length
  · rw [Nat.min_eq_left h2, List.drop_take]
  · rw [Nat.min_eq_right (by omega), List.drop_length, List.take_nil, List.drop_eq_nil_of_le (by rw [List.length_take]; omega)]
theorem eqv_int (i : Int) : PyData.eqv (.int i) (.int i) = true := by simp [PyData.eqv]
theorem eqv_tr (t : Tri) : PyData.eqv (trD t) (trD t) = true := by simp [trD, PyData.eqv, PyData.eqvAll]
theorem eqvAll_tr : ∀ l : List Tri, PyData.eqvAll (l.map trD) (l.map trD) = true
  | [] => by simp [PyData.eqvAll]
  | t :: r => by simp [PyData.eqvAll, eqv_tr t, eqvAll_tr r]
theorem eqv_pa (l : List Tri) : PyData.eqv (paD l) (paD l) = true := by
  simp only [paD, PyData.eqv]
  exact eqvAll_tr l
theorem eqv_nilL (ds : List PyData) : PyData.eqv (.list ds) (.list []) = ds.isEmpty := by
  cases ds <;> simp [PyData.eqv, PyData.eqvAll]
theorem lay_tr : ∀ l : List Tri, PyData.canLayAll0 (l.map trD) = true
  | [] => rfl
  | t :: r => by
    simp only [List.map_cons, PyData.canLayAll0, lay_tr r, trD, PyData.canLay0, Bool.and_self]
theorem dict_tr : ∀ l : List Tri, PyData.hasDictAll (l.map trD) = false
  | [] => rfl
  | t :: r => by simp [PyData.hasDictAll, dict_tr r, trD, PyData.hasDict]
theorem depth_tr : ∀ l : List Tri, PyData.depthAll (l.map trD) ≤ 1
  | [] => Nat.zero_le _
  | t :: r => by
    simp only [List.map_cons, PyData.depthAll]
    have := depth_tr r
    have h : (trD t).depth ≤ 1 := by simp [trD, PyData.depth, PyData.depthAll]
    omega
theorem shaped_pa (l : List Tri) : SeqAt.shaped (paD l) = true := by
  unfold SeqAt.shaped
  rw [Bool.and_eq_true]
  refine ⟨by simp only [paD, PyData.canLay0]; exact lay_tr l, decide_eq_true ?_⟩
  simp only [paD, PyData.depth]
  have := depth_tr l
  omega
theorem shaped_pl (l : List Tri) : SeqAt.shaped (plD l) = true := by
  unfold SeqAt.shaped
  rw [Bool.and_eq_true]
  refine ⟨by simp only [plD, PyData.canLay0]; exact lay_tr l, decide_eq_true ?_⟩
  simp only [plD, PyData.depth]
  have := depth_tr l
  omega
theorem nd_pa (l : List Tri) : (paD l).hasDict = false := by
  simp only [paD, PyData.hasDict]
  exact dict_tr l
theorem nd_pl (l : List Tri) : (plD l).hasDict = false := by
  simp only [plD, PyData.hasDict]
  exact dict_tr l
section
variable {z : Zn} {K : PySem.W.Frag} {σ : L2.St} {H H' H'' : Hp} {te ta tb tc to : TE} {E : XK} {D : Ends} {ts tu : TS} {ds es : List PyData} {p : Addr}
theorem ev_neD {d e : PyData} (ha : Ev z ta σ H (Dd z d)) (hb : ∀ H1, z.R H H1 → Ev z tb σ H1 (Dd z e)) (h1 : d.hasDict = false) (h2 : e.hasDict = false) (s1 : SeqAt.shaped d = true) (s2 : SeqAt.shaped e = true) : Ev z (tOp (rNeD K) ta tb) σ H (Is (.bl (!PyData.eqv d e))) :=
  ev_op ha (fun _ H1 r _ => hb H1 r) fun x y H1 r hx hy => rn_val r.dr (fun Q k => ⟨d, e, DU.dp hx h1, DU.dp hy h2, s1, s2, k⟩) fun _ _ => rfl
theorem ev_eqP {l : List Tri} (ha : Ev z ta σ H (Dd z (paD l))) (hb : ∀ H1, z.R H H1 → Ev z tb σ H1 (Dd z (paD l))) : Ev z (tOp (rEqD K) ta tb) σ H (Is (.bl true)) :=
  ev_to (ev_eqD ha hb (nd_pa l) (nd_pa l) (shaped_pa l) (shaped_pa l)) (by rw [eqv_pa])
theorem ev_neP {l : List Tri} (ha : Ev z ta σ H (Dd z (paD l))) (hb : ∀ H1, z.R H H1 → Ev z tb σ H1 (Dd z (paD l))) : Ev z (tOp (rNeD K) ta tb) σ H (Is (.bl false)) :=
  ev_to (ev_neD ha hb (nd_pa l) (nd_pa l) (shaped_pa l) (shaped_pa l)) (by rw [eqv_pa]; rfl)
theorem ev_neNil {l : List Tri} (ha : Ev z ta σ H (Dd z (plD l))) : Ev z (tOp (rNeD K) ta (tLst tNil)) σ H (Is (.bl (!l.isEmpty))) :=
  ev_to (ev_neD (e := .list []) ha (fun H1 r => (ev_lst ea_nil fun vs H' e => by rw [e]; exact Nat.zero_le _).imp fun v H' _ ⟨p, ws, e, nu, hp, ew⟩ => by rw [e]; exact .lst nu hp (by rw [ew]; exact .nil)) (nd_pl l) rfl (shaped_pl l) (by decide)) (by
    unfold plD
    rw [eqv_nilL]
    cases l <;> rfl)
theorem ev_lenD (h : Ev z te σ H (Dd z (.list ds))) : Ev z (tCB (fun xs H Q => ∃ y n, xs = [y] ∧ LenV K y H n ∧ Q (.int n) H) (tCons te tNil)) σ H (Is (.int (ds.length : Int))) := fun H1 e Q q =>
  h H1 e _ fun v H2 e2 f => by
    obtain ⟨a, vs, rfl, nu, ha, hd⟩ := DU.lstAt (f H2 .refl)
    refine ⟨_, vs.length, rfl, Or.inl ⟨vs, .inl (.inl ha), rfl⟩, ?_⟩
    rw [hd.len]
    exact q _ H2 e2 fun _ _ => rfl
theorem ev_slD {tl th : TO} {lo hi : Option Int} {es : List PyData} (h : Ev z te σ H (Dd z (.list ds))) (h1 : EvO z tl σ H (· = lo)) (h2 : EvO z th σ H (· = hi)) (hc : ∀ {U : Addr → Prop} {H' : Hp} {vs : List V}, DUA U H' vs ds → DUA U H' (cutV vs lo hi) es) : Ev z (L2.tSl (rSlL K) te tl th) σ H (Dd z (.list es)) :=
  ev_sl h h1 h2 fun v H1 r f Q q => by
    obtain ⟨a, vs, rfl, nu, ha, hd⟩ := DU.lstAt f
    exact ⟨a, vs, rfl, .inl (.inl ha), fun p hp => q _ _ (r.dr.new hp) fun H3 w => .lst (r.dr.nu hp) (w p _ (r.dr.nu hp) upd_same) ((hc hd).w (z := z) (H := H1) ((r.dr.new hp).w.tr w))⟩
theorem ev_slTo {th : TE} {n : Nat} (h : Ev z te σ H (Dd z (.list ds))) (h2 : Ev z th σ H (Is (.int (n : Int)))) : Ev z (L2.tSl (rSlL K) te tNoPart (tPart th)) σ H (Dd z (.list (ds.take n))) :=
  ev_slD h eo_none (eo_some h2) fun hd => by rw [cut_to]; exact hd.take _
theorem ev_slFrom {tl : TE} {n : Nat} (h : Ev z te σ H (Dd z (.list ds))) (h2 : Ev z tl σ H (Is (.int (n : Int)))) : Ev z (L2.tSl (rSlL K) te (tPart tl) tNoPart) σ H (Dd z (.list (ds.drop n))) :=
  ev_slD h (eo_some h2) eo_none fun hd => by rw [cut_from]; exact hd.drop _
theorem ev_slMid {tl th : TE} {a b : Nat} (h : Ev z te σ H (Dd z (.list ds))) (h1 : Ev z tl σ H (Is (.int (a : Int)))) (h2 : Ev z th σ H (Is (.int (b : Int)))) (hb : b ≤ ds.length) : Ev z (L2.tSl (rSlL K) te (tPart tl) (tPart th)) σ H (Dd z (.list ((ds.take b).drop a))) :=
  ev_slD h (eo_some h1) (eo_some h2) fun hd => by rw [cut_mid _ _ _ (by rw [hd.len]; exact hb)]; exact (hd.take _).drop _
theorem ev_catD (ha : Ev z ta σ H (Dd z (.list ds))) (hb : ∀ H1, z.R H H1 → Ev z tb σ H1 (Dd z (.list es))) (hn : ds.length + es.length ≤ 100000) : Ev z (tOp rCat ta tb) σ H (Dd z (.list (ds ++ es))) :=
  ev_op ha (fun _ H1 r _ => hb H1 r) fun x y H1 r hx hy Q q => by
    obtain ⟨p, ws, e1, n1, h1, d1⟩ := DU.lstAt hx
    obtain ⟨p', ws', e2, n2, h2, d2⟩ := DU.lstAt hy
    exact ⟨p, p', _, _, e1, e2, h1, h2, Nat.le_trans (show ws.length + ws'.length ≤ 100000 by rw [d1.len, d2.len]; exact hn) (by decide), fun d hd => q _ _ (r.dr.new hd) fun H3 w =>
      .lst (r.dr.nu hd) (w d _ (r.dr.nu hd) upd_same) (((d1.w (z := z) (r.dr.new hd).w).w w).app ((d2.w (z := z) (r.dr.new hd).w).w w))⟩
theorem ev_trI {t : Tri} {k : Nat} {i : Int} (h : Ev z te σ H (Dd z (trD t))) (hk : ([.int t.1, .int t.2.1, .int t.2.2] : List V)[k]? = some (.int i)) : Ev z (tOp (rIxT K) te (tC (.int (k : Int)))) σ H (Is (.int i)) :=
  ev_op h (fun _ _ _ _ => ev_k) fun x y H1 r hx hy => by
    obtain ⟨a, rfl, nu, ha⟩ := tr_at hx
    have hy' : y = .int (k : Int) := hy
    subst hy'
    exact rn_val r.dr (fun Q q => ⟨a, _, (k : Int), .int i, rfl, rfl, .inl (.inl ha), atI_nat hk, q⟩) fun _ _ => rfl
theorem Bl.upR (b : Bl z p H H' ds) (hn : H p = none) (hz : z.R H H) (r : z.R H' H'') : (z.add p).R H' H'' := by
  obtain ⟨vs, hv, _⟩ := b.b
  exact r.up (by rw [hv]; simp) (by rw [r.kp p _ (hz.ni hn) hv]; simp)
theorem Bl.goZ (b : Bl z p H H' ds) (hn : H p = none) (hz : z.R H H) (r : z.R H' H'') : Bl z p H H'' ds := b.go hn hz (b.upR hn hz r)
theorem ev_lastZ {d : PyData} {ti : TE} (b : Bl z p H H' (ds ++ [d])) (hn : H p = none) (hz : z.R H H) (ho : Ev z to σ H' (Is (.ref p))) (hi : Ev z ti σ H' (Is (.int (-1)))) : Ev z (tOp (rIxL K) to ti) σ H' (Dd z d) :=
  ev_op2 ho hi fun H1 r1 => by
    obtain ⟨vs, hv, hd⟩ := (b.goZ hn hz r1).b
    have hlen := hd.len
    rw [List.length_append, List.length_cons, List.length_nil] at hlen
    have hw : vs[vs.length - 1]? = some (vs[vs.length - 1]'(by omega)) := List.getElem?_eq_getElem _
    obtain ⟨d', hd', dv⟩ := hd.at hw
    have e : d' = d := by
      rw [show vs.length - 1 = ds.length by omega, List.getElem?_append_right (Nat.le_refl _), Nat.sub_self] at hd'
      exact (Option.some.inj hd').symm
    subst e
    refine rn_val r1.dr (fun Q q => ⟨p, vs, -1, _, rfl, rfl, .inl (.inl hv), ?_, q⟩) fun H2 w => dv.sub.w w
    unfold atI ixN
    rw [if_neg (by decide), if_pos (by omega), show (-1 + (vs.length : Int)).toNat = vs.length - 1 by omega]
    exact hw
theorem ev_neg1 : Ev z (tUn (rU fun i => .int (-i)) (tC (.int 1))) σ H (Is (.int (-1))) := ev_un ev_k fun x H1 r1 e1 => by
  have e1' : x = .int 1 := e1
  subst e1'
  exact rn_val r1.dr (fun Q q => ⟨1, rfl, q⟩) fun _ _ => rfl
/-- the list itself, read -/
theorem ev_own {i : Nat} (b : Bl z p H H' ds) (hn : H p = none) (hz : z.R H H) (e : σ[i]? = some (some (.ref p))) : Ev z (tVar i) σ H' (Dd z (.list ds)) := ev_var e fun _ w => (b.list hn hz).w w
/-- x.append(e), e known by a property -/
theorem bl_appP {Pd : PyData → Prop} (b : Bl z p H H' ds) (hn : H p = none) (hz : z.R H H) (ho : Ev (z.add p) to σ H' (Is (.ref p))) (h : ∀ H1, (z.add p).R H' H1 → Ev (z.add p) te σ H1 (Ds (z.add p) Pd)) (hl : ds.length ≤ 100000)
    (k : ∀ d H'', Pd d → (z.add p).W H' H'' → Bl z p H H'' (ds ++ [d]) → D.nx σ H'') : tDrop (tBM K "list" rAppend to (tCons te tNil)) D σ H' := by
  obtain ⟨vs, hv, hd⟩ := b.b
  have hlen := hd.len
  refine s_app (z := z.add p) (φ := Ds (z.add p) Pd) b.rz ho h (hz.ni hn) hv (by omega) fun v H1 r1 f1 => ?_
  have wu : (z.add p).W H1 (upd H1 p (.lst (vs ++ [v]))) := fun a o na ha => by
    rw [upd_ne fun ea => na (Or.inr ea)]
    exact ha
  obtain ⟨d, hP, hv'⟩ := f1 _ wu
  exact k d _ hP (r1.w.tr wu) ⟨(b.r.tr r1.dn).mut hn, (b.w.tr r1.w).tr wu, vs ++ [v], upd_same, ((hd.w r1.w).w wu).app (.one hv')⟩
/-- x.extend(e), e a list -/
theorem bl_ext (b : Bl z p H H' ds) (hn : H p = none) (hz : z.R H H) (ho : Ev (z.add p) to σ H' (Is (.ref p))) (h : ∀ H1, (z.add p).R H' H1 → Ev (z.add p) te σ H1 (Dd (z.add p) (.list es))) (hl : ds.length + es.length ≤ 100000)
    (k : ∀ H'', (z.add p).W H' H'' → Bl z p H H'' (ds ++ es) → D.nx σ H'') : tDrop (tBM K "list" rExtend to (tCons te tNil)) D σ H' := by
  refine ho H' b.rz _ fun v1 H1 r1 f1 => ?_
  have e1 : v1 = .ref p := f1 H1 .refl
  subst e1
  obtain ⟨vs1, hv1, hd1⟩ := (b.go hn hz r1).b
  refine ⟨.inl ⟨rfl, vs1, .inl (.inl hv1)⟩, h H1 r1 H1 r1.dr _ fun v2 H2 r2 f2 => ?_⟩
  have b2 := b.go hn hz (r1.tr r2)
  obtain ⟨vs, hv, hd⟩ := b2.b
  obtain ⟨a, ws, rfl, nu, ha, hw⟩ := DU.lstAt (f2 H2 .refl)
  have wu : (z.add p).W H2 (upd H2 p (.lst (vs ++ ws))) := fun a o na ha => by
    rw [upd_ne fun ea => na (Or.inr ea)]
    exact ha
  refine ⟨p, a, vs, ws, rfl, rfl, hv, ha, Nat.le_trans (show vs.length + ws.length ≤ 100000 by rw [hd.len, hw.len]; exact hl) (by decide), ?_⟩
  exact k _ ((r1.tr r2).w.tr wu) ⟨b2.r.mut hn, b2.w.tr wu, vs ++ ws, upd_same, (hd.w wu).app (hw.w wu)⟩
/-- for i in range(a drawn number) -/
theorem s_forRD {j N : Nat} {tn : TA} (hR : z.R H H) (h : EvA z tn σ H (fun vs _ => ∃ n : Nat, vs = [.int (n : Int)] ∧ n < N)) (hN : N ≤ 1000000) (Pv : Nat → L2.St → Hp → Prop) (h0 : ∀ H1, z.R H H1 → Pv 0 σ H1)
    (hs : ∀ (i : Nat) σ' H', i < N → Pv i σ' H' → ts { D with nx := Pv (i + 1), ct := Pv (i + 1), bk := D.nx } (σ'.set j (some (.int (i : Int)))) H') (hd : ∀ n σ' H', n < N → Pv n σ' H' → D.nx σ' H') : tFor (iRng1 tn) (gName j) ts D σ H :=
  h H hR _ fun vs H1 e f => by
    obtain ⟨n, e2, hn⟩ := f H1 .refl
    exact ⟨(n : Int), e2, by omega, by omega, for_range (lo := 0) (n := n) Pv (h0 H1 e) (fun i σ' H' hi q => by
      show ts _ (σ'.set j (some (.int (0 + (i : Int))))) H'
      rw [Int.zero_add]
      exact hs i σ' H' (by omega) q) fun σ' H' q => hd n σ' H' hn q⟩
theorem q_forRD {j N : Nat} {tn : TA} (hR : z.R H H) (h : EvA z tn σ H (fun vs _ => ∃ n : Nat, vs = [.int (n : Int)] ∧ n < N)) (hN : N ≤ 1000000) (Pv : Nat → L2.St → Hp → Prop) (h0 : ∀ H1, z.R H H1 → Pv 0 σ H1)
    (hs : ∀ (i : Nat) σ' H', i < N → Pv i σ' H' → ts { D with nx := Pv (i + 1), ct := Pv (i + 1), bk := tu D } (σ'.set j (some (.int (i : Int)))) H') (hd : ∀ n σ' H', n < N → Pv n σ' H' → tu D σ' H') : tSeq (tFor (iRng1 tn) (gName j) ts) tu D σ H :=
  s_forRD (D := { D with nx := tu D }) hR h hN Pv h0 hs hd
/-- x, y = [], e -/
theorem q_newPar {i j : Nat} {φ : VP} (hz : z.R H H) (h : ∀ p, H p = none → Ev (z.add p) te σ (upd H p (.lst [])) φ) (k : ∀ p v H1, H p = none → Bl z p H H1 [] → (∀ H2, (z.add p).W H1 H2 → φ v H2) → tu D ((σ.set i (some (.ref p))).set j (some v)) H1) :
    tSeq (tPar i j (tCons (tLst tNil) (tCons te tNil))) tu D σ H :=
  ⟨Nat.zero_le _, fun p hp => by
    have b : Bl z p H (upd H p (.lst [])) [] := ⟨hz.new hp, .refl, [], upd_same, .nil⟩
    exact h p hp _ b.rz _ fun v H1 r f => ⟨.ref p, v, rfl, k p v H1 hp (b.go hp hz r) f⟩⟩
/-- a draw below a drawn number -/
theorem ev_takeU {u : Addr} {N : Nat} {tn : TE} (hu : z.I u = some IsPur) (h1 : Ev z te σ H (Is (.ref u))) (h2 : ∀ H1, z.R H H1 → Ev z tn σ H1 (fun v _ => ∃ n : Nat, v = .int (n : Int) ∧ 0 < n ∧ n ≤ N)) (hN : N ≤ 1000000) : Ev z (tCall spTake [] E (tCons te (tCons tn tNil))) σ H (Nn N) :=
  ev_call (ea_cons h1 fun v H1 r _ => ea_cons (h2 H1 r) fun v H1 r _ => ea_nil) fun vs H1 r ⟨v, r1, e1, e2, v2, r2, e3, ⟨n, e4, h0, hn⟩, e5⟩ Q q => by
    have e2' : v = .ref u := e2
    subst e2'
    subst e4
    subst e5
    subst e3
    subst e1
    exact ⟨z, u, n, rfl, r.dr, hu, h0, by omega, fun i H' hi r' => q _ H' r' fun _ _ => ⟨i, rfl, by omega⟩⟩
/-- a known number and a drawn one -/
theorem ev_iN {g : Int → Int → V} {a : Int} {n : Nat} (ha : Ev z ta σ H (Is (.int a))) (hb : ∀ H1, z.R H H1 → Ev z tb σ H1 (Nn n)) : Ev z (tOp (rI0 g) ta tb) σ H (fun v _ => ∃ k : Nat, k < n ∧ v = g a (k : Int)) :=
  ev_op ha (fun _ H1 r _ => hb H1 r) fun x y H1 r e ⟨k, e2, hk⟩ => by
    have e' : x = .int a := e
    subst e'
    subst e2
    exact rn_val r.dr (fun Q q => ⟨a, (k : Int), rfl, rfl, q⟩) fun _ _ => ⟨k, hk, rfl⟩
end
section
variable {z : Zn} {σ : L2.St} {H : Hp} {D : Ends}
/-- x, y = two known values -/
theorem s_par2 {i j : Nat} {ta : TA} {a b : V} (hR : z.R H H) (h : EvA z ta σ H (fun vs _ => vs = [a, b])) (k : ∀ H1, z.R H H1 → D.nx ((σ.set i (some a)).set j (some b)) H1) : tPar i j ta D σ H :=
  h H hR _ fun vs H1 e f => ⟨a, b, f H1 .refl, k H1 e⟩
end
end FB

set_option Elab.async false
set_option linter.all false
set_option maxRecDepth 100000
set_option maxHeartbeats 4000000
/-! FPd: puts and cuts by cells; calls of put, cut, length. -/
namespace FB
open PySem PySem.Spec PyProof.Rows L2 RZ
theorem eachT_split {t : Tri} {a : Int} (h0 : 0 ≤ a) (h1 : a < t.2.2) : eachT t = eachT (t.1, t.2.1, a) ++ eachT (t.1, t.2.1 + a, t.2.2 - a) := by
  have e1 := eachT_take t a h0
  rw [if_pos h1] at e1
  rw [← e1, ← eachT_drop t a h0 h1, List.take_append_drop]
/-- the cells with others from a place on -/
def laid (R N : List Cel) (a : Nat) : List Cel := R.take a ++ (N ++ R.drop (a + N.length))
theorem spl_laid {l m : List Tri} {a : Nat} (h : okL l) (hm : okL m) : spl l m (a : Int) = runs (laid (each l) (each m) a) := by
  rw [spl_runs h hm (by omega), Int.toNat_natCast]
  rfl
theorem shr_laid {l : List Tri} {a : Nat} (h : okL l) : shr l (a : Int) = runs ((each l).take a) := by
  rw [shr_runs h, Int.toNat_natCast]
theorem okC_take {cs : List Cel} (h : okC cs) (n : Nat) : okC (cs.take n) := fun c hc => h c (List.mem_of_mem_take hc)
theorem okC_drop {cs : List Cel} (h : okC cs) (n : Nat) : okC (cs.drop n) := fun c hc => h c (List.mem_of_mem_drop hc)
theorem okC_app {a b : List Cel} (h : okC a) (h' : okC b) : okC (a ++ b) := fun c hc => (List.mem_append.mp hc).elim (h c) (h' c)
theorem okC_laid {R N : List Cel} {a : Nat} (h : okC R) (h' : okC N) : okC (laid R N a) := okC_app (okC_take h a) (okC_app h' (okC_drop h _))
theorem laid_len {R N : List Cel} {a : Nat} (h : a ≤ R.length) : (laid R N a).length = max R.length (a + N.length) := by
  unfold laid
  rw [List.length_append, List.length_append, List.length_take, List.length_drop]
  omega
theorem laid_take {R N : List Cel} {a : Nat} (h : a ≤ R.length) (b : Nat) (hb : b ≤ N.length) : (laid R N a).take (a + b) = R.take a ++ N.take b := by
  unfold laid
  have h1 : (R.take a).length = a := by rw [List.length_take]; omega
  rw [List.take_append, h1, List.take_of_length_le (by omega), Nat.add_sub_cancel_left, List.take_append_of_le_length hb]
theorem laid_drop {R N : List Cel} {a : Nat} (h : a ≤ R.length) (k : Nat) : (laid R N a).drop (a + N.length + k) = R.drop (a + N.length + k) := by
  unfold laid
  have h1 : (R.take a).length = a := by rw [List.length_take]; omega
  rw [List.drop_append, h1, List.drop_eq_nil_of_le (by omega), List.nil_append, show a + N.length + k - a = N.length + k by omega, List.drop_append, List.drop_eq_nil_of_le (by omega), List.nil_append, Nat.add_sub_cancel_left, List.drop_drop]
/-- two puts one behind the other -/
theorem laid_two {R N : List Cel} {a b : Nat} (h : a ≤ R.length) (hb : b ≤ N.length) : laid (laid R (N.take b) a) (N.drop b) (a + b) = laid R N a := by
  have hl : (N.take b).length = b := by rw [List.length_take]; omega
  have e1 := laid_take (N := N.take b) h b (by omega)
  rw [List.take_take, Nat.min_self] at e1
  have e2 := laid_drop (N := N.take b) h (N.length - b)
  rw [hl] at e2
  show (laid R (N.take b) a).take (a + b) ++ (N.drop b ++ (laid R (N.take b) a).drop (a + b + (N.drop b).length)) = _
  rw [e1, List.length_drop, e2]
  show (R.take a ++ N.take b) ++ (N.drop b ++ R.drop (a + b + (N.length - b))) = R.take a ++ (N ++ R.drop (a + N.length))
  rw [List.append_assoc, ← List.append_assoc (N.take b), List.take_append_drop, show a + b + (N.length - b) = a + N.length by omega]
/-- of two puts of as many cells the last one -/
theorem laid_over {R N O : List Cel} {a : Nat} (h : a ≤ R.length) (ho : O.length = N.length) : laid (laid R O a) N a = laid R N a := by
  have e1 := laid_take (N := O) h 0 (Nat.zero_le _)
  rw [Nat.add_zero, List.take_zero, List.append_nil] at e1
  have e2 := laid_drop (N := O) h 0
  rw [Nat.add_zero, ho] at e2
  show (laid R O a).take a ++ (N ++ (laid R O a).drop (a + N.length)) = _
  rw [e1, e2]
  rfl
theorem laid_end {R N : List Cel} : laid R N R.length = R ++ N := by
  unfold laid
  rw [List.take_length, List.drop_eq_nil_of_le (by omega), List.append_nil]
theorem laid_self {R : List Cel} {a b : Nat} (h : a ≤ b) (hb : b ≤ R.length) : laid R ((R.take b).drop a) a = R := by
  unfold laid
  have hl : ((R.take b).drop a).length = b - a := by rw [List.length_drop, List.length_take]; omega
  rw [hl, show a + (b - a) = b by omega]
  have e : R.take a ++ (R.take b).drop a = R.take b := by
    have : R.take a = (R.take b).take a := by rw [List.take_take, Nat.min_eq_left h]
    rw [this, List.take_append_drop]
  rw [← List.append_assoc, e, List.take_append_drop]
theorem laid_nil {R : List Cel} : laid R [] R.length = R := by rw [laid_end, List.append_nil]
theorem okL_nil : okL [] := fun t ht => by cases ht
section
variable {z : Zn} {K : PySem.W.Frag} {σ : L2.St} {H : Hp} {te ta tb tc : TE} {E : XK} {l m : List Tri}
theorem ev_put2 (ha : Ev z ta σ H (Dd z (paD l))) (hb : ∀ H1, z.R H H1 → Ev z tb σ H1 (Dd z (paD m))) (hl : l.length ≤ 30000) (hm : m.length ≤ 30000) (ho : okL l) (ho2 : okL m) : Ev z (tCall spPut [.non] E (tCons ta (tCons tb tNil))) σ H (Dd z (paD (runs (each l ++ each m)))) :=
  ev_call (ea_cons ha fun v H1 r _ => ea_cons (hb H1 r) fun v H1 r _ => ea_nil) fun vs H1 r ⟨v, rr, e, hv, v2, r2, e2, hv2, er⟩ Q q =>
    ⟨z, _, r.dr, ⟨v, v2, .non, l, m, tot l, by rw [e, e2, er]; rfl, hv, hv2, hl, hm, ho, ho2, .inl ⟨rfl, rfl⟩, rfl⟩, fun v' H' r' g => q v' H' r' (by
      rw [tot_len ho, spl_laid ho ho2, laid_end] at g
      exact g)⟩
theorem ev_putK {a : Nat} (ha : Ev z ta σ H (Dd z (paD l))) (hb : ∀ H1, z.R H H1 → Ev z tb σ H1 (Dd z (paD m))) (hc : ∀ H1, z.R H H1 → Ev z tc σ H1 (Is (.int (a : Int)))) (hl : l.length ≤ 30000) (hm : m.length ≤ 30000) (ho : okL l) (ho2 : okL m) (hle : a ≤ (each l).length) :
    Ev z (tCallN 2 1 spPut (fun us ws => us ++ ws) E (tCons ta (tCons tb tNil)) (tCons tc tNil)) σ H (Dd z (paD (runs (laid (each l) (each m) a)))) :=
  ev_callN (Φ := fun vs H' => ∃ v v2, vs = [v, v2] ∧ DU z.U H' v (paD l) ∧ DU z.U H' v2 (paD m)) (Ψ := fun us _ => us = [.int (a : Int)]) ((ea_cons ha fun v H1 r _ => ea_cons (hb H1 r) fun v H1 r _ => ea_nil).imp fun vs H' _ ⟨v, rr, e, hv, v2, r2, e2, hv2, er⟩ => ⟨v, v2, by rw [e, e2, er], hv, hv2⟩) (fun vs H1 r _ => ea_is (hc H1 r) ea_nil)
    fun vs zs H1 r ⟨v, v2, e1, hv, hv2⟩ e2 => by
      subst e1
      subst e2
      refine ⟨rfl, rfl, fun Q q => ⟨z, _, r.dr, ⟨v, v2, .int (a : Int), l, m, (a : Int), rfl, hv, hv2, hl, hm, ho, ho2, .inr ⟨rfl, by omega, by rw [tot_len ho]; omega⟩, rfl⟩, fun v' H' r' g => q v' H' r' (by
        rw [spl_laid ho ho2] at g
        exact g)⟩⟩
theorem ev_cut {a : Nat} (ha : Ev z ta σ H (Dd z (paD l))) (hb : ∀ H1, z.R H H1 → Ev z tb σ H1 (Is (.int (a : Int)))) (hl : l.length ≤ 30000) (ho : okL l) (hle : a ≤ (each l).length) : Ev z (tCall spCut [] E (tCons ta (tCons tb tNil))) σ H (Dd z (paD (runs ((each l).take a)))) :=
  ev_call (ea_cons ha fun v H1 r _ => ea_is (hb H1 r) ea_nil) fun vs H1 r ⟨v, rr, e, hv, er⟩ Q q =>
    ⟨z, _, r.dr, ⟨v, l, (a : Int), by rw [e, er]; rfl, hv, hl, ho, by omega, by rw [tot_len ho]; omega, rfl⟩, fun v' H' r' g => q v' H' r' (by
      rw [shr_laid ho] at g
      exact g)⟩
theorem ev_length (ha : Ev z ta σ H (Dd z (paD l))) (hl : l.length ≤ 30000) (ho : okL l) : Ev z (tCall spLen [] E (tCons ta tNil)) σ H (Is (.int ((each l).length : Int))) :=
  ev_int (ev_to' (ev_F (A := fun z H vs d => ∃ v l, vs = [v] ∧ DU z.U H v (paD l) ∧ l.length ≤ 30000 ∧ okL l ∧ d = .int (tot l)) (ea_cons ha fun v H1 r _ => ea_nil) fun vs H1 r ⟨v, rr, e, hv, er⟩ => ⟨v, l, by rw [e, er], hv, hl, ho, rfl⟩) (by rw [tot_len ho]))
where
  ev_to' {z : Zn} {te : TE} {σ : L2.St} {H : Hp} {d e : PyData} (h : Ev z te σ H (Dd z d)) (q : d = e) : Ev z te σ H (Dd z e) := q ▸ h
theorem ev_paNil : Ev z (tTup tNil) σ H (Dd z (paD [])) := (ev_tup ea_nil fun vs H' e => by rw [e]; exact Nat.zero_le _).imp fun v H' _ ⟨p, ws, e, nu, hp, ew⟩ => by
  rw [e]
  exact .tup nu hp (by rw [ew]; exact .nil)
end
end FB

set_option Elab.async false
set_option linter.all false
set_option maxRecDepth 100000
set_option maxHeartbeats 4000000
/-! FPe: a store of cells, a dict from whole numbers to tuples of ints. -/
namespace FB
open PySem PySem.Spec PyProof.Rows L2 RZ
theorem lt1 {n : Nat} (h : n + 64 < cLine) : n + 1 < cLine := by omega
/-- a list grows by a tuple's items, whatever else the tuple holds -/
theorem list_ext_tup (l : Addr) (items : Array Value) (n : Nat) (b : Addr) (items2 : Array Value) (n2 : Nat) (dd : Option Addr) (sl : Array (Option Value)) (hs0 : ¬(!items.isEmpty && Builtin.List.listTooLong (items.size + items2.size)) = true) (hs1 : items.size ≤ sizeLine) (hs2 : items.size + items2.size ≤ sizeLine + 1) :
    Meets (Builtin.«list.extend» ⟨[.ref l, .ref b], []⟩) (fun _ R s => s.heap.get? l = some { cls := .type "list", dict := none, data := .seq items n, slots := #[] } ∧ s.heap.get? b = some { cls := .type "tuple", dict := dd, data := .seq items2 n2, slots := sl } ∧ R (.ok (.ret Value.none)) { s with heap := s.heap.update l (Obj.mapSeq fun x => x ++ items2), toks := s.toks }) :=
  .of_wp fun prog w A R s h => by
    obtain ⟨hp, g, d, tk, os⟩ := s
    obtain ⟨hl, hb, h⟩ := h
    have f1 := PySem.AutoSeq1.idx_int
    have f2 := PySem.AutoSeq1.sub_tuple_tuple
    have f3 := PySem.AutoSeq1.sub_list_list
    have f4 := PySem.AutoSeq1.sub_tuple_list
    have f5 := PySem.AutoSeq1.sub_list_tuple
    have hz' : (items ++ items2).size ≤ sizeLine + 1 := by rw [Array.size_append]; exact hs2
    wp_walk using (wpAny_updateSeq hl rfl (hz := hs1) (_hz' := hz')), PySem.AutoSeq1.wpAny_loadPart' hl, PySem.AutoSeq1.wpAny_loadPart' hb
    exact ⟨_, rfl, h⟩
section
variable {X : Cx}
/-- x.extend(a tuple) -/
def rExtendT : V → List V → Hp → VK → Prop := fun x vs H Q => ∃ l b xs zs, x = .ref l ∧ vs = [.ref b] ∧ H l = some (.lst xs) ∧ H b = some (.tup zs) ∧ xs.length + zs.length ≤ sizeLine ∧ Q .non (upd H l (.lst (xs ++ zs)))
theorem mt_extendT : MtM X "list.extend" rExtendT := by
  intro pins s σ H x vs v us Q I rx rv h
  obtain ⟨l, b, xs, zs, rfl, rfl, hH, hB, hz, q⟩ := h
  cases rx
  obtain ⟨u, rfl, ru⟩ := rv.one
  cases ru
  obtain ⟨z, its, n, r, hl, e⟩ := I.lstM hH
  obtain ⟨its2, r2, ⟨ob, hg, hc, n2, hd⟩, hz2⟩ := I.tuple (.inl (.inl hB))
  obtain ⟨c, dd, dat, sl⟩ := ob
  have hc' : c = .type "tuple" := hc
  have hd' : dat = .seq its2.toArray n2 := hd
  subst hc'
  subst hd'
  have hsz : its.toArray.size + its2.toArray.size ≤ sizeLine := by rw [List.size_toArray, List.size_toArray, ← r.length, ← r2.length]; omega
  have hlong : ¬ (!its.toArray.isEmpty && Builtin.List.listTooLong (its.toArray.size + its2.toArray.size)) = true := by
    rw [notLongL hsz, Bool.and_false]
    exact Bool.false_ne_true
  refine call_meets PySem.F.slot_list_extend ⟨_, e, rfl⟩ PySem.F.entry_list_extend (PySem.F.args_list_extend_2 _ _)
    (list_ext_tup l its.toArray n b its2.toArray n2 dd sl hlong (by rw [List.size_toArray]; omega) (by omega)) ⟨e, hg, ?_⟩
  refine ⟨.non, _, I.lset (its' := its ++ its2) hH e (by simp) (r.append r2) ?_, rfl, q⟩
  rw [List.length_append]
  have := r.length
  have := r2.length
  omega
end
variable {K : PySem.W.Frag}
theorem k_revl {X : Cx} {e : Expr} {te : TE} (h : PE X e (tRevL X.K te)) (hk : X.K = K := by rfl) : PE X e (tRevL K te) := hk ▸ h
theorem k_dictP {X : Cx} (hc : X.calm = true := by rfl) (h : X.K = K := by rfl) : CallR X (.type "dict") (fun xs H Q => ∃ (a : Addr) (ps : List Addr) (kvs : List (Key × V)), xs = [.ref a] ∧ SqL K H a (ps.map V.ref) ∧ Paired (fun p kv => SqT K H p [kV kv.1, kv.2]) ps kvs ∧
    ∀ p, H p = none → Q (.ref p) (upd H p (.dK (mergeK [] kvs)))) := h ▸ call_dictP hc
/-! ### the store, pure -/
abbrev Sto := List (Int × List Int)
def tuD (ns : List Int) : PyData := .tuple (ns.map .int)
def tabG (T : Sto) (j : Int) : Option (List Int) := (T.find? fun t => decide (t.1 = j)).map (·.2)
def kvZ (T : Sto) (vs : List V) : List (Key × V) := List.zipWith (fun t v => ((.inl t.1 : Key), v)) T vs
def cVal (T : Sto) (c : Cel) : Int := ((tabG T c.1).getD []).getD c.2.toNat 0
def Has (T : Sto) (c : Cel) : Prop := ∃ ns, tabG T c.1 = some ns ∧ 0 ≤ c.2 ∧ c.2.toNat < ns.length
def Keys (T : Sto) : Prop := T.map (·.1) = (List.range T.length).map fun k : Nat => (k : Int) + 1
theorem tabG_pos {t : Int × List Int} {T : Sto} {j : Int} (e : t.1 = j) : tabG (t :: T) j = some t.2 := by simp [tabG, List.find?_cons, e]
theorem tabG_neg {t : Int × List Int} {T : Sto} {j : Int} (e : ¬ t.1 = j) : tabG (t :: T) j = tabG T j := by simp [tabG, List.find?_cons, e]
theorem tabG_app {S : Sto} {j : Int} {ns : List Int} : ∀ {T : Sto}, tabG T j = some ns → tabG (T ++ S) j = some ns
  | [], h => by cases h
  | t :: T, h => by
    rw [List.cons_append]
    by_cases e : t.1 = j
    · rw [tabG_pos e] at h ⊢
      exact h
    · rw [tabG_neg e] at h ⊢
      exact tabG_app h
theorem tabG_none {j : Int} : ∀ {T : Sto}, ¬ j ∈ T.map (·.1) → tabG T j = none
  | [], _ => rfl
  | t :: T, h => by
    rw [List.map_cons, List.mem_cons, not_or] at h
    rw [tabG_neg fun e => h.1 e.symm]
    exact tabG_none h.2
theorem tabG_snoc {j : Int} {ns : List Int} : ∀ {T : Sto}, tabG T j = none → tabG (T ++ [(j, ns)]) j = some ns
  | [], _ => tabG_pos rfl
  | t :: T, h => by
    rw [List.cons_append]
    by_cases e : t.1 = j
    · rw [tabG_pos e] at h
      cases h
    · rw [tabG_neg e] at h ⊢
      exact tabG_snoc h
theorem tabG_mem {j : Int} {ns : List Int} : ∀ {T : Sto}, tabG T j = some ns → (j, ns) ∈ T
  | [], h => by cases h
  | t :: T, h => by
    by_cases e : t.1 = j
    · rw [tabG_pos e] at h
      cases h
      rw [← e]
      exact List.mem_cons_self
    · rw [tabG_neg e] at h
      exact List.mem_cons_of_mem _ (tabG_mem h)
theorem tabG_of {j : Int} {ns : List Int} : ∀ {T : Sto}, (T.map (·.1)).Nodup → (j, ns) ∈ T → tabG T j = some ns
  | [], _, h => by cases h
  | t :: T, hn, h => by
    rw [List.map_cons, List.nodup_cons] at hn
    rcases List.mem_cons.mp h with e | h
    · rw [← e]
      exact tabG_pos rfl
    · rw [tabG_neg fun e => hn.1 (by rw [e]; exact List.mem_map.mpr ⟨_, h, rfl⟩)]
      exact tabG_of hn.2 h
theorem tabG_rev {T : Sto} (hn : (T.map (·.1)).Nodup) {j : Int} {ns : List Int} (h : tabG T j = some ns) : tabG T.reverse j = some ns :=
  tabG_of (by rw [List.map_reverse]; exact List.pairwise_reverse.mpr (hn.imp fun h e => h e.symm)) (List.mem_reverse.mpr (tabG_mem h))
theorem Has.ext {T S : Sto} {c : Cel} (k : ∀ j ns, tabG T j = some ns → tabG S j = some ns) (h : Has T c) : Has S c := let ⟨ns, h1, h2⟩ := h; ⟨ns, k _ _ h1, h2⟩
theorem cVal_ext {T S : Sto} {c : Cel} (k : ∀ j ns, tabG T j = some ns → tabG S j = some ns) (h : Has T c) : cVal S c = cVal T c := by
  obtain ⟨ns, h1, h2⟩ := h
  unfold cVal
  rw [h1, k _ _ h1]
theorem Keys.nd {T : Sto} (h : Keys T) : (T.map (·.1)).Nodup := by
  rw [h]
  exact (List.nodup_range).map _ fun a b e => by omega
theorem Keys.new {T : Sto} (h : Keys T) : tabG T ((T.length : Int) + 1) = none := tabG_none fun m => by
  rw [h] at m
  obtain ⟨k, hk, e⟩ := List.mem_map.mp m
  have := List.mem_range.mp hk
  omega
theorem Keys.snoc {T : Sto} (h : Keys T) (ns : List Int) : Keys (T ++ [((T.length : Int) + 1, ns)]) := by
  unfold Keys
  rw [List.map_append, h, List.length_append, List.length_cons, List.length_nil, List.range_succ, List.map_append]
  rfl
theorem Keys.nil : Keys [] := rfl
theorem part_le {T : Sto} {t : Tri} {ns : List Int} (hg : tabG T t.1 = some ns) (ht : okT t) (h : ∀ c ∈ eachT t, Has T c) : t.2.1 + t.2.2 ≤ (ns.length : Int) := by
  obtain ⟨_, h1, h2⟩ := ht
  have hm : (t.1, t.2.1 + (t.2.2 - 1)) ∈ eachT t := List.mem_map.mpr ⟨t.2.2.toNat - 1, List.mem_range.mpr (by omega), by
    congr 1
    omega⟩
  obtain ⟨ms, e, h3, h4⟩ := h _ hm
  have e' : tabG T t.1 = some ms := e
  rw [hg] at e'
  cases e'
  have h4' : (t.2.1 + (t.2.2 - 1)).toNat < ns.length := h4
  omega
theorem part_vals {T : Sto} {t : Tri} {ns : List Int} (hg : tabG T t.1 = some ns) (ht : okT t) (hl : t.2.1 + t.2.2 ≤ (ns.length : Int)) : (eachT t).map (cVal T) = (ns.take (t.2.1 + t.2.2).toNat).drop t.2.1.toNat := by
  obtain ⟨_, h1, h2⟩ := ht
  apply List.ext_getElem?
  intro i
  unfold eachT
  rw [List.map_map, List.getElem?_map, List.getElem?_drop, List.getElem?_take]
  by_cases hi : i < t.2.2.toNat
  · rw [List.getElem?_range hi, if_pos (by omega)]
    have hlt : t.2.1.toNat + i < ns.length := by omega
    rw [List.getElem?_eq_getElem hlt]
    show some (cVal T (t.1, t.2.1 + (i : Int))) = _
    congr 1
    unfold cVal
    rw [hg]
    show ns.getD (t.2.1 + (i : Int)).toNat 0 = _
    rw [show (t.2.1 + (i : Int)).toNat = t.2.1.toNat + i by omega, List.getD_eq_getElem?_getD, List.getElem?_eq_getElem hlt]
    rfl
  · rw [List.getElem?_eq_none (by rw [List.length_range]; omega), if_neg (by omega)]
    rfl
section
variable {U : Addr → Prop} {H : Hp}
theorem kv_get {j : Int} : ∀ {T : Sto} {vs : List V}, DUA U H vs (T.map fun t => tuD t.2) → ∀ {ns}, tabG T j = some ns → ∃ v, valV (kvZ T vs) (.inl j : Key) = some v ∧ DU U H v (tuD ns)
  | [], _, _, _, h => by cases h
  | t :: T, v :: vs, .cons hv hr, ns, h => by
    by_cases e : t.1 = j
    · rw [tabG_pos e] at h
      cases h
      exact ⟨v, valV_pos (p := ((.inl t.1 : Key), v)) (by rw [e]), hv⟩
    · rw [tabG_neg e] at h
      obtain ⟨w, hw, hd⟩ := kv_get hr h
      exact ⟨w, (valV_neg (p := ((.inl t.1 : Key), v)) (r := kvZ T vs) fun q => e (Sum.inl.inj q)).trans hw, hd⟩
theorem kv_none {j : Int} : ∀ {T : Sto} {vs : List V}, tabG T j = none → valV (kvZ T vs) (.inl j : Key) = none
  | [], _, _ => rfl
  | t :: T, [], _ => rfl
  | t :: T, v :: vs, h => by
    by_cases e : t.1 = j
    · rw [tabG_pos e] at h
      cases h
    · rw [tabG_neg e] at h
      exact (valV_neg (p := ((.inl t.1 : Key), v)) (r := kvZ T vs) fun q => e (Sum.inl.inj q)).trans (kv_none h)
theorem kv_snoc {j : Int} {ns : List Int} {v : V} : ∀ {T : Sto} {vs : List V}, vs.length = T.length → kvZ T vs ++ [(.inl j, v)] = kvZ (T ++ [(j, ns)]) (vs ++ [v])
  | [], [], _ => rfl
  | t :: T, w :: vs, h => congrArg (((.inl t.1 : Key), w) :: ·) (kv_snoc (by simpa using h))
  | [], _ :: _, h => by simp at h
  | _ :: _, [], h => by simp at h
theorem kvz_keys : ∀ {T : Sto} {vs : List V}, vs.length = T.length → ((kvZ T vs).map fun kv => kV kv.1) = T.map fun t => V.int t.1
  | [], [], _ => rfl
  | t :: T, w :: vs, h => congrArg (V.int t.1 :: ·) (kvz_keys (by simpa using h))
  | [], _ :: _, h => by simp at h
  | _ :: _, [], h => by simp at h
theorem kv_fst : ∀ {T : Sto} {vs : List V}, vs.length = T.length → (kvZ T vs).map (·.1) = T.map fun t => (.inl t.1 : Key)
  | [], [], _ => rfl
  | t :: T, w :: vs, h => congrArg ((.inl t.1 : Key) :: ·) (kv_fst (by simpa using h))
  | [], _ :: _, h => by simp at h
  | _ :: _, [], h => by simp at h
theorem kv_len {T : Sto} {vs : List V} (h : vs.length = T.length) : (kvZ T vs).length = T.length := by
  unfold kvZ
  rw [List.length_zipWith, h, Nat.min_self]
theorem valV_absent {kvs : List (Key × V)} {k : Key} (h : ¬ k ∈ kvs.map (·.1)) : valV kvs k = none := by
  cases e : valV kvs k with
  | none => rfl
  | some v => exact absurd (valV_in e) h
theorem merge_nd : ∀ {more acc : List (Key × V)}, ((acc ++ more).map (·.1)).Nodup → mergeK acc more = acc ++ more
  | [], acc, _ => (List.append_nil acc).symm
  | p :: r, acc, h => by
    have hp : ¬ p.1 ∈ acc.map (·.1) := fun m => by
      rw [List.map_append, List.nodup_append] at h
      exact h.2.2 _ m _ List.mem_cons_self rfl
    show mergeK (putK acc p.1 p.2) r = _
    rw [putK_new p.2 (valV_absent hp), merge_nd (by rw [List.append_assoc]; exact h), List.append_assoc]
    rfl
theorem kv_merge {T : Sto} {vs : List V} (h : vs.length = T.length) (hn : (T.map (·.1)).Nodup) : mergeK [] (kvZ T vs) = kvZ T vs := by
  rw [merge_nd]
  · rfl
  · rw [List.nil_append, kv_fst h]
    have : (T.map fun t => (.inl t.1 : Key)) = (T.map (·.1)).map Sum.inl := by rw [List.map_map]; rfl
    rw [this]
    exact hn.map _ fun a b h e => h (Sum.inl.inj e)
end
end FB

set_option Elab.async false
set_option linter.all false
set_option maxRecDepth 100000
set_option maxHeartbeats 4000000
/-! FPf: dicts that stand, read; promises over a store. -/
namespace FB
open PySem PySem.Spec PyProof.Rows L2 RZ
section
variable {U : Addr → Prop} {H : Hp}
theorem dua_ints : ∀ {ns : List Int} {vs : List V}, DUA U H vs (ns.map PyData.int) → vs = ns.map V.int
  | [], _, .nil => rfl
  | n :: ns, v :: vs, .cons h t => by
    rw [h.intAt, dua_ints t]
    rfl
theorem ints_dua : ∀ ns : List Int, DUA U H (ns.map V.int) (ns.map PyData.int)
  | [] => .nil
  | n :: ns => .cons (.int n) (ints_dua ns)
theorem tu_at {v : V} {ns : List Int} (h : DU U H v (tuD ns)) : ∃ a, v = .ref a ∧ ¬ U a ∧ H a = some (.tup (ns.map V.int)) := by
  obtain ⟨a, vs, e, nu, ha, hd⟩ := h.tupAt
  rw [dua_ints hd] at ha
  exact ⟨a, e, nu, ha⟩
end
/-- a dict made lately -/
def Dic (z : Zn) (kvs : List (Key × V)) : VP := fun v H => ∃ q, v = .ref q ∧ ¬ z.U q ∧ H q = some (.dK kvs)
theorem Zn.inone {z : Zn} {q : Addr} (h : ¬ z.U q) : z.I q = none := by
  cases e : z.I q with
  | none => rfl
  | some φ => exact absurd (z.cov q (by rw [e]; simp)) h
section
variable {z : Zn} {K : PySem.W.Frag} {σ : L2.St} {H H' H'' : Hp} {te ta tb tc to td ty : TE} {E : XK} {D : Ends} {ts tu : TS} {p d : Addr} {kvs : List (Key × V)} {j : Int} {v : V} {ds : List PyData}
theorem ev_dget (nd : z.I d = none) (hd : H d = some (.dK kvs)) (ho : Ev z td σ H (Is (.ref d))) (hi : Ev z ty σ H (Is (.int j))) (hv : valV kvs (.inl j : Key) = some v) : Ev z (tDGet td ty) σ H (Is v) := fun H1 e Q q =>
  ho H1 e _ fun x H2 e2 f => hi H2 (e.tr e2) _ fun y H3 e3 g => by
    have hx : x = .ref d := f H2 .refl
    have hy : y = .int j := g H3 .refl
    subst hy
    have k := DGet.k (k := (.inl j : Key)) (((e.tr e2).tr e3).kp d _ nd hd)
    rw [hv] at k
    exact ⟨d, v, hx, k, q v H3 (e2.tr e3) fun _ _ => rfl⟩
theorem ev_dnotin (nd : z.I d = none) (hd : H d = some (.dK kvs)) (ho : Ev z td σ H (Is (.ref d))) (hi : Ev z ty σ H (Is (.int j))) (hv : valV kvs (.inl j : Key) = some v) : Ev z (tDNotIn ty td) σ H (Is (.bl false)) := fun H1 e Q q =>
  hi H1 e _ fun y H2 e2 g => ho H2 (e.tr e2) _ fun x H3 e3 f => by
    have hx : x = .ref d := f H3 .refl
    have hy : y = .int j := g H2 .refl
    subst hy
    have k := DGet.k (k := (.inl j : Key)) (((e.tr e2).tr e3).kp d _ nd hd)
    rw [hv] at k
    exact ⟨d, some v, hx, k, q _ H3 (e2.tr e3) fun _ _ => rfl⟩
theorem ev_lenK (nd : z.I d = none) (hd : H d = some (.dK kvs)) (ho : Ev z td σ H (Is (.ref d))) : Ev z (tCB (fun xs H Q => ∃ a kvs, xs = [V.ref a] ∧ H a = some (.dK kvs) ∧ Q (.int kvs.length) H) (tCons td tNil)) σ H (Is (.int (kvs.length : Int))) := fun H1 e Q q =>
  ho H1 e _ fun x H2 e2 f => by
    have hx : x = .ref d := f H2 .refl
    subst hx
    exact ⟨d, kvs, rfl, (e.tr e2).kp d _ nd hd, q _ H2 e2 fun _ _ => rfl⟩
theorem ev_listK (nd : z.I d = none) (hd : H d = some (.dK kvs)) (ho : Ev z td σ H (Is (.ref d))) : Ev z (tCB rListD (tCons td tNil)) σ H (Lst z fun ws _ => ws = kvs.map fun kv => kV kv.1) := fun H1 e Q q =>
  ho H1 e _ fun x H2 e2 f => by
    have hx : x = .ref d := f H2 .refl
    subst hx
    exact ⟨d, kvs, rfl, (e.tr e2).kp d _ nd hd, fun p hp => q _ _ (e2.dr.new hp |> e2.tr) fun H3 w => ⟨p, _, rfl, e2.dr.nu hp, w p _ (e2.dr.nu hp) upd_same, rfl⟩⟩
theorem ev_revL {xs : List V} (h : Ev z te σ H (Lst z fun ws _ => ws = xs)) : Ev z (tRevL K te) σ H (Lst z fun ws _ => ws = xs.reverse) := fun H1 e Q q =>
  h H1 e _ fun x H2 e2 f => by
    obtain ⟨a, ws, rfl, nu, ha, rfl⟩ := f H2 .refl
    exact ⟨a, ws, rfl, .inl (.inl ha), fun p hp => q _ _ (e2.dr.new hp |> e2.tr) fun H3 w => ⟨p, _, rfl, e2.dr.nu hp, w p _ (e2.dr.nu hp) upd_same, rfl⟩⟩
/-- dict(pairs), the pairs just made -/
theorem ev_dict (h : Ev z te σ H (Lst z fun ws H' => ws.length = kvs.length ∧ ∀ (i : Nat) w, ws[i]? = some w → ∃ kv a, kvs[i]? = some kv ∧ w = .ref a ∧ H' a = some (.tup [kV kv.1, kv.2]))) (hm : mergeK [] kvs = kvs) :
    Ev z (tCB (fun xs H Q => ∃ (a : Addr) (ps : List Addr) (kvs : List (Key × V)), xs = [.ref a] ∧ SqL K H a (ps.map V.ref) ∧ Paired (fun p kv => SqT K H p [kV kv.1, kv.2]) ps kvs ∧ ∀ p, H p = none → Q (.ref p) (upd H p (.dK (mergeK [] kvs)))) (tCons te tNil)) σ H (Dic z kvs) := fun H1 e Q q =>
  h H1 e _ fun x H2 e2 f => by
    obtain ⟨a, ws, rfl, nu, ha, hl, hp⟩ := f H2 .refl
    have pair : ∀ {ws : List V} {kvs : List (Key × V)}, ws.length = kvs.length → (∀ (i : Nat) w, ws[i]? = some w → ∃ kv a, kvs[i]? = some kv ∧ w = .ref a ∧ H2 a = some (.tup [kV kv.1, kv.2])) → ∃ ps : List Addr, ws = ps.map V.ref ∧ Paired (fun p kv => SqT K H2 p [kV kv.1, kv.2]) ps kvs := by
      intro ws
      induction ws with
      | nil =>
        intro kvs hl _
        cases kvs with
        | nil => exact ⟨[], rfl, .nil⟩
        | cons _ _ => simp at hl
      | cons w ws ih =>
        intro kvs hl hp
        cases kvs with
        | nil => simp at hl
        | cons kv kvs =>
          obtain ⟨ps, e, hps⟩ := ih (by simpa using hl) fun i w' hw => hp (i + 1) w' hw
          obtain ⟨kv', a, hk, ew, ha⟩ := hp 0 w rfl
          cases hk
          exact ⟨a :: ps, by rw [ew, e]; rfl, .cons (.inl (.inl ha)) hps⟩
    obtain ⟨ps, ew, hps⟩ := pair hl hp
    subst ew
    refine ⟨a, ps, kvs, rfl, .inl (.inl ha), hps, fun p hpn => ?_⟩
    rw [hm]
    exact q _ _ (e2.tr (e2.dr.new hpn)) fun H3 w => ⟨p, rfl, e2.dr.nu hpn, w p _ (e2.dr.nu hpn) upd_same⟩
theorem ev_notB {b : Bool} (h : Ev z te σ H (Is (.bl b))) : Ev z (tOp rNotB te (tC (.bl true))) σ H (Is (.bl (!b))) :=
  ev_op2 h ev_k fun H1 r => rn_val r.dr (fun Q q => ⟨b, true, rfl, rfl, q⟩) fun _ _ => by cases b <;> rfl
/-- a tuple of ints, cut -/
theorem ev_slInts {ns : List Int} {tl th : TO} {a b : Nat} (h : Ev z te σ H (Dd z (tuD ns))) (h1 : EvO z tl σ H (· = some (a : Int))) (h2 : EvO z th σ H (· = some (b : Int))) (hb : b ≤ ns.length) : Ev z (L2.tSl (rSlA K) te tl th) σ H (Dd z (tuD ((ns.take b).drop a))) :=
  (ev_slT (xs := ns.map V.int) (h.imp fun v H' _ f => by
    obtain ⟨p, e, nu, hp⟩ := tu_at f
    exact ⟨p, _, e, nu, hp, rfl⟩) h1 h2).imp fun v H' _ ⟨p, ws, e, nu, hp, ew⟩ => by
      rw [cut_mid _ _ _ (by rw [List.length_map]; exact hb), ← List.map_take, ← List.map_drop] at ew
      rw [e]
      exact .tup nu hp (by rw [ew]; exact ints_dua _)
theorem ev_tupTu {ns : List Int} (h : Ev z te σ H (Dd z (tuD ns))) : Ev z te σ H (Tup z fun ws _ => ws = ns.map V.int) := h.imp fun v H' _ f => by
  obtain ⟨p, e, nu, hp⟩ := tu_at f
  exact ⟨p, _, e, nu, hp, rfl⟩
theorem ev_isD {e : PyData} (h : Ev z te σ H (Is v)) (hd : ∀ H', z.W H H' → DU z.U H' v e) : Ev z te σ H (Dd z e) := h.imp fun v' H' w f => by
  have f' : v' = v := f
  rw [f']
  exact hd H' w
/-- x.extend(e), e a tuple of data -/
theorem bl_extT {es : List PyData} (b : Bl z p H H' ds) (hn : H p = none) (hz : z.R H H) (ho : Ev (z.add p) to σ H' (Is (.ref p))) (h : ∀ H1, (z.add p).R H' H1 → Ev (z.add p) te σ H1 (Dd (z.add p) (.tuple es))) (hl : ds.length + es.length ≤ 100000)
    (k : ∀ H'', (z.add p).W H' H'' → Bl z p H H'' (ds ++ es) → D.nx σ H'') : tDrop (tBM K "list" rExtendT to (tCons te tNil)) D σ H' := by
  refine ho H' b.rz _ fun v1 H1 r1 f1 => ?_
  have e1 : v1 = .ref p := f1 H1 .refl
  subst e1
  obtain ⟨vs1, hv1, hd1⟩ := (b.go hn hz r1).b
  refine ⟨.inl ⟨rfl, vs1, .inl (.inl hv1)⟩, h H1 r1 H1 r1.dr _ fun v2 H2 r2 f2 => ?_⟩
  have b2 := b.go hn hz (r1.tr r2)
  obtain ⟨vs, hv, hd⟩ := b2.b
  obtain ⟨a, ws, rfl, nu, ha, hw⟩ := DU.tupAt (f2 H2 .refl)
  have wu : (z.add p).W H2 (upd H2 p (.lst (vs ++ ws))) := fun a o na ha => by
    rw [upd_ne fun ea => na (Or.inr ea)]
    exact ha
  refine ⟨p, a, vs, ws, rfl, rfl, hv, ha, Nat.le_trans (show vs.length + ws.length ≤ 100000 by rw [hd.len, hw.len]; exact hl) (by decide), ?_⟩
  exact k _ ((r1.tr r2).w.tr wu) ⟨b2.r.mut hn, b2.w.tr wu, vs ++ ws, upd_same, (hd.w wu).app (hw.w wu)⟩
end
/-! ### promises -/
/-- the store at q holds T -/
structure Stored (z : Zn) (H : Hp) (q : Addr) (T : Sto) (ws : List V) : Prop where
  at_ : H q = some (.dK (kvZ T ws))
  da : DUA z.U H ws (T.map fun t => tuD t.2)
theorem Stored.len {z : Zn} {H : Hp} {q : Addr} {T : Sto} {ws : List V} (s : Stored z H q T ws) : ws.length = T.length := by
  have := s.da.len
  rwa [List.length_map] at this
theorem Stored.go {z : Zn} {H H' : Hp} {q : Addr} {T : Sto} {ws : List V} (s : Stored z H q T ws) (n : z.I q = none) (r : z.R H H') : Stored z H' q T ws := ⟨r.kp q _ n s.at_, s.da.w r.w⟩
def spCells : Sp := spF fun z H vs d => ∃ v q l T ws, vs = [v, .ref q] ∧ DU z.U H v (paD l) ∧ okL l ∧ l.length ≤ 2000 ∧ (each l).length ≤ 2000 ∧ z.I q = none ∧ Stored z H q T ws ∧ (∀ c ∈ each l, Has T c) ∧ d = tuD ((each l).map (cVal T))
def spRight : Sp := fun vs H Q _ => ∃ z v v2 q row T ws, vs = [v, v2, .ref q] ∧ z.R H H ∧ DU z.U H v (paD (runs row)) ∧ DU z.U H v2 (clD row) ∧ okC row ∧ row.length ≤ 2000 ∧ z.I q = none ∧ Stored z H q T ws ∧ Keys T ∧ T.length ≤ 1000 ∧ (∀ c ∈ row, Has T c) ∧ ∀ H', z.R H H' → Q (.bl true) H'
end FB

set_option Elab.async false
set_option linter.all false
set_option maxRecDepth 100000
set_option maxHeartbeats 4000000
/-! FPg: stores turned about; calls of cells. -/
namespace FB
open PySem PySem.Spec PyProof.Rows L2 RZ
theorem eqvAll_int : ∀ l : List Int, PyData.eqvAll (l.map PyData.int) (l.map PyData.int) = true
  | [] => by simp [PyData.eqvAll]
  | t :: r => by simp [PyData.eqvAll, eqv_int t, eqvAll_int r]
theorem eqv_tu (l : List Int) : PyData.eqv (tuD l) (tuD l) = true := by
  simp only [tuD, PyData.eqv]
  exact eqvAll_int l
theorem lay_int : ∀ l : List Int, PyData.canLayAll0 (l.map PyData.int) = true
  | [] => rfl
  | t :: r => by simp only [List.map_cons, PyData.canLayAll0, lay_int r, PyData.canLay0, Bool.and_self]
theorem dict_int : ∀ l : List Int, PyData.hasDictAll (l.map PyData.int) = false
  | [] => rfl
  | t :: r => by simp [PyData.hasDictAll, dict_int r, PyData.hasDict]
theorem depth_int : ∀ l : List Int, PyData.depthAll (l.map PyData.int) ≤ 1
  | [] => Nat.zero_le _
  | t :: r => by
    simp only [List.map_cons, PyData.depthAll]
    have := depth_int r
    have h : (PyData.int t).depth ≤ 1 := by simp [PyData.depth]
    omega
theorem shaped_tu (l : List Int) : SeqAt.shaped (tuD l) = true := by
  unfold SeqAt.shaped
  rw [Bool.and_eq_true]
  refine ⟨by simp only [tuD, PyData.canLay0]; exact lay_int l, decide_eq_true ?_⟩
  simp only [tuD, PyData.depth]
  have := depth_int l
  omega
theorem nd_tu (l : List Int) : (tuD l).hasDict = false := by
  simp only [tuD, PyData.hasDict]
  exact dict_int l
section
variable {U : Addr → Prop} {H : Hp}
theorem kv_rev {T : Sto} {vs : List V} (h : vs.length = T.length) : (kvZ T vs).reverse = kvZ T.reverse vs.reverse := List.reverse_zipWith h.symm
theorem valV_of {k : Key} {v : V} : ∀ {kvs : List (Key × V)}, (kvs.map (·.1)).Nodup → (k, v) ∈ kvs → valV kvs k = some v
  | [], _, h => by cases h
  | t :: T, hn, h => by
    rw [List.map_cons, List.nodup_cons] at hn
    rcases List.mem_cons.mp h with e | h
    · rw [← e]
      exact valV_pos rfl
    · rw [valV_neg fun e => hn.1 (by rw [e]; exact List.mem_map.mpr ⟨_, h, rfl⟩)]
      exact valV_of hn.2 h
theorem kv_nd {T : Sto} {vs : List V} (h : vs.length = T.length) (hn : (T.map (·.1)).Nodup) : ((kvZ T vs).map (·.1)).Nodup := by
  rw [kv_fst h]
  have : (T.map fun t => (.inl t.1 : Key)) = (T.map (·.1)).map Sum.inl := by rw [List.map_map]; rfl
  rw [this]
  exact hn.map _ fun a b h e => h (Sum.inl.inj e)
end
section
variable {z : Zn} {K : PySem.W.Frag} {σ : L2.St} {H H' H'' : Hp} {te ta tb tc to td ty : TE} {E : XK} {D : Ends} {p d : Addr} {kvs : List (Key × V)} {j : Int} {v : V} {ds : List PyData}
theorem Stored.rev {q q' : Addr} {T : Sto} {ws : List V} (s : Stored z H q T ws) (h : H' q' = some (.dK (kvZ T.reverse ws.reverse))) (w : z.W H H') : Stored z H' q' T.reverse ws.reverse :=
  ⟨h, by
    rw [List.map_reverse]
    exact (s.da.w w).rev⟩
theorem Stored.sub {q : Addr} {T : Sto} {ws : List V} (s : Stored (z.add p) H q T ws) : Stored z H q T ws := ⟨s.at_, s.da.go fun a o n e => ⟨fun u => n (Or.inl u), e⟩⟩
theorem ev_dgetK {k : Key} (nd : z.I d = none) (hd : H d = some (.dK kvs)) (ho : Ev z td σ H (Is (.ref d))) (hi : Ev z ty σ H (Is (kV k))) (hv : valV kvs k = some v) : Ev z (tDGet td ty) σ H (Is v) := fun H1 e Q q =>
  ho H1 e _ fun x H2 e2 f => hi H2 (e.tr e2) _ fun y H3 e3 g => by
    have hx : x = .ref d := f H2 .refl
    have hy : y = kV k := g H3 .refl
    subst hy
    have g := DGet.k (k := k) (((e.tr e2).tr e3).kp d _ nd hd)
    rw [hv] at g
    exact ⟨d, v, hx, g, q v H3 (e2.tr e3) fun _ _ => rfl⟩
theorem ev_eqTu {l : List Int} (ha : Ev z ta σ H (Dd z (tuD l))) (hb : ∀ H1, z.R H H1 → Ev z tb σ H1 (Dd z (tuD l))) : Ev z (tOp (rEqD K) ta tb) σ H (Is (.bl true)) :=
  ev_to (ev_eqD ha hb (nd_tu l) (nd_tu l) (shaped_tu l) (shaped_tu l)) (by rw [eqv_tu])
theorem ev_cells {l : List Tri} {q : Addr} {T : Sto} {ws : List V} {ns : List Int} (ha : Ev z ta σ H (Dd z (paD l))) (hb : ∀ H1, z.R H H1 → Ev z tb σ H1 (Is (.ref q))) (nq : z.I q = none) (st : Stored z H q T ws) (ho : okL l) (hl : l.length ≤ 2000) (hle : (each l).length ≤ 2000) (has : ∀ c ∈ each l, Has T c) (e : (each l).map (cVal T) = ns) :
    Ev z (tCall spCells [] E (tCons ta (tCons tb tNil))) σ H (Dd z (tuD ns)) :=
  ev_F (A := fun z H vs d => ∃ v q l T ws, vs = [v, .ref q] ∧ DU z.U H v (paD l) ∧ okL l ∧ l.length ≤ 2000 ∧ (each l).length ≤ 2000 ∧ z.I q = none ∧ Stored z H q T ws ∧ (∀ c ∈ each l, Has T c) ∧ d = tuD ((each l).map (cVal T)))
    (ea_cons ha fun v H1 r _ => ea_is (hb H1 r) ea_nil) fun vs H1 r ⟨v, rr, e1, hv, er⟩ => ⟨v, q, l, T, ws, by rw [e1, er], hv, ho, hl, hle, nq, st.go nq r, has, by rw [e]⟩
end
end FB

set_option Elab.async false
set_option linter.all false
set_option maxRecDepth 100000
set_option maxHeartbeats 4000000
/-! FPh: a dict that a call may add to; drawn slices. -/
namespace FB
open PySem PySem.Spec PyProof.Rows L2 RZ
def IsDk : HO → Prop := fun o => ∃ kvs, o = .dK kvs
/-- the zone in which the dict at d may change as well -/
def Zn.wd (z : Zn) (d : Addr) (h : z.U d) : Zn := ⟨fun a => if a = d then some IsDk else z.I a, z.U, fun a ha => by
  by_cases e : a = d
  · rw [e]; exact h
  · simp only [if_neg e] at ha
    exact z.cov a ha⟩
section
variable {z : Zn} {d : Addr} {hd : z.U d} {H H1 H' : Hp} {kvs : List (Key × V)}
theorem wd_at {a : Addr} {φ : HO → Prop} (nd : z.I d = none) (h : z.I a = some φ) : (z.wd d hd).I a = some φ := by
  have : a ≠ d := fun e => by rw [e, nd] at h; cases h
  show (if a = d then some IsDk else z.I a) = some φ
  rw [if_neg this]
  exact h
theorem wd_d : (z.wd d hd).I d = some IsDk := if_pos rfl
theorem wd_no {a : Addr} (h : (z.wd d hd).I a = none) : a ≠ d ∧ z.I a = none := by
  have h' : (if a = d then some IsDk else z.I a) = none := h
  by_cases e : a = d
  · rw [if_pos e] at h'
    cases h'
  · rw [if_neg e] at h'
    exact ⟨e, h'⟩
theorem wd_cases {a : Addr} {φ : HO → Prop} (h : (z.wd d hd).I a = some φ) : (a = d ∧ φ = IsDk) ∨ (a ≠ d ∧ z.I a = some φ) := by
  have h' : (if a = d then some IsDk else z.I a) = some φ := h
  by_cases e : a = d
  · rw [if_pos e] at h'
    exact .inl ⟨e, (Option.some.inj h').symm⟩
  · rw [if_neg e] at h'
    exact .inr ⟨e, h'⟩
theorem wd_of (r : z.R H H') (nd : z.I d = none) (h : H d = some (.dK kvs)) : (z.wd d hd).R H H' := by
  refine ⟨fun a o n e => r.kp a o (wd_no n).2 e, fun a φ e => ?_, fun a φ e => ?_, r.l1, r.l2⟩
  · rcases wd_cases e with ⟨rfl, rfl⟩ | ⟨_, e⟩
    · exact ⟨_, h, kvs, rfl⟩
    · exact r.i1 a φ e
  · rcases wd_cases e with ⟨rfl, rfl⟩ | ⟨_, e⟩
    · exact ⟨_, r.kp _ _ nd h, kvs, rfl⟩
    · exact r.i2 a φ e
theorem wd_self (r : (z.wd d hd).R H H') (nd : z.I d = none) : z.R H' H' :=
  ⟨fun _ _ _ h => h, fun a φ e => r.i2 a φ (wd_at nd e), fun a φ e => r.i2 a φ (wd_at nd e), r.l2, r.l2⟩
theorem wd_w (r : (z.wd d hd).R H H') : z.W H H' := fun a o n h => r.w a o n h
/-- the dict was made since H -/
theorem wd_out (r0 : z.R H H1) (hn : H d = none) {z' : Zn} {hd' : z'.U d} (hI : ∀ a, z'.I a = z.I a) (hU : ∀ a, z.U a → z'.U a) (r : (z'.wd d hd').R H1 H') : z.R H H' := by
  have nd : z'.I d = none := by rw [hI]; exact r0.dl.ni hn
  refine ⟨fun a o n e => ?_, r0.i1, fun a φ e => r.i2 a φ (wd_at nd (by rw [hI]; exact e)), r0.l1, fun a u => r.l2 a (hU a u)⟩
  have hne : a ≠ d := fun q => by rw [q, hn] at e; cases e
  refine r.kp a o ?_ (r0.kp a o n e)
  show (if a = d then some IsDk else z'.I a) = none
  rw [if_neg hne, hI]
  exact n
end
section
variable {z : Zn} {K : PySem.W.Frag} {σ : L2.St} {H H' H'' : Hp} {te ta tb tc to td ty tv tl th : TE} {E : XK} {D : Ends} {ts tu es : TS} {t : TT} {p d : Addr} {kvs : List (Key × V)} {j : Int} {v : V} {ds : List PyData} {φ : VP}
/-- if, else, and what comes behind both -/
theorem q_ifJ {b : Bool} {J : L2.St → Hp → Prop} (hR : z.R H H) (h : EvT z t σ H (· = b)) (h1 : b = true → ∀ H1, z.R H H1 → ∀ D' : Ends, (∀ σ' H', J σ' H' → D'.nx σ' H') → ts D' σ H1) (h2 : b = false → ∀ H1, z.R H H1 → ∀ D' : Ends, (∀ σ' H', J σ' H' → D'.nx σ' H') → es D' σ H1)
    (h3 : ∀ σ' H', J σ' H' → tu D σ' H') : tSeq (tIfS t ts es) tu D σ H :=
  s_if (D := { D with nx := tu D }) hR h (fun hb H1 r => h1 hb H1 r _ h3) fun hb H1 r => h2 hb H1 r _ h3
/-- d[j] = e, j new or not -/
theorem q_dput (hR : z.R H H) (hv : Ev z tv σ H φ) (ho : ∀ H1, z.R H H1 → Ev z td σ H1 (Is (.ref d))) (hi : ∀ H1, z.R H H1 → Ev z ty σ H1 (Is (.int j))) (nd : z.I d = none) (hd : H d = some (.dK kvs)) (hl : kvs.length ≤ 100000)
    (k : ∀ v H3, z.R H H3 → (∀ H4, z.W H3 H4 → φ v H4) → tu D σ (upd H3 d (.dK (putK kvs (.inl j : Key) v)))) : tSeq (sDPut td ty tv) tu D σ H :=
  hv H hR _ fun v H1 r1 f1 => ho H1 r1 H1 r1.dr _ fun x H2 r2 f2 => hi H2 (r1.tr r2) H2 r2.dr _ fun y H3 r3 f3 => by
    have hx : x = .ref d := f2 H2 .refl
    have hy : y = .int j := f3 H3 .refl
    subst hy
    have r := (r1.tr r2).tr r3
    exact ⟨d, _, hx, DPut.k (k := (.inl j : Key)) (r.kp d _ nd hd) (Nat.lt_of_le_of_lt hl (by decide)), k v H3 r fun H4 w => f1 H4 ((r2.tr r3).w.tr w)⟩
/-- x = f(..), whatever f promises -/
theorem q_setX {i : Nat} {sp : Sp} {dv : List V} {tas : TA} {Φ : List V → Hp → Prop} (hR : z.R H H) (h : EvA z tas σ H Φ) (k : ∀ vs H1, z.R H H1 → Φ vs H1 → sp (vs ++ dv) H1 (fun v H' => tu D (σ.set i (some v)) H') E) : tSeq (tAsg (tCall sp dv E tas) (gName i)) tu D σ H :=
  h H hR _ fun vs H1 r f => k vs H1 r (f H1 .refl)
/-- x, y, d, m = (), [], {}, [] -/
theorem q_four {i1 i2 i3 i4 : Nat} (hR : z.R H H) (k : ∀ (t r d m : Addr) (Hm H1 : Hp), z.R H Hm → H t = none → H r = none → H d = none → t ≠ d → r ≠ d → Hm t = some (.tup []) → Hm r = some (.lst []) → Hm d = some (.dK []) → Hm m = none → (∀ a x, upd Hm m (.lst []) a = some x → H1 a = some x) →
      tu D ((((σ.set i1 (some (.ref t))).set i2 (some (.ref r))).set i3 (some (.ref d))).set i4 (some (.ref m))) H1) :
    tSeq (tAsg (tTup (tCons (tTup tNil) (tCons (tLst tNil) (tCons tDNewK (tCons (tLst tNil) tNil))))) (gTup K 4 (gCons (gName i1) (gCons (gName i2) (gCons (gName i3) (gCons (gName i4) gNil)))))) tu D σ H :=
  ⟨Nat.zero_le _, fun t ht => ⟨Nat.zero_le _, fun r hr => fun d hd => ⟨Nat.zero_le _, fun m hm => ⟨(show 4 ≤ sizeLine by decide), fun o ho => by
    have e1 : t ≠ r := fun e => by rw [← e, upd_same] at hr; cases hr
    have hr0 : H r = none := by rwa [upd_ne (Ne.symm e1)] at hr
    have e2 : r ≠ d := fun e => by rw [← e, upd_same] at hd; cases hd
    have hd1 : upd H t (.tup []) d = none := by rwa [upd_ne (Ne.symm e2)] at hd
    have e3 : t ≠ d := fun e => by rw [← e, upd_same] at hd1; cases hd1
    have hd0 : H d = none := by rwa [upd_ne (Ne.symm e3)] at hd1
    refine ⟨o, _, rfl, .inl (.inl upd_same), rfl, _, _, rfl, _, _, rfl, _, _, rfl, _, _, rfl, rfl, ?_⟩
    refine k t r d m (upd (upd (upd H t (.tup [])) r (.lst [])) d (.dK [])) _ (((hR.new ht).mut hr0).mut hd0) ht hr0 hd0 e3 e2 ?_ ?_ upd_same hm fun a x ha => ?_
    · rw [upd_ne e3, upd_ne e1, upd_same]
    · rw [upd_ne e2, upd_same]
    · rw [upd_ne (fun e => by rw [e, ho] at ha; cases ha)]
      exact ha⟩⟩⟩⟩
end
theorem cut_mid2 (xs : List V) (a b : Nat) (h : a ≤ xs.length) : cutV xs (some (a : Int)) (some (b : Int)) = (xs.take b).drop a := by
  by_cases hb : b ≤ xs.length
  · exact cut_mid xs a b hb
  · unfold cutV
    rw [HT.sIx_nat, HT.sIx_nat, Nat.min_eq_left h, Nat.min_eq_right (by omega), List.take_of_length_le (l := xs) (by omega), List.take_of_length_le (by rw [List.length_drop]; omega)]
theorem lay_ce : ∀ l : List Cel, PyData.canLayAll0 (l.map ceD) = true
  | [] => rfl
  | t :: r => by simp only [List.map_cons, PyData.canLayAll0, lay_ce r, ceD, PyData.canLay0, Bool.and_self]
theorem dict_ce : ∀ l : List Cel, PyData.hasDictAll (l.map ceD) = false
  | [] => rfl
  | t :: r => by simp [PyData.hasDictAll, dict_ce r, ceD, PyData.hasDict]
theorem depth_ce : ∀ l : List Cel, PyData.depthAll (l.map ceD) ≤ 1
  | [] => Nat.zero_le _
  | t :: r => by
    simp only [List.map_cons, PyData.depthAll]
    have := depth_ce r
    have h : (ceD t).depth ≤ 1 := by simp [ceD, PyData.depth, PyData.depthAll]
    omega
theorem shaped_cl (l : List Cel) : SeqAt.shaped (clD l) = true := by
  unfold SeqAt.shaped
  rw [Bool.and_eq_true]
  refine ⟨by simp only [clD, PyData.canLay0]; exact lay_ce l, decide_eq_true ?_⟩
  simp only [clD, PyData.depth]
  have := depth_ce l
  omega
theorem nd_cl (l : List Cel) : (clD l).hasDict = false := by
  simp only [clD, PyData.hasDict]
  exact dict_ce l
section
variable {z : Zn} {K : PySem.W.Frag} {σ : L2.St} {H H' H'' : Hp} {te ta tb tc to tl th : TE} {E : XK} {cs : List Cel}
theorem ev_neNilC (ha : Ev z ta σ H (Dd z (clD cs))) : Ev z (tOp (rNeD K) ta (tLst tNil)) σ H (Is (.bl (!cs.isEmpty))) :=
  ev_to (ev_neD (e := .list []) ha (fun H1 r => (ev_lst ea_nil fun vs H' e => by rw [e]; exact Nat.zero_le _).imp fun v H' _ ⟨p, ws, e, nu, hp, ew⟩ => by rw [e]; exact .lst nu hp (by rw [ew]; exact .nil)) (nd_cl cs) rfl (shaped_cl cs) (by decide)) (by
    unfold clD
    rw [eqv_nilL]
    cases cs <;> rfl)
/-- cells from a place on, a drawn number -/
theorem ev_slU {a N : Nat} (h : Ev z te σ H (Dd z (clD cs))) (h1 : Ev z tl σ H (Is (.int (a : Int)))) (h2 : ∀ H1, z.R H H1 → Ev z th σ H1 (fun v _ => ∃ k : Nat, k < N ∧ v = .int ((a + 1 + k : Nat) : Int))) (ha : a ≤ cs.length) :
    Ev z (L2.tSl (rSlL K) te (tPart tl) (tPart th)) σ H (fun v H' => ∃ k : Nat, k < N ∧ DU z.U H' v (clD ((cs.take (a + 1 + k)).drop a))) := fun H1 e Q q =>
  h H1 e _ fun v H2 e2 f => h1 H2 (e.tr e2) _ fun x H3 e3 g => ⟨(a : Int), g H3 .refl, h2 H3 ((e.tr e2).tr e3) H3 e3.dr _ fun y H4 e4 g2 => by
    obtain ⟨k, hk, ey⟩ := g2 H4 .refl
    refine ⟨((a + 1 + k : Nat) : Int), ey, ?_⟩
    obtain ⟨b, vs, rfl, nu, hb, hd⟩ := DU.lstAt (f H4 (e3.tr e4).w)
    refine ⟨b, vs, rfl, .inl (.inl hb), fun p hp => ?_⟩
    have r4 := ((e2.tr e3).tr e4)
    refine q _ _ (r4.tr (r4.dr.new hp)) fun H5 w => ⟨k, hk, ?_⟩
    refine .lst (r4.dr.nu hp) (w p _ (r4.dr.nu hp) upd_same) ?_
    have hlen := hd.len
    rw [List.length_map] at hlen
    rw [cut_mid2 _ _ _ (by omega), List.map_drop, List.map_take]
    exact ((hd.take _).drop _).w (z := z) ((r4.dr.new hp).w.tr w)⟩
end
end FB

set_option Elab.async false
set_option linter.all false
set_option maxRecDepth 100000
set_option maxHeartbeats 4000000
/-! FPi: list.index of truths; what a caught refusal asks of a zone. -/
namespace FB
open PySem PySem.Spec PyProof.Rows L2
def rIdxB (K : PySem.W.Frag) : V → List V → Hp → VK → Prop := fun x xs H Q => ∃ (p : Addr) (bs : List Bool) (k : Bool) (j : Nat), x = .ref p ∧ xs = [.bl k] ∧ SqL K H p (bs.map V.bl) ∧ bs[j]? = some k ∧ (∀ m b, m < j → bs[m]? = some b → b ≠ k) ∧ Q (.int (j : Nat)) H
theorem vals_bl : ∀ {us : List Value} {bs : List Bool}, Vals (bs.map V.bl) us → us = bs.map Value.bool
  | [], [], _ => rfl
  | [], _ :: _, r => by cases r
  | _ :: _, [], r => by cases r
  | u :: us, b :: bs, r => by
    cases r with
    | cons r1 r2 =>
      have e : u = Value.bool b := r1
      rw [e, vals_bl r2]
      rfl
section
variable {X : Cx} {K : PySem.W.Frag}
theorem mt_indexB (hK : X.K = K := by rfl) : MtR X "list.index" (rIdxB K) := by
  subst hK
  intro pins s σ H x xs v us Q I rx rxs h
  obtain ⟨p, bs, k, j, rfl, rfl, hs, hj, hno, q⟩ := h
  cases rx
  obtain ⟨u, rfl, ru⟩ := rxs.one
  have eu : u = Value.bool k := ru
  subst eu
  obtain ⟨its, rv, ⟨⟨cls, dd, data, sl⟩, n, ho, hc, hdn, hd⟩, hlen⟩ := I.list hs
  simp only at hc hd
  subst hc hd
  have ei := vals_bl rv
  have hl : its.length = bs.length := by rw [ei, List.length_map]
  obtain ⟨hjb, hje⟩ := List.getElem?_eq_some_iff.mp hj
  have hsl := sizeLine_eq
  rw [List.length_map] at hlen
  have at' : ∀ (m : Nat) (hm : m < its.toArray.size) (b : Bool), bs[m]? = some b → its.toArray[m] = Value.bool b := fun m hm b hb => by
    subst ei
    have hmb : m < bs.length := by simpa using hm
    have : bs[m] = b := (List.getElem?_eq_some_iff.mp hb).2
    simp [this]
  refine call_meets PySem.F.slot_list_index ⟨_, ho, rfl⟩ PySem.F.entry_list_index (PySem.F.args_list_index_2 _ _)
    (SeqAt.list_indexAt p its.toArray n dd sl (.bool k) (eqb k) j (by rw [List.size_toArray, hl]; exact hjb) (by omega) ?_ ?_) ⟨ho, fun y hy => (eqb_gives rv y (by simpa using hy)).at _ _, ?_⟩
  · rw [at' j _ k hj]
    exact beq_self_eq_true k
  · intro m hm hmj
    have hmb : m < bs.length := by rw [List.size_toArray, hl] at hm; exact hm
    rw [at' m hm _ (List.getElem?_eq_getElem hmb)]
    show (bs[m] == k) = false
    exact beq_eq_false_iff_ne.mpr (hno m _ hmj (List.getElem?_eq_getElem hmb))
  · exact ⟨.int (j : Nat), H, I.tok _, ⟨_, rfl⟩, q⟩
end
section
variable {z : Zn} {K : PySem.W.Frag} {σ : L2.St} {H : Hp} {to te : TE}
/-- bs.index(k) -/
theorem ev_indexB {bs : List Bool} {k : Bool} {j : Nat} (ho : Ev z to σ H (Lst z fun ws _ => ws = bs.map V.bl)) (hk : Ev z te σ H (Is (.bl k))) (hj : bs[j]? = some k) (hno : ∀ m b, m < j → bs[m]? = some b → b ≠ k) : Ev z (tBM K "list" (rIdxB K) to (tCons te tNil)) σ H (Is (.int (j : Int))) := fun H1 e Q q =>
  ho H1 e _ fun v H2 e2 f => by
    obtain ⟨p, ws, rfl, nu, hp, rfl⟩ := f H2 .refl
    refine ⟨.inl ⟨rfl, _, .inl (.inl hp)⟩, hk H2 (e.tr e2) _ fun v3 H3 e3 f3 => ?_⟩
    have e4 : v3 = .bl k := f3 H3 .refl
    subst e4
    exact ⟨p, bs, k, j, rfl, rfl, .inl (.inl (e3.w p _ nu hp)), hj, hno, q _ H3 (e2.tr e3) fun _ _ => rfl⟩
end
end FB

set_option Elab.async false
set_option linter.all false
set_option maxRecDepth 100000
set_option maxHeartbeats 4000000
/-! FPj: a refusal that is let out, caught, looked at. -/
namespace FB
open PySem PySem.Spec PyProof.Rows L2 RZ
theorem Fun.okN {P : Program} {w : World} {K : PySem.W.Frag} {mg : Str → Option Value} {base : Heap} {x qual : Str} {st : Stmt} {f : Addr} {fd : FuncData} {N ps : List Str} {k : Nat} {sp : Sp} (F : Fun K x qual st f fd) (S : FnScope N ps (defScope st)) (len : ∀ vs H Q E, sp vs H Q E → vs.length = ps.length)
    (hb : ∀ (cdv : Value) (A : Around) (outer : List Env) (s : Shared) (H : Hp) (vs : List V) (Q : VK) (E : XK), Room k (A.deeper (envOfC qual (defScope st) s.heap.objs.size f cdv)) → sp vs H Q E →
      ∃ t, PSs (cxOf (L2N.CX P w) P w K mg base N qual (defScope st) f cdv A outer s H E) (defBody st) t ∧ t { nx := fun _ H' => Q .non H', rt := Q } (L2.start N vs) H) : FnOk P w K mg base (L2N.CX P w) (k + 1) f fd ps sp := by
  obtain ⟨oc, od, kV, doc, pm, an, cdv, ct, osl, rfl, lk, hcd⟩ := F.ex
  exact fn_of lk hcd S len fun A outer s H vs Q E hr hsp => hb cdv A outer s H vs Q E hr hsp
/-- a class that isinstance is asked of -/
structure KitTo (K : PySem.W.Frag) (mg : Str → Option Value) (nm : Str) (P C : Addr) (b : Bool) : Prop where
  g : mg nm = some (.ref C)
  k : PySem.W.kitOne K (.ref P) (.ref C) = some b
theorem kit_none {K : PySem.W.Frag} {t : Value} : ∀ {us : List Value}, (∀ u ∈ us, PySem.W.kitOne K t u = some false) → PySem.W.kitAny K t us = some false
  | [], _ => rfl
  | u :: us, h => by
    unfold PySem.W.kitAny
    rw [h u List.mem_cons_self]
    exact kit_none fun x hx => h x (List.mem_cons_of_mem _ hx)
section
variable {z : Zn} {K : PySem.W.Frag} {σ : L2.St} {H : Hp} {te tc : TE} {a C d : Addr} {c : V} {u : Value} {b : Bool} {fs : List (Str × V)}
theorem ev_isE (nd : z.I d = none) (hd : H d = some (.xd fs)) (k : ClsV c u) (hk : PySem.W.kitOne K (.ref C) u = some b) (h : Ev z te σ H (Is (.ref a))) (h2 : Ev z tc σ H (Is c)) : Ev z (tCB (rIsE K a C d) (tCons te (tCons tc tNil))) σ H (Is (.bl b)) :=
  ev_cb (ea_is h (ea_is h2 ea_nil)) fun vs H1 r e Q q => ⟨c, u, b, fs, e, k, r.kp d _ nd hd, hk, q _ H1 r.dr fun _ _ => rfl⟩
theorem ev_isTE {cs : List V} {us : List Value} (nd : z.I d = none) (hd : H d = some (.xd fs)) (k : Paired ClsV cs us) (hk : PySem.W.kitAny K (.ref C) us = some b) (h : Ev z te σ H (Is (.ref a))) (h2 : ∀ H1, z.R H H1 → Ev z tc σ H1 (Tup z fun ws _ => ws = cs)) : Ev z (tCB (rIsTE K a C d) (tCons te (tCons tc tNil))) σ H (Is (.bl b)) :=
  ev_cb (ea_cons h fun v H1 r _ => ea_cons (h2 H1 r) fun v H2 r2 _ => ea_nil) fun vs H1 r ⟨v, rr, e1, ev, v2, rr2, e2, ⟨p, ws, ep, nu, hp, ew⟩, e3⟩ Q q => by
    have ev' : v = .ref a := ev
    subst ev'
    subst ep
    subst ew
    subst e3
    subst e2
    subst e1
    exact ⟨p, ws, us, b, fs, rfl, hp, k, r.kp d _ nd hd, hk, q _ H1 r.dr fun _ _ => rfl⟩
/-- or of what a name holds and more -/
theorem ev_or2 {ta tb : TE} {a b : Bool} (h1 : Ev z ta σ H (Is (.bl a))) (h2 : a = false → Ev z tb σ H (Is (.bl b))) : True := trivial
end
/-! ### promises -/
def spCutX (C : Addr) : Sp := fun vs H _ E => ∃ (z : Zn) (v m : V) (l : List Tri) (d : PyData), vs = [v, m] ∧ z.R H H ∧ DU z.U H v (paD l) ∧ DU z.U H m d ∧ l.length ≤ 30000 ∧ okL l ∧ ftD d 0 (tot l) = false ∧
  ∀ H' dx, z.R H H' → H' dx = none → E (.ref C) (some dx) (upd H' dx (.xd [("place", m)]))
def spSort (C : Addr) (p : Addr × Obj) : Sp := fun vs H Q _ => ∃ (z : Zn) (dx : Addr) (fs : List (Str × V)), vs = [.ref p.1] ∧ z.R H H ∧ Zc (.ref C) (some dx) p.2 ∧ (∃ us, p.2.data = .fields us) ∧ z.I dx = none ∧ H dx = some (.xd fs) ∧ ∀ H', z.R H H' → Q (.str "place") H'
open HotX in
section
open L2H
/-- .. whatever the caught object is *)-/
def spAll (sp : Addr × Obj → Sp) (a : Addr) (cls : Value) (d : Option Addr) : Sp := fun vs H Q E => ∀ oe, L2N.Zn cls d oe → (∃ us, oe.data = .fields us) → sp (a, oe) vs H Q E
theorem pe_callE2 {X : Cx} {CX : CXT} {k : Nat} {f : Addr} {fd : FuncData} {ps : List Str} {sp : Addr × Obj → Sp} {E : XK} {x : Str} {q pos : Pos} {e : Expr} {es : List Expr} {t : TA} {a : Addr} {oe : Obj} {cls : Value} {d : Option Addr} (hz : L2N.Zn cls d oe) (hf : ∃ us, oe.data = .fields us)
    (F : FnE X.prog X.w X.K X.mg X.base CX k f fd ps sp) (hr : RoomH k X.A) (hot : Hot1 X.A (a, oe)) (hp : (a, oe) ∈ X.pn) (hg : Gl X x) (hm : X.mg x = some (.ref f)) (hk : PySem.W.keepIn X.K (.ref f) = true) (hb : Binds X.K fd ps []) (hx : Passes CX X E)
    (ha : PA X (e :: es) t) (hdb : (x == ("__debug__" : Str)) = false := by decide) (he : starEach (e :: es) X.env = (false, eval e X.env) :: starEach es X.env := by rfl) (hpl : (backTo pos (starEach es X.env)).any (·.1) = false := by rfl) :
    PE X (.Call (.Name x q) (e :: es) [] pos) (tCall (spAll sp a cls d) [] E t) := by
  refine ⟨fun pins s σ H Q I h => ?_⟩
  refine wpAny_Call_Name_kw (ld_glob I hg hm ?_ hdb)
  refine PySem.W.callWith_K (h₀ := X.base) I.ok.mod.kin hk (thn (ha.run pos pins s σ H _ I h) fun us s1 ⟨vs, H1, I1, r, q⟩ => ⟨I1.kIn, ?_⟩) he hpl
  have q' : spAll sp a cls d (vs ++ []) H1 Q E := q
  rw [List.append_nil] at q'
  exact run_e F hr hot hp hb hx I1 r (q' oe hz hf)
end
section
variable {z : Zn} {K : PySem.W.Frag} {σ : L2.St} {H : Hp} {te : TE} {a C dx : Addr} {fs : List (Str × V)} {E : XK}
theorem ev_sort (nd : z.I dx = none) (hd : H dx = some (.xd fs)) (h : Ev z te σ H (Is (.ref a))) : Ev z (tCall (spAll (spSort C) a (.ref C) (some dx)) [] E (tCons te tNil)) σ H (Is (.str "place")) :=
  ev_call (ea_is h ea_nil) fun vs H1 r e Q q => by
    subst e
    exact fun oe hz hf => ⟨z, dx, fs, rfl, r.dr, hz.zc, hf, nd, r.kp dx _ nd hd, fun H' r' => q _ H' r' fun _ _ => rfl⟩
theorem ev_byRef {f : Str} {m : V} (nd : z.I dx = none) (hd : H dx = some (.xd [(f, m)])) (h : Ev z te σ H (Is (.ref a))) : Ev z (tByRef f C a (.ref C) (some dx) te) σ H (Is m) := fun H1 e Q q =>
  h H1 e _ fun x H2 e2 f2 => ⟨f2 H2 .refl, rfl, dx, m, rfl, (e.tr e2).kp dx _ nd hd, q m H2 e2 fun _ _ => rfl⟩
end
end FB

set_option Elab.async false
set_option linter.all false
set_option maxRecDepth 100000
set_option maxHeartbeats 4000000
/-! FPk: refusals by kinds; tests that are known in part; lists stored into. -/
namespace FB
open PySem PySem.Spec PyProof.Rows L2 RZ
/-- room in a def that an except suite calls -/
theorem _root_.L2H.RoomH.units {k : Nat} {A : Around} (r : L2H.RoomH k A) : A.units + 64 < cLine := by
  have := r.un
  omega
/-! ### two promises of one def -/
theorem FnOk.or {P : Program} {w : World} {K : PySem.W.Frag} {mg : Str → Option Value} {base : Heap} {CX : CXT} {k : Nat} {f : Addr} {fd : FuncData} {ps : List Str} {s1 s2 : Sp} (F : FnOk P w K mg base CX k f fd ps s1) (G : FnOk P w K mg base CX k f fd ps s2) :
    FnOk P w K mg base CX k f fd ps (fun vs H Q E => s1 vs H Q E ∨ s2 vs H Q E) :=
  ⟨fun vs H Q E h => h.elim (F.len vs H Q E) (G.len vs H Q E), fun A outer s H args us vs Q E hr e b v h => h.elim (F.run A outer s H args us vs Q E hr e b v) (G.run A outer s H args us vs Q E hr e b v)⟩
theorem FnG.or {P : Program} {w : World} {K : PySem.W.Frag} {mg : Str → Option Value} {base : Heap} {CX : CXT} {k : Nat} {f : Addr} {fd : FuncData} {ps : List Str} {s1 s2 : Sp} (F : FnG P w K mg base CX k f fd ps s1) (G : FnG P w K mg base CX k f fd ps s2) :
    FnG P w K mg base CX k f fd ps (fun vs H Q E => s1 vs H Q E ∨ s2 vs H Q E) :=
  ⟨fun vs H Q E h => h.elim (F.n vs H Q E) (G.n vs H Q E), fun A outer s H args us vs Q E hg hr e b v h => h.elim (F.go A outer s H args us vs Q E hg hr e b v) (G.go A outer s H args us vs Q E hg hr e b v)⟩
section
variable {z : Zn} {K : PySem.W.Frag} {σ : L2.St} {H : Hp} {te ta tb to ti : TE} {t u : TT} {D : Ends} {ts tw tu : TS} {p : Addr} {ds : List PyData}
/-! ### tests known in part -/
theorem s_ifP {Pb : Bool → Prop} (hR : z.R H H) (h : EvT z t σ H Pb) (h1 : Pb true → ∀ H1, z.R H H1 → ts D σ H1) (h2 : Pb false → ∀ H1, z.R H H1 → tw D σ H1) : tIfS t ts tw D σ H := h H hR _ fun c H1 e q => by
  cases c with
  | true => exact h1 q H1 e
  | false => exact h2 q H1 e
theorem q_ifP {Pb : Bool → Prop} (hR : z.R H H) (h : EvT z t σ H Pb) (h1 : Pb true → ∀ H1, z.R H H1 → ts { D with nx := tu D } σ H1) (h2 : Pb false → ∀ H1, z.R H H1 → tu D σ H1) : tSeq (tIfS t ts tNext) tu D σ H := s_ifP (D := { D with nx := tu D }) hR h h1 h2
theorem et_orP {P1 P2 Pb : Bool → Prop} (h1 : EvT z t σ H P1) (h2 : P1 false → EvT z u σ H P2) (k1 : P1 true → Pb true) (k2 : ∀ b, P1 false → P2 b → Pb b) : EvT z (tOr t u) σ H Pb := fun H1 e Q q => h1 H1 e _ fun c H2 e2 p => by
  cases c with
  | false => exact h2 p H2 (e.tr e2) Q fun d H3 e3 p3 => q d H3 (e2.tr e3) (k2 d p p3)
  | true => exact q true H2 e2 (k1 p)
theorem et_andP {P1 P2 Pb : Bool → Prop} (h1 : EvT z t σ H P1) (h2 : P1 true → EvT z u σ H P2) (k1 : P1 false → Pb false) (k2 : ∀ b, P1 true → P2 b → Pb b) : EvT z (tAnd t u) σ H Pb := fun H1 e Q q => h1 H1 e _ fun c H2 e2 p => by
  cases c with
  | true => exact h2 p H2 (e.tr e2) Q fun d H3 e3 p3 => q d H3 (e2.tr e3) (k2 d p p3)
  | false => exact q false H2 e2 (k1 p)
/-! ### own lists -/
/-- the new list at p holds ds -/
theorem q_newL {i : Nat} {tl : TA} (hz : z.R H H) (h : EvA z tl σ H (fun vs H' => DUA z.U H' vs ds)) (hl : ds.length ≤ 100000)
    (k : ∀ p H1, H p = none → Bl z p H H1 ds → tu D (σ.set i (some (.ref p))) H1) : tSeq (tAsg (tLst tl) (gName i)) tu D σ H := h H hz _ fun vs H1 r f => ⟨Nat.le_trans (by rw [(f H1 .refl).len]; exact hl) (show 100000 ≤ sizeLine by decide), fun p hp => by
  have hn : H p = none := r.back hp
  have hb : DUA (z.add p).U H1 vs ds := (f H1 .refl).go fun a o n e => ⟨fun u => u.elim n fun q => (by rw [q, hp] at e; cases e), e⟩
  refine k p _ hn ⟨r.tr (r.dr.new hp), fun a o nu e => ?_, vs, upd_same, hb.w (Zn.W.dn (r.dr.new hp).w)⟩
  have ne : a ≠ p := fun q => nu (Or.inr q)
  rw [upd_ne ne] at e ⊢
  exact r.w a o (fun u => nu (Or.inl u)) e⟩
/-- xs = list(ys) -/
theorem q_copyL {i : Nat} (hz : z.R H H) (h : Ev z te σ H (Dd z (.list ds)))
    (k : ∀ p H1, H p = none → Bl z p H H1 ds → tu D (σ.set i (some (.ref p))) H1) : tSeq (tAsg (tCB (fun xs H Q => ∃ p ys, xs = [.ref p] ∧ (SqL K H p ys ∨ SqT K H p ys) ∧ ∀ l, H l = none → Q (.ref l) (upd H l (.lst ys))) (tCons te tNil)) (gName i)) tu D σ H := h H hz _ fun v H1 r f => by
  obtain ⟨a, vs, ev, nu, ha, hd⟩ := (f H1 .refl).lstAt
  refine ⟨a, vs, by rw [ev], .inl (.inl (.inl ha)), fun p hp => ?_⟩
  have hn : H p = none := r.back hp
  have hb : DUA (z.add p).U H1 vs ds := hd.go fun a o n e => ⟨fun u => u.elim n fun q => (by rw [q, hp] at e; cases e), e⟩
  refine k p _ hn ⟨r.tr (r.dr.new hp), fun a o nu e => ?_, vs, upd_same, hb.w (Zn.W.dn (r.dr.new hp).w)⟩
  have ne : a ≠ p := fun q => nu (Or.inr q)
  rw [upd_ne ne] at e ⊢
  exact r.w a o (fun u => nu (Or.inl u)) e
/-- xs[j] = e, of one's own -/
theorem bl_set {H' : Hp} {e : PyData} {j : Nat} (b : Bl z p H H' ds) (hn : H p = none) (hz : z.R H H) (ho : ∀ H1, (z.add p).R H' H1 → Ev (z.add p) to σ H1 (Is (.ref p))) (hi : ∀ H1, (z.add p).R H' H1 → Ev (z.add p) ti σ H1 (Is (.int (j : Int)))) (h : Ev (z.add p) te σ H' (Dd (z.add p) e)) (hj : j < ds.length)
    (k : ∀ H'', (z.add p).W H' H'' → Bl z p H H'' (ds.set j e) → D.nx σ H'') : tAsg te (gSub to ti rSetL) D σ H' := h H' b.rz _ fun v H1 r1 f1 => ho H1 r1 H1 r1.dr _ fun v2 H2 r2 f2 => hi H2 (r1.tr r2) H2 r2.dr _ fun v3 H3 r3 f3 => by
  have q2 : v2 = .ref p := f2 H2 .refl
  have q3 : v3 = .int (j : Int) := f3 H3 .refl
  subst q2
  subst q3
  have r13 := (r1.tr r2).tr r3
  have b3 := b.go hn hz r13
  obtain ⟨vs, hv, hd⟩ := b3.b
  have hlen := hd.len
  have w : (z.add p).W H3 (upd H3 p (.lst (vs.set j v))) := fun a o nu e => by
    rw [upd_ne (fun q => nu (Or.inr q))]
    exact e
  refine ⟨p, vs, (j : Int), j, rfl, rfl, hv, Evl.ixN_nat (by omega), k _ (r13.w.tr w) ⟨b3.r.mut hn, b3.w.tr w, vs.set j v, upd_same, ?_⟩⟩
  exact (hd.w w).set ((f1 _ ((r2.tr r3).w.tr w)))
theorem ev_ixDL {d : PyData} {j : Nat} (h : Ev z ta σ H (Dd z (.list ds))) (h2 : ∀ H1, z.R H H1 → Ev z tb σ H1 (Is (.int (j : Int)))) (hd : ds[j]? = some d) : Ev z (tOp (rIxL K) ta tb) σ H (Dd z d) :=
  ev_op h (fun _ H1 r _ => h2 H1 r) fun x y H1 r fx fy Q q => by
    obtain ⟨a, vs, ex, nu, ha, hds⟩ := DU.lstAt fx
    have ey : y = .int (j : Int) := fy
    have hlen := hds.len
    have hj : j < vs.length := by rw [hlen]; exact (List.getElem?_eq_some_iff.mp hd).1
    obtain ⟨d', hd', dv⟩ := hds.at (List.getElem?_eq_getElem hj)
    rw [hd] at hd'
    cases hd'
    exact ⟨a, vs, j, _, ex, ey, .inl (.inl ha), atI_nat (List.getElem?_eq_getElem hj), q _ H1 r.dr fun H2 w => dv.w w⟩
/-- lists one behind the other, by a property of their items -/
theorem ev_catP {Φ1 Φ2 Φ : List V → Hp → Prop} (ha : Ev z ta σ H (Lst z Φ1)) (hb : ∀ H1, z.R H H1 → Ev z tb σ H1 (Lst z Φ2)) (hΦ : ∀ a b H', Φ1 a H' → Φ2 b H' → Φ (a ++ b) H' ∧ a.length + b.length ≤ 100000) (hW : ∀ ws H1 H2, z.W H1 H2 → Φ ws H1 → Φ ws H2) : Ev z (tOp rCat ta tb) σ H (Lst z Φ) :=
  ev_op ha (fun _ H1 r _ => hb H1 r) fun x y H1 r ⟨p, ws, e1, n1, h1, l1⟩ ⟨p', us, e2, n2, h2, l2⟩ Q q => by
    obtain ⟨k1, k2⟩ := hΦ ws us H1 l1 l2
    exact ⟨p, p', _, _, e1, e2, h1, h2, Nat.le_trans k2 (by decide), fun d hd => q _ _ (r.dr.new hd) fun H3 w => ⟨d, _, rfl, r.dr.nu hd, w d _ (r.dr.nu hd) upd_same, hW _ _ _ ((r.dr.new hd).w.tr w) k1⟩⟩
/-- list(range(n)) -/
theorem ev_listRg {n : Nat} (h : Ev z ta σ H (Is (.int (n : Int)))) (hn : n ≤ 100000) : Ev z (tLstRg (tRg1 ta)) σ H (Lst z fun ws _ => ws = (List.range n).map fun (i : Nat) => V.int (i : Int)) := fun H1 e Q q =>
  h H1 e _ fun v H2 e2 f => ⟨(n : Int), f H2 .refl, RgOk.of_le (by omega) (by omega) (by omega) (by omega), fun p hp => q _ _ (e2.tr (e2.dr.new hp)) fun H3 w =>
    ⟨p, _, rfl, e2.dr.nu hp, w p _ (e2.dr.nu hp) upd_same, by
      unfold rgV
      rw [show ((n : Int) - 0).toNat = n by omega]
      congr 1
      funext i
      rw [Int.zero_add]⟩⟩
/-! ### calls in a try -/
theorem q_tryN {sp : Sp} {gV : List V → List V → List V} {n m : Nat} {l : List Cl} {tc tk : TA} {Φ Ψ : List V → Hp → Prop} {K' : PySem.W.Frag} (hR : z.R H H) (h : EvA z tc σ H Φ) (h2 : ∀ vs H1, z.R H H1 → Φ vs H1 → EvA z tk σ H1 Ψ)
    (k : ∀ vs zs H2, z.R H H2 → Φ vs H2 → Ψ zs H2 → vs.length = n ∧ zs.length = m ∧ sp (gV vs zs) H2 (fun _ H3 => tu D σ H3) (fun cls d H3 => wManyA K' { D with nx := tu D } l cls d σ H3)) :
    tSeq (fun D σ H => tDrop (tCallNS n m sp gV (WE (wManyA K' D l)) tc tk) D σ H) tu D σ H := h H hR _ fun vs H1 r f => h2 vs H1 r (f H1 .refl) H1 r.dr _ fun zs H2 r2 f2 => k vs zs H2 (r.tr r2) (f H2 r2.w) (f2 H2 .refl)
/-- x = (word, f(..)) in a try -/
theorem q_tryPair {sp : Sp} {gV : List V → List V → List V} {n m i : Nat} {a : V} {l : List Cl} {tc tk : TA} {Φ Ψ : List V → Hp → Prop} {K' : PySem.W.Frag} (hR : z.R H H) (h : EvA z tc σ H Φ) (h2 : ∀ vs H1, z.R H H1 → Φ vs H1 → EvA z tk σ H1 Ψ)
    (k : ∀ vs zs H2, z.R H H2 → Φ vs H2 → Ψ zs H2 → vs.length = n ∧ zs.length = m ∧ sp (gV vs zs) H2 (fun v H3 => ([a, v] : List V).length ≤ sizeLine ∧ ∀ q, H3 q = none → tu D (σ.set i (some (.ref q))) (upd H3 q (.tup [a, v]))) (fun cls d H3 => wManyA K' { D with nx := tu D } l cls d σ H3)) :
    tSeq (fun D σ H => tAsg (tTup (tCons (tC a) (tCons (tCallNS n m sp gV (WE (wManyA K' D l)) tc tk) tNil))) (gName i) D σ H) tu D σ H := h H hR _ fun vs H1 r f => h2 vs H1 r (f H1 .refl) H1 r.dr _ fun zs H2 r2 f2 => by
  exact k vs zs H2 (r.tr r2) (f H2 r2.w) (f2 H2 .refl)
end
/-! ### the kind of a refusal -/
def spSortN (nm : Str) (C : Addr) (p : Addr × Obj) : Sp := fun vs H Q _ => ∃ (z : Zn) (dx : Addr) (fs : List (Str × V)), vs = [.ref p.1] ∧ z.R H H ∧ Zc (.ref C) (some dx) p.2 ∧ (∃ us, p.2.data = .fields us) ∧ z.I dx = none ∧ H dx = some (.xd fs) ∧ ∀ H', z.R H H' → Q (.str nm) H'
section
variable {z : Zn} {K : PySem.W.Frag} {σ : L2.St} {H : Hp} {te : TE} {a C dx : Addr} {fs : List (Str × V)} {E : XK}
theorem ev_sortN {nm : Str} (nd : z.I dx = none) (hd : H dx = some (.xd fs)) (h : Ev z te σ H (Is (.ref a))) : Ev z (tCall (spAll (spSortN nm C) a (.ref C) (some dx)) [] E (tCons te tNil)) σ H (Is (.str nm)) :=
  ev_call (ea_is h ea_nil) fun vs H1 r e Q q => by
    subst e
    exact fun oe hz hf => ⟨z, dx, fs, rfl, r.dr, hz.zc, hf, nd, r.kp dx _ nd hd, fun H' r' => q _ H' r' fun _ _ => rfl⟩
end
end FB

set_option Elab.async false
set_option linter.all false
set_option maxRecDepth 100000
set_option maxHeartbeats 4000000
/-! FPl: a dict and a tuple compared. -/
namespace PySem.SeqAt
open PySem PyProof.Rows
theorem dict_eq_declines_tuple (l b : Addr) (es : Array DictEntry) (items2 : Array Value) (n2 : Nat) (dd dd2 : Option Addr) (sl sl2 : Array (Option Value)) (ep : Nat) :
    Meets (Builtin.«dict.__eq__» ⟨[.ref l, .ref b], []⟩) (fun _ R s => s.heap.get? l = some { cls := .type "dict", dict := dd, data := .dict es ep, slots := sl } ∧ s.heap.get? b = some { cls := .type "tuple", dict := dd2, data := .seq items2 n2, slots := sl2 } ∧ R (.ok (.ret .notImplemented)) s) :=
  .of_wp fun prog w A R s h => by obtain ⟨hp, g, d, tk, os⟩ := s; obtain ⟨hl, hb, h⟩ := h; have f1 := F.sub_tuple_dict; wp_walk using wpAny_loadPart' hl, wpAny_loadPart' hb; exact ⟨_, rfl, h⟩
theorem tuple_eq_declines_dict (l b : Addr) (items : Array Value) (es : Array DictEntry) (n : Nat) (dd dd2 : Option Addr) (sl sl2 : Array (Option Value)) (ep : Nat) :
    Meets (Builtin.«tuple.__eq__» ⟨[.ref l, .ref b], []⟩) (fun _ R s => s.heap.get? l = some { cls := .type "tuple", dict := dd, data := .seq items n, slots := sl } ∧ s.heap.get? b = some { cls := .type "dict", dict := dd2, data := .dict es ep, slots := sl2 } ∧ R (.ok (.ret .notImplemented)) s) :=
  .of_wp fun prog w A R s h => by obtain ⟨hp, g, d, tk, os⟩ := s; obtain ⟨hl, hb, h⟩ := h; have f1 := F.sub_dict_tuple; wp_walk using wpAny_loadPart' hl, wpAny_loadPart' hb; exact ⟨_, rfl, h⟩
end PySem.SeqAt

namespace PySem.SeqAt
theorem RcAt.dict_tuple {A : Around} {s : Shared} {l b : Addr} {o : Obj} {es : Array DictEntry} {ep : Nat} {items2 : Array Value} (ho : s.heap.get? l = some o) (hx : o.ExactDict) (hd : o.data = Data.dict es ep) (hb : s.heap.IsTuple b items2) (hu : A.units < cLine) : RcAt A s (.ref l) (.ref b) false := fun prog w E Q h => by
  obtain ⟨⟨cls2, dd2, data2, sl2⟩, ho2, hc2, n2, hd2⟩ := id hb
  obtain ⟨cls, dd, data, sl⟩ := o
  have hc : cls = .type "dict" := hx.1
  simp only at hc2 hd2 hd
  subst hc hd hc2 hd2
  have hne : l ≠ b := fun e => by
    subst e
    have e3 : Value.type "dict" = Value.type "tuple" := congrArg Obj.cls (Option.some.inj (ho.symm.trans ho2))
    injection e3 with e3
    exact absurd e3 (by decide)
  exact (rc_eq_decline_or (k := false) ⟨_, ho, rfl⟩ ⟨_, ho2, rfl⟩ (by decide) F.sub_tuple_dict F.slot_dict_eq F.slot_tuple_eq_refl
    (fun _ hq => call_meets F.slot_dict_eq ⟨_, ho, rfl⟩ F.entry_dict_eq (F.args_dict_eq_2 _ _) (dict_eq_declines_tuple l b es items2 n2 dd dd2 sl sl2 ep) ⟨ho, ho2, hq⟩)
    (fun _ hq => call_meets F.slot_tuple_eq_refl ⟨_, ho2, rfl⟩ F.entry_tuple_eq (F.args_tuple_eq_2 _ _) (tuple_eq_declines_dict b l items2 es n2 dd2 dd sl2 sl ep) ⟨ho2, ho, hq⟩)
    (fun _ hq => wpAny_isSame_ref_other hne ho ho2 (by simp) hq) (.inr hu) h)
end PySem.SeqAt
namespace FB
open PySem PySem.Spec PyProof.Rows L2 RZ
/-- x == y, or a dict and a tuple, which are never alike -/
def rEqT (K : PySem.W.Frag) : R2 := fun x y H Q => rEqD K x y H Q ∨ ∃ a b kvs ys, x = .ref a ∧ y = .ref b ∧ H a = some (.dK kvs) ∧ H b = some (.tup ys) ∧ Q (.bl false) H
theorem op_eqT {X : Cx} {K : PySem.W.Frag} (hu : X.A.units + 64 < cLine) (hK : X.K = K := by rfl) : OpR X (compareOp .Eq) (rEqT K) := by
  subst hK
  intro pins s σ H x y v u Q I rx ry h
  rcases h with h | ⟨a, b, kvs, ys, rfl, rfl, ha, hb, q⟩
  · exact op_eqD hu pins s σ H x y v u Q I rx ry h
  · obtain rfl : v = Value.ref a := rx
    obtain rfl : u = Value.ref b := ry
    obtain ⟨_, hs, vs, kv, o, es, ep, ho, hx, hd, _, pr, _⟩ := (show ObjOk X.prog X.w H s.heap a (.dK kvs) from I.hok a _ ha)
    obtain ⟨_, its, rv, o2, ho2, hc2, n2, hd2⟩ := (show ObjOk X.prog X.w H s.heap b (.tup ys) from I.hok b _ hb)
    exact SeqAt.RcAt.dict_tuple ho hx hd ⟨o2, ho2, hc2, n2, hd2⟩ (by omega) X.prog X.w _ _ ⟨.bl false, H, I, rfl, q⟩
section
variable {z : Zn} {K : PySem.W.Frag} {σ : L2.St} {H : Hp} {ta tb : TE}
/-- () -/
def isNilT : PyData → Bool
  | .tuple ds => ds.isEmpty
  | _ => false
theorem eqv_nilT : ∀ d : PyData, d.hasDict = false → PyData.eqv d (.tuple []) = isNilT d
  | .none, _ => by simp [PyData.eqv, isNilT]
  | .bool _, _ => by simp [PyData.eqv, isNilT]
  | .int _, _ => by simp [PyData.eqv, isNilT]
  | .str _, _ => by simp [PyData.eqv, isNilT]
  | .list _, _ => by simp [PyData.eqv, isNilT]
  | .tuple ds, _ => by cases ds <;> simp [PyData.eqv, PyData.eqvAll, isNilT]
  | .dict _, h => by simp [PyData.hasDict] at h
/-- odd == (), whatever it is -/
theorem ev_eqNilT {d : PyData} (ha : Ev z ta σ H (Dd z d)) (hd : d.hasDict = false ∨ ∃ kvs, d = .dict kvs) (hs : d.hasDict = false → SeqAt.shaped d = true) : Ev z (tOp (rEqT K) ta (tTup tNil)) σ H (Is (.bl (isNilT d))) :=
  ev_op (ψ := Dd z (.tuple [])) ha (fun _ H1 r _ => (ed_tup (z := z) (ds := []) ed_nil (by decide))) fun x y H1 r fx fy Q q => by
    rcases hd with hd | ⟨kvs, rfl⟩
    · exact .inl ⟨d, .tuple [], DU.dp fx hd, DU.dp fy rfl, hs hd, by decide +kernel, by rw [eqv_nilT d hd]; exact q _ H1 r.dr fun _ _ => rfl⟩
    · obtain ⟨b, ys, rfl, nb, hb, hds⟩ := DU.tupAt fy
      cases fx with
      | dct na ea t => exact .inr ⟨_, b, _, ys, rfl, rfl, ea, hb, q _ H1 r.dr fun _ _ => rfl⟩
end
end FB

set_option Elab.async false
set_option linter.all false
set_option maxRecDepth 100000
set_option maxHeartbeats 4000000
/-! FPm: what repr tells is text; sizes of data of small ints. -/
namespace FB
open PySem PySem.Spec PyProof.Rows L2 RZ
def ShOk (d : PyData) : Prop := PyData.strOk d.shown = true
theorem strOk_iff {x : Str} : PyData.strOk x = true ↔ ∀ c ∈ x.cps.toList, c < 0x110000 := by
  unfold PyData.strOk
  rw [← Array.all_toList, List.all_eq_true]
  constructor
  · intro h c hc
    exact of_decide_eq_true (h c hc)
  · intro h c hc
    exact decide_eq_true (h c hc)
theorem so_app {a b : Str} (h : PyData.strOk a = true) (h' : PyData.strOk b = true) : PyData.strOk (a ++ b) = true :=
  strOk_iff.mpr fun c hc => (mem_cps_append.mp hc).elim (strOk_iff.mp h c) (strOk_iff.mp h' c)
theorem so_join {s : Str} {ts : List Str} (hs : PyData.strOk s = true) (h : ∀ t ∈ ts, PyData.strOk t = true) : PyData.strOk (Str.join s ts) = true :=
  strOk_iff.mpr fun c hc => ((mem_join s c ts).mp hc).elim (fun ⟨t, ht, hc⟩ => strOk_iff.mp (h t ht) c hc) fun k => strOk_iff.mp hs c k.2
theorem so_int (i : Int) : ShOk (.int i) := strOk_iff.mpr fun c hc => by
  by_cases e : c ≠ 45 ∧ (c < 48 ∨ 57 < c)
  · exact absurd hc (shown_int_free' e i)
  · omega
theorem so_none : ShOk .none := by unfold ShOk; decide +kernel
theorem so_bool (b : Bool) : ShOk (.bool b) := by cases b <;> (unfold ShOk; decide +kernel)
theorem shownAll_map : ∀ ds : List PyData, PyData.shownAll ds = ds.map PyData.shown
  | [] => by simp [PyData.shownAll]
  | d :: r => by simp [PyData.shownAll, shownAll_map r]
theorem so_all {ds : List PyData} (h : ∀ d ∈ ds, ShOk d) : ∀ t ∈ PyData.shownAll ds, PyData.strOk t = true := fun t ht => by
  rw [shownAll_map] at ht
  obtain ⟨d, hd, rfl⟩ := List.mem_map.mp ht
  exact h d hd
theorem so_lst {ds : List PyData} (h : ∀ d ∈ ds, ShOk d) : ShOk (.list ds) := by
  unfold ShOk
  rw [PyData.shown, listText_eq_join]
  exact so_app (so_app (by decide +kernel) (so_join (by decide +kernel) (so_all h))) (by decide +kernel)
theorem so_tup {ds : List PyData} (h : ∀ d ∈ ds, ShOk d) : ShOk (.tuple ds) := by
  unfold ShOk
  rw [PyData.shown]
  refine so_app (so_app (by decide +kernel) (so_join (by decide +kernel) (so_all h))) ?_
  split <;> decide +kernel
theorem Lf.int {i : Int} (h : i.natAbs ≤ 900) : Lf 0 10 (.int i) := by
  have h1 : i.natAbs.log2 ≤ 9 := by
    by_cases e : i.natAbs = 0
    · rw [e]; decide
    · have := (Nat.log2_lt e).mpr (show i.natAbs < 2 ^ 10 by omega)
      omega
  refine ⟨?_, ?_, by simp [PyData.depth], ?_⟩
  · simp only [PyData.showable, decide_eq_true_eq]
    omega
  · simp only [PyData.leavesShort, decide_eq_true_eq]
    show (Str.ofString (toString i)).length ≤ 1000
    have := len_str_of_int i
    omega
  · simp only [PyData.weight]
    split <;> omega
/-- {k: e} -/
theorem ed_dictE {z : Zn} {σ : L2.St} {H : Hp} {te : TE} {k : Int} {d : PyData} (h : ∀ (z' : Zn) H1, z'.R H1 H1 → Ev z' te σ H1 (Dd z' d)) : Ev z (tDisp [(tC (.int k), te)]) σ H (Dd z (.dict [(.int k, d)])) := fun H1 e Q q => fun p hp => by
  have rn : z.R H1 (upd H1 p (.dK [])) := e.dr.new hp
  have rz : (z.add p).R (upd H1 p (.dK [])) (upd H1 p (.dK [])) := rn.dr.up (by rw [upd_same]; simp) (by rw [upd_same]; simp)
  have nu := e.dr.nu hp
  refine h (z.add p) _ rz _ rz _ fun v H3 r3 f => ?_
  have ni : (z.add p).I p = none := e.dr.ni hp
  refine ⟨r3.kp p _ ni upd_same, [(.inl k, v)], rfl, (show 1 ≤ 15 by decide), q _ _ ((rn.tr r3.dn).mut hp) fun H6 w => .dct (kvs := [(.inl k, v)]) (ds := [d]) nu (w p _ nu upd_same) (.cons ?_ .nil)⟩
  have w1 : (z.add p).W H3 (upd H3 p (.dK [(.inl k, v)])) := fun a o n e => by
    rw [upd_ne (fun q => n (Or.inr q))]
    exact e
  exact DU.sub (f _ (w1.tr w.dn))
def smB (d : PyData) : Bool := d.showable && decide (d.depth ≤ 40) && decide (d.shown.length ≤ 10000000) && (!d.hasDict || !hasL d)
theorem sm_of {d : PyData} (h : smB d = true) : Sm d := by
  unfold smB at h
  rw [Bool.and_eq_true, Bool.and_eq_true, Bool.and_eq_true] at h
  refine ⟨h.1.1.1, of_decide_eq_true h.1.1.2, of_decide_eq_true h.1.2, ?_⟩
  have h2 := h.2
  rw [Bool.or_eq_true, Bool.not_eq_true', Bool.not_eq_true'] at h2
  exact h2
def lgB : PyData → Bool
  | .tuple ds => decide (ds.length ≤ 100000)
  | _ => true
theorem lg_of {d : PyData} (h : lgB d = true) : Lg d := fun ds e => by
  subst e
  exact of_decide_eq_true h
section
variable {z : Zn} {K : PySem.W.Frag} {σ : L2.St} {H : Hp} {te ta tb : TE} {ds es : List PyData}
/-! ### tuples of data: slices, items, one behind the other, lists of them -/
theorem ev_slDT {tl th : TO} {lo hi : Option Int} (h : Ev z te σ H (Dd z (.tuple ds))) (h1 : EvO z tl σ H (· = lo)) (h2 : EvO z th σ H (· = hi)) (hc : ∀ {U : Addr → Prop} {H' : Hp} {vs : List V}, DUA U H' vs ds → DUA U H' (cutV vs lo hi) es) : Ev z (L2.tSl (rSlA K) te tl th) σ H (Dd z (.tuple es)) :=
  ev_sl h h1 h2 fun v H1 r f Q q => by
    obtain ⟨a, vs, rfl, nu, ha, hd⟩ := DU.tupAt f
    refine ⟨a, vs, rfl, .inl (.inl ha), fun hcc => ?_, fun _ p hp => ?_⟩
    · have e := cutV_all hcc.1 hcc.2
      have hd' := hc hd
      rw [e] at hd'
      exact q _ H1 r.dr fun H3 w => .tup nu (w a _ nu ha) (hd'.w w)
    · exact q _ _ (r.dr.new hp) fun H3 w => .tup (r.dr.nu hp) (w p _ (r.dr.nu hp) upd_same) ((hc hd).w (z := z) (H := H1) ((r.dr.new hp).w.tr w))
theorem ev_slToT {th : TE} {n : Nat} (h : Ev z te σ H (Dd z (.tuple ds))) (h2 : Ev z th σ H (Is (.int (n : Int)))) : Ev z (L2.tSl (rSlA K) te tNoPart (tPart th)) σ H (Dd z (.tuple (ds.take n))) :=
  ev_slDT h eo_none (eo_some h2) fun hd => by rw [cut_to]; exact hd.take _
theorem ev_slFromT {tl : TE} {n : Nat} (h : Ev z te σ H (Dd z (.tuple ds))) (h2 : Ev z tl σ H (Is (.int (n : Int)))) : Ev z (L2.tSl (rSlA K) te (tPart tl) tNoPart) σ H (Dd z (.tuple (ds.drop n))) :=
  ev_slDT h (eo_some h2) eo_none fun hd => by rw [cut_from]; exact hd.drop _
theorem ev_catDT (ha : Ev z ta σ H (Dd z (.tuple ds))) (hb : ∀ H1, z.R H H1 → Ev z tb σ H1 (Dd z (.tuple es))) (hn : ds.length + es.length ≤ 100000) : Ev z (tOp (rCatA K) ta tb) σ H (Dd z (.tuple (ds ++ es))) :=
  ev_op ha (fun _ H1 r _ => hb H1 r) fun x y H1 r hx hy Q k => by
    obtain ⟨p, ws, rfl, nu, hp, q⟩ := DU.tupAt hx
    obtain ⟨p', ws', rfl, nu', hp', q'⟩ := DU.tupAt hy
    have l1 := q.len
    have l2 := q'.len
    have cat : ∀ H3, z.W H1 H3 → ∀ p0 us, H3 p0 = some (.tup us) → ¬ z.U p0 → us = ws ++ ws' → Dd z (.tuple (ds ++ es)) (.ref p0) H3 := fun H3 w p0 us h0 n0 eu => .tup n0 h0 (by rw [eu]; exact (q.w w).app (q'.w w))
    refine ⟨p, p', ws, ws', rfl, rfl, .inl (.inl hp), .inl (.inl hp'), Nat.le_trans (show ws.length + ws'.length ≤ 100000 by omega) (by decide), fun h1 => ?_, fun _ h2 => ?_, fun _ _ d hd => ?_⟩
    · exact k _ H1 r.dr fun H3 w => cat H3 w p' ws' (w p' _ nu' hp') nu' (by rw [h1]; rfl)
    · exact k _ H1 r.dr fun H3 w => cat H3 w p ws (w p _ nu hp) nu (by rw [h2, List.append_nil])
    · exact k _ _ (r.dr.new hd) fun H3 w => cat H3 ((r.dr.new hd).w.tr w) d _ (w d _ (r.dr.nu hd) upd_same) (r.dr.nu hd) rfl
theorem ev_ixDT {d : PyData} {j : Nat} (h : Ev z ta σ H (Dd z (.tuple ds))) (h2 : ∀ H1, z.R H H1 → Ev z tb σ H1 (Is (.int (j : Int)))) (hd : ds[j]? = some d) : Ev z (tOp (rIxT K) ta tb) σ H (Dd z d) :=
  ev_op h (fun _ H1 r _ => h2 H1 r) fun x y H1 r fx fy Q q => by
    obtain ⟨a, vs, ex, nu, ha, hds⟩ := DU.tupAt fx
    have ey : y = .int (j : Int) := fy
    have hlen := hds.len
    have hj : j < vs.length := by rw [hlen]; exact (List.getElem?_eq_some_iff.mp hd).1
    obtain ⟨d', hd', dv⟩ := hds.at (List.getElem?_eq_getElem hj)
    rw [hd] at hd'
    cases hd'
    exact ⟨a, vs, j, _, ex, ey, .inl (.inl ha), atI_nat (List.getElem?_eq_getElem hj), q _ H1 r.dr fun H2 w => dv.w w⟩
/-- list(a tuple) -/
theorem ev_listDT (h : Ev z te σ H (Dd z (.tuple ds))) : Ev z (tCB (fun xs H Q => ∃ p ys, xs = [.ref p] ∧ (SqL K H p ys ∨ SqT K H p ys) ∧ ∀ l, H l = none → Q (.ref l) (upd H l (.lst ys))) (tCons te tNil)) σ H (Dd z (.list ds)) := fun H1 e Q q =>
  h H1 e _ fun v H2 e2 f => by
    obtain ⟨a, vs, ev, nu, ha, hd⟩ := (f H2 .refl).tupAt
    exact ⟨a, vs, by rw [ev], .inr (.inl (.inl ha)), fun p hp => q _ _ (e2.tr (e2.dr.new hp)) fun H3 w => .lst (e2.dr.nu hp) (w p _ (e2.dr.nu hp) upd_same) (hd.w ((e2.dr.new hp).w.tr w))⟩
theorem ev_lenDT (h : Ev z te σ H (Dd z (.tuple ds))) : Ev z (tCB (fun xs H Q => ∃ y n, xs = [y] ∧ LenV K y H n ∧ Q (.int n) H) (tCons te tNil)) σ H (Is (.int (ds.length : Int))) := fun H1 e Q q =>
  h H1 e _ fun v H2 e2 f => by
    obtain ⟨a, vs, ev, nu, ha, hd⟩ := (f H2 .refl).tupAt
    refine ⟨_, ds.length, rfl, ?_, q _ H2 e2 fun _ _ => rfl⟩
    rw [ev, ← hd.len]
    exact Or.inr ⟨vs, .inl (.inl ha), rfl⟩
/-- int(a truth) -/
theorem ev_int1 {b : Bool} (h : Ev z te σ H (Is (.bl b))) : Ev z (tCB (fun xs H Q => (∃ i, xs = [.int i] ∧ Q (.int i) H) ∨ ∃ k, xs = [.bl k] ∧ Q (.int (if k then 1 else 0)) H) (tCons te tNil)) σ H (Is (.int (if b then 1 else 0))) := fun H1 e Q q =>
  h H1 e _ fun v H2 e2 f => .inr ⟨b, by rw [show v = .bl b from f H2 .refl], q _ H2 e2 fun _ _ => rfl⟩
/-- an item of a list of data, by a draw below its length -/
theorem ix_le {n : Nat} (ha : Ev z ta σ H (Dd z (.list ds))) (hb : ∀ H1, z.R H H1 → Ev z tb σ H1 (Nn n)) (hn : n ≤ ds.length) : Ev z (tOp (rIxL K) ta tb) σ H (Ds z (· ∈ ds.take n)) :=
  ev_op ha (fun _ H1 r _ => hb H1 r) fun x y H1 r fx ⟨i, ey, hi⟩ Q q => by
    obtain ⟨a, vs, ex, nu, hav, hds⟩ := DU.lstAt fx
    have hlen := hds.len
    have hj : i < vs.length := by omega
    obtain ⟨d, hd, dv⟩ := hds.at (List.getElem?_eq_getElem hj)
    have hm : d ∈ ds.take n := List.mem_of_getElem? (i := i) (by rw [List.getElem?_take, if_pos hi]; exact hd)
    exact ⟨a, vs, i, _, ex, ey, .inl (.inl hav), atI_nat (List.getElem?_eq_getElem hj), q _ H1 r.dr fun H2 w => ⟨d, hm, dv.w w⟩⟩
theorem ds_to {P P' : PyData → Prop} (h : Ev z te σ H (Ds z P)) (i : ∀ d, P d → P' d) : Ev z te σ H (Ds z P') := h.imp fun v H' _ ⟨d, hd, hv⟩ => ⟨d, i d hd, hv⟩
theorem dd_ds {P : PyData → Prop} {d : PyData} (h : Ev z te σ H (Dd z d)) (hd : P d) : Ev z te σ H (Ds z P) := h.imp fun v H' _ hv => ⟨d, hd, hv⟩
/-- from a drawn thing to what is told of it -/
theorem Ds.at {P : PyData → Prop} {v : V} {H1 : Hp} (f : ∀ H2, z.W H1 H2 → Ds z P v H2) : ∃ d, P d ∧ DU z.U H1 v d := f H1 .refl
end
end FB

set_option Elab.async false
set_option linter.all false
set_option maxRecDepth 100000
set_option maxHeartbeats 4000000
/-! FPn: dicts copied, compared, asked with a default, taken from; the greatest of a list. -/
namespace FB
open PySem PySem.Spec PyProof.Rows L2 RZ
theorem hu64 {n : Nat} (h : n + 64 < cLine) : n < cLine := by omega
/-- d != e, two dicts of the same objects -/
def rNeDS : R2 := fun x y H Q => ∃ a b ks ls, x = .ref a ∧ y = .ref b ∧ H a = some (.dK ks) ∧ H b = some (.dK ls) ∧ ks.length = ls.length ∧ (∀ p ∈ ks, valV ls p.1 = some p.2 ∧ ∃ r, p.2 = .ref r) ∧ Q (.bl false) H
theorem hits_ref {κ : Type} [DecidableEq κ] {A : Around} {s : Shared} {kvs : List (κ × V)} {vb : List (κ × Value)} (rb : KV kvs vb) {ks : List (κ × V)} {va : List (κ × Value)} (ra : KV ks va) (hp : ∀ p ∈ ks, valV kvs p.1 = some p.2 ∧ ∃ r, p.2 = .ref r) : W.KeqHits A s vb va true := by
  revert hp
  refine Paired.rec (motive := fun {ks} {va} ra => (∀ p ∈ ks, valV kvs p.1 = some p.2 ∧ ∃ r, p.2 = .ref r) → W.KeqHits A s vb va true) (fun _ => .nil) (fun {p q ps qs} h t ih hp => ?_) ra
  obtain ⟨h1, h2⟩ := h
  obtain ⟨e, r, er⟩ := hp p List.mem_cons_self
  have rr := KV.val rb p.1
  rw [e] at rr
  obtain ⟨y, hy, ry⟩ := RelO.some_of rr
  obtain ⟨k, v⟩ := q
  have h1' : p.1 = k := h1
  rw [er] at ry
  have h2' : RelV p.2 v := h2
  rw [er] at h2'
  have ev : v = Value.ref r := h2'
  have ey : y = Value.ref r := ry
  rw [h1', ey] at hy
  rw [ev]
  exact W.KeqHits.hit (e := true) (b := true) hy (SeqAt.EqAt.same _) (ih fun p' hm => hp p' (List.mem_cons_of_mem p hm))
theorem op_neDS {X : Cx} (hu : X.A.units < cLine) : OpR X (compareOp .NotEq) rNeDS := by
  intro pins s σ H x y v u Q I rx ry h
  obtain ⟨a, b, ks, ls, rfl, rfl, ea, eb, hlen, hp, q⟩ := h
  obtain rfl : v = Value.ref a := rx
  obtain rfl : u = Value.ref b := ry
  obtain ⟨_, ya, va, ra, da⟩ := (show ObjOk X.prog X.w H s.heap a (.dK ks) from I.hok a _ ea)
  obtain ⟨_, yb, vb, rb, db⟩ := (show ObjOk X.prog X.w H s.heap b (.dK ls) from I.hok b _ eb)
  have hl : va.length = vb.length := by rw [← KV.length ra, ← KV.length rb, hlen]
  exact W.keq_ne ya yb da db hu (fun _ => hits_ref rb ra hp) (fin_bl I q (by rw [hl]; simp))
theorem k_max {X : Cx} {K : PySem.W.Frag} (hc : X.calm = true := by rfl) (h : X.K = K := by rfl) : CallR X (.builtin "max") (rMax K) := h ▸ cr_max hc
def tDictD : TA → TE := tCB (fun xs H Q => ∃ a kvs, xs = [V.ref a] ∧ Rd H a (.dK kvs) ∧ ∀ p, H p = none → Q (.ref p) (upd H p (.dK kvs)))
section
variable {z : Zn} {K : PySem.W.Frag} {σ : L2.St} {H H' H'' : Hp} {te ta tb tc to td ty tx : TE} {E : XK} {D : Ends} {ts tu : TS} {p d a b : Addr} {kvs ks ls : List (Key × V)} {j : Int} {v : V} {ds : List PyData} {φ : VP}
theorem ev_neDS (na : z.I a = none) (nb : z.I b = none) (ea : H a = some (.dK ks)) (eb : H b = some (.dK ls)) (ha : Ev z ta σ H (Is (.ref a))) (hb : ∀ H1, z.R H H1 → Ev z tb σ H1 (Is (.ref b))) (hl : ks.length = ls.length) (hp : ∀ p ∈ ks, valV ls p.1 = some p.2 ∧ ∃ r, p.2 = .ref r) : Ev z (tOp rNeDS ta tb) σ H (Is (.bl false)) :=
  ev_op ha (fun x H1 r _ => hb H1 r) fun x y H1 r ex ey Q q => by
    have ex' : x = .ref a := ex
    have ey' : y = .ref b := ey
    exact ⟨a, b, ks, ls, ex', ey', r.kp a _ na ea, r.kp b _ nb eb, hl, hp, q _ H1 r.dr fun _ _ => rfl⟩
/-- dict(d) -/
theorem ev_dictD (nd : z.I d = none) (hd : H d = some (.dK kvs)) (h : Ev z te σ H (Is (.ref d))) : Ev z (tCB (fun xs H Q => ∃ a kvs, xs = [V.ref a] ∧ Rd H a (.dK kvs) ∧ ∀ p, H p = none → Q (.ref p) (upd H p (.dK kvs))) (tCons te tNil)) σ H (Dic z kvs) := fun H1 e Q q =>
  h H1 e _ fun x H2 e2 f => by
    have hx : x = .ref d := f H2 .refl
    subst hx
    exact ⟨d, kvs, rfl, .inl ((e.tr e2).kp d _ nd hd), fun p hp => q _ _ (e2.tr (e2.dr.new hp)) fun H3 w => ⟨p, rfl, e2.dr.nu hp, w p _ (e2.dr.nu hp) upd_same⟩⟩
/-- d.get(j, e) -/
theorem ev_dget2 (nd : z.I d = none) (hd : H d = some (.dK kvs)) (ho : Ev z td σ H (Is (.ref d))) (hi : ∀ H1, z.R H H1 → Ev z ty σ H1 (Is (.int j))) {φd : VP} (hx : ∀ H1, z.R H H1 → Ev z tx σ H1 φd) (hs : ∀ v, valV kvs (.inl j : Key) = some v → ∀ H1, z.W H H1 → φ v H1) (hno : valV kvs (.inl j : Key) = none → ∀ v H1, φd v H1 → φ v H1) : Ev z (tDGet2 td ty tx) σ H φ := fun H1 e Q q =>
  ho H1 e _ fun x H2 e2 f => by
    have hx' : x = .ref d := f H2 .refl
    refine ⟨d, hx', .inl ⟨kvs, .inl ((e.tr e2).kp d _ nd hd)⟩, hi H2 (e.tr e2) H2 e2.dr _ fun y H3 e3 g => hx H3 ((e.tr e2).tr e3) H3 e3.dr _ fun x3 H4 e4 g4 => ?_⟩
    have hy : y = .int j := g H3 .refl
    subst hy
    have r := ((e.tr e2).tr e3).tr e4
    refine ⟨_, DGet.k (k := (.inl j : Key)) (r.kp d _ nd hd), ?_⟩
    cases ev : valV kvs (.inl j : Key) with
    | none => exact q _ H4 ((e2.tr e3).tr e4) fun H5 w => hno ev _ H5 (g4 H5 w)
    | some v => exact q v H4 ((e2.tr e3).tr e4) fun H5 w => hs v ev H5 (r.w.tr w)
/-- j not in d -/
theorem ev_dnotin2 (nd : z.I d = none) (hd : H d = some (.dK kvs)) (ho : Ev z td σ H (Is (.ref d))) (hi : Ev z ty σ H (Is (.int j))) : Ev z (tDNotIn ty td) σ H (Is (.bl (valV kvs (.inl j : Key)).isNone)) := fun H1 e Q q =>
  hi H1 e _ fun y H2 e2 g => ho H2 (e.tr e2) _ fun x H3 e3 f => by
    have hx : x = .ref d := f H3 .refl
    have hy : y = .int j := g H2 .refl
    subst hy
    have k := DGet.k (k := (.inl j : Key)) (((e.tr e2).tr e3).kp d _ nd hd)
    exact ⟨d, _, hx, k, by
      have qq := q (.bl (valV kvs (.inl j : Key)).isNone) H3 (e2.tr e3) fun _ _ => rfl
      cases hv : valV kvs (.inl j : Key) with
      | none => rw [hv] at qq; exact qq
      | some v => rw [hv] at qq; exact qq⟩
/-- max(a list of ints) -/
theorem ev_maxL {P : Int → Prop} (h : Ev z te σ H (Lst z fun ws _ => ∃ ns : List Int, ws = ns.map V.int ∧ 0 < ns.length ∧ ∀ n ∈ ns, P n)) : Ev z (tCB (rMax K) (tCons te tNil)) σ H (fun v _ => ∃ m, P m ∧ v = .int m) := fun H1 e Q q =>
  h H1 e _ fun x H2 e2 f => by
    obtain ⟨p, ws, rfl, nu, hp, ns, rfl, hl, hP⟩ := f H2 .refl
    exact ⟨p, ns, rfl, .inl (.inl hp), hl, fun m hm _ => q _ H2 e2 fun _ _ => ⟨m, hP m hm, rfl⟩⟩
/-- d.pop(j, None) -/
theorem s_dpop (hR : z.R H H) (ho : Ev z td σ H (Is (.ref d))) (hi : ∀ H1, z.R H H1 → Ev z ty σ H1 (Is (.int j))) (hx : ∀ H1, z.R H H1 → Ev z tx σ H1 φ) (nd : z.I d = none) (hd : H d = some (.dK kvs))
    (k : ∀ H3, z.R H H3 → H3 d = some (.dK kvs) → D.nx σ (upd H3 d (.dK (dropK kvs (.inl j : Key)))) ∧ (valV kvs (.inl j : Key) = none → D.nx σ H3)) : tDrop (tDPop2 td ty tx) D σ H :=
  ho H hR _ fun x H1 r1 f1 => by
    have hx' : x = .ref d := f1 H1 .refl
    refine ⟨d, hx', .inl ⟨kvs, .inl (r1.kp d _ nd hd)⟩, hi H1 r1 H1 r1.dr _ fun y H2 r2 f2 => hx H2 (r1.tr r2) H2 r2.dr _ fun v3 H3 r3 f3 => ?_⟩
    have hy : y = .int j := f2 H2 .refl
    have r := (r1.tr r2).tr r3
    have hd3 := r.kp d _ nd hd
    exact ⟨kvs, .inl j, hd3, hy, fun v hv => (k H3 r hd3).1, fun hv => (k H3 r hd3).2 hv⟩
end
/-! ### stores changed -/
def putS (S : Sto) (j : Int) (ns : List Int) : Sto := if S.any (fun t => decide (t.1 = j)) then S.map (fun t => if t.1 = j then (t.1, ns) else t) else S ++ [(j, ns)]
def dropS (S : Sto) (j : Int) : Sto := S.filter fun t => decide (t.1 ≠ j)
section
variable {U : Addr → Prop} {H : Hp}
theorem kv_any {j : Int} : ∀ {S : Sto} {ws : List V}, ws.length = S.length → (kvZ S ws).any (fun kv => decide (kv.1 = (.inl j : Key))) = S.any fun t => decide (t.1 = j)
  | [], [], _ => rfl
  | t :: S, w :: ws, h => by
    show (decide ((.inl t.1 : Key) = .inl j) || (kvZ S ws).any _) = (decide (t.1 = j) || S.any _)
    rw [kv_any (by simpa using h)]
    congr 1
    exact decide_eq_decide.mpr ⟨fun e => Sum.inl.inj e, fun e => by rw [e]⟩
  | [], _ :: _, h => by simp at h
  | _ :: _, [], h => by simp at h
theorem kv_map {j : Int} {ns : List Int} {v : V} (hv : DU U H v (tuD ns)) : ∀ {S : Sto} {ws : List V}, DUA U H ws (S.map fun t => tuD t.2) → ∃ ws', (kvZ S ws).map (fun kv => if kv.1 = (.inl j : Key) then (kv.1, v) else kv) = kvZ (S.map fun t => if t.1 = j then (t.1, ns) else t) ws' ∧ DUA U H ws' ((S.map fun t => if t.1 = j then (t.1, ns) else t).map fun t => tuD t.2)
  | [], _, .nil => ⟨[], rfl, .nil⟩
  | t :: S, w :: ws, .cons h r => by
    obtain ⟨ws', e, d⟩ := kv_map (j := j) hv r
    by_cases ej : t.1 = j
    · refine ⟨v :: ws', ?_, ?_⟩
      · show (if (.inl t.1 : Key) = .inl j then ((.inl t.1 : Key), v) else _) :: (kvZ S ws).map _ = ((.inl (if t.1 = j then (t.1, ns) else t).1 : Key), v) :: kvZ _ ws'
        rw [e, if_pos (by rw [ej]), if_pos ej]
      · show DUA U H (v :: ws') (tuD (if t.1 = j then (t.1, ns) else t).2 :: _)
        rw [if_pos ej]
        exact .cons hv d
    · refine ⟨w :: ws', ?_, ?_⟩
      · show (if (.inl t.1 : Key) = .inl j then _ else ((.inl t.1 : Key), w)) :: (kvZ S ws).map _ = ((.inl (if t.1 = j then (t.1, ns) else t).1 : Key), w) :: kvZ _ ws'
        rw [e, if_neg (fun q => ej (Sum.inl.inj q)), if_neg ej]
      · show DUA U H (w :: ws') (tuD (if t.1 = j then (t.1, ns) else t).2 :: _)
        rw [if_neg ej]
        exact .cons h d
theorem kv_put {j : Int} {ns : List Int} {v : V} {S : Sto} {ws : List V} (hw : DUA U H ws (S.map fun t => tuD t.2)) (hv : DU U H v (tuD ns)) : ∃ ws', putK (kvZ S ws) (.inl j : Key) v = kvZ (putS S j ns) ws' ∧ DUA U H ws' ((putS S j ns).map fun t => tuD t.2) := by
  have hl : ws.length = S.length := by
    have := hw.len
    rwa [List.length_map] at this
  unfold putK putS
  rw [kv_any hl]
  by_cases h : S.any (fun t => decide (t.1 = j)) = true
  · rw [if_pos h, if_pos h]
    exact kv_map hv hw
  · rw [if_neg h, if_neg h]
    refine ⟨ws ++ [v], kv_snoc hl, ?_⟩
    rw [List.map_append]
    exact hw.app (.one hv)
theorem kv_drop {j : Int} : ∀ {S : Sto} {ws : List V}, DUA U H ws (S.map fun t => tuD t.2) → ∃ ws', dropK (kvZ S ws) (.inl j : Key) = kvZ (dropS S j) ws' ∧ DUA U H ws' ((dropS S j).map fun t => tuD t.2)
  | [], _, .nil => ⟨[], rfl, .nil⟩
  | t :: S, w :: ws, .cons h r => by
    obtain ⟨ws', e, d⟩ := kv_drop (j := j) r
    have e' : (kvZ S ws).filter (fun kv => decide (kv.1 ≠ (.inl j : Key))) = kvZ (dropS S j) ws' := e
    by_cases ej : t.1 = j
    · refine ⟨ws', ?_, ?_⟩
      · show (((.inl t.1 : Key), w) :: kvZ S ws).filter (fun kv => decide (kv.1 ≠ (.inl j : Key))) = kvZ ((t :: S).filter fun t => decide (t.1 ≠ j)) ws'
        rw [List.filter_cons_of_neg (by simp [ej]), List.filter_cons_of_neg (by simp [ej])]
        exact e'
      · show DUA U H ws' (((t :: S).filter fun t => decide (t.1 ≠ j)).map _)
        rw [List.filter_cons_of_neg (by simp [ej])]
        exact d
    · refine ⟨w :: ws', ?_, ?_⟩
      · show (((.inl t.1 : Key), w) :: kvZ S ws).filter (fun kv => decide (kv.1 ≠ (.inl j : Key))) = kvZ ((t :: S).filter fun t => decide (t.1 ≠ j)) (w :: ws')
        rw [List.filter_cons_of_pos (by simpa using fun e : (.inl t.1 : Key) = .inl j => ej (Sum.inl.inj e)), List.filter_cons_of_pos (by simpa using ej)]
        show ((.inl t.1 : Key), w) :: _ = ((.inl t.1 : Key), w) :: kvZ (dropS S j) ws'
        rw [e']
      · show DUA U H (w :: ws') (((t :: S).filter fun t => decide (t.1 ≠ j)).map _)
        rw [List.filter_cons_of_pos (by simpa using ej)]
        exact .cons h d
end
/-- a store as the law makes them -/
structure GoodS (n : Nat) (S : Sto) : Prop where
  nd : (S.map (·.1)).Nodup
  le : S.length ≤ n
  sz : ∀ t ∈ S, t.2.length ≤ 200
theorem GoodS.nil : GoodS 0 [] := ⟨List.nodup_nil, Nat.le_refl _, fun t h => by cases h⟩
theorem GoodS.up {n m : Nat} {S : Sto} (h : GoodS n S) (k : n ≤ m) : GoodS m S := ⟨h.nd, Nat.le_trans h.le k, h.sz⟩
theorem GoodS.put {n : Nat} {S : Sto} (h : GoodS n S) {j : Int} {ns : List Int} (hn : ns.length ≤ 200) : GoodS (n + 1) (putS S j ns) := by
  unfold putS
  by_cases e : S.any (fun t => decide (t.1 = j)) = true
  · rw [if_pos e]
    refine ⟨?_, by rw [List.length_map]; exact Nat.le_succ_of_le h.le, fun t ht => ?_⟩
    · rw [List.map_map]
      have : S.map ((·.1) ∘ fun t => if t.1 = j then (t.1, ns) else t) = S.map (·.1) := List.map_congr_left fun t _ => by
        show (if t.1 = j then (t.1, ns) else t).1 = t.1
        split <;> rfl
      rw [this]
      exact h.nd
    · obtain ⟨u, hu, rfl⟩ := List.mem_map.mp ht
      split
      · exact hn
      · exact h.sz u hu
  · rw [if_neg e]
    have hj : ¬ j ∈ S.map (·.1) := fun m => e (by
      obtain ⟨t, ht, et⟩ := List.mem_map.mp m
      exact List.any_eq_true.mpr ⟨t, ht, decide_eq_true et⟩)
    refine ⟨?_, by rw [List.length_append]; exact Nat.succ_le_succ h.le, fun t ht => ?_⟩
    · rw [List.map_append, List.nodup_append]
      refine ⟨h.nd, List.nodup_cons.mpr ⟨List.not_mem_nil, List.nodup_nil⟩, fun x hx y hy => ?_⟩
      have ey : y = j := by simpa using hy
      rw [ey]
      exact fun e => hj (e ▸ hx)
    · rcases List.mem_append.mp ht with ht | ht
      · exact h.sz t ht
      · rw [List.mem_singleton.mp ht]
        exact hn
theorem GoodS.drop {n : Nat} {S : Sto} (h : GoodS n S) (j : Int) : GoodS n (dropS S j) :=
  ⟨(List.Sublist.map _ List.filter_sublist).nodup h.nd, Nat.le_trans (List.length_filter_le _ _) h.le, fun t ht => h.sz t (List.mem_filter.mp ht).1⟩
theorem GoodS.get {n : Nat} {S : Sto} (h : GoodS n S) {j : Int} {ns : List Int} (e : tabG S j = some ns) : ns.length ≤ 200 := h.sz _ (tabG_mem e)
/-- another order of the same -/
def Same (S T : Sto) : Prop := T.length = S.length ∧ ∀ j, tabG T j = tabG S j
theorem Same.rfl {S : Sto} : Same S S := ⟨Eq.refl _, fun _ => Eq.refl _⟩
/-! ### what is due -/
def lackB (S : Sto) (t : Tri) : Bool := match tabG S t.1 with
  | none => true
  | some ns => decide ((ns.length : Int) < t.2.1 + t.2.2)
def firstLack (S : Sto) (l : List Tri) : Option Int := (l.find? (lackB S)).map (·.1)
theorem lack_none {S : Sto} {l : List Tri} (h : firstLack S l = none) : ∀ t ∈ l, lackB S t = false := fun t ht => by
  unfold firstLack at h
  have := List.find?_eq_none.mp (Option.map_eq_none_iff.mp h) t ht
  simpa using this
theorem lack_has {S : Sto} {l : List Tri} (ho : okL l) (h : ∀ t ∈ l, lackB S t = false) : ∀ c ∈ each l, Has S c := by
  intro c hc
  induction l with
  | nil => cases hc
  | cons t r ih =>
    have hc' : c ∈ eachT t ++ each r := hc
    rcases List.mem_append.mp hc' with hc' | hc'
    · obtain ⟨h1, h2, h3⟩ := ho t List.mem_cons_self
      have hb := h t List.mem_cons_self
      obtain ⟨k, hk, rfl⟩ := List.mem_map.mp hc'
      have hk := List.mem_range.mp hk
      unfold lackB at hb
      cases e : tabG S t.1 with
      | none => rw [e] at hb; cases hb
      | some ns =>
        rw [e] at hb
        have hb' := of_decide_eq_false hb
        exact ⟨ns, e, by show 0 ≤ t.2.1 + (k : Int); omega, by show (t.2.1 + (k : Int)).toNat < ns.length; omega⟩
    · exact ih (fun t ht => ho t (List.mem_cons_of_mem _ ht)) (fun t ht => h t (List.mem_cons_of_mem _ ht)) hc'
theorem lack_same {S T : Sto} (h : Same S T) (l : List Tri) : firstLack T l = firstLack S l := by
  have : lackB T = lackB S := funext fun t => by
    unfold lackB
    rw [h.2]
  unfold firstLack
  rw [this]
theorem cVal_same {S T : Sto} (h : Same S T) : cVal T = cVal S := funext fun c => by
  unfold cVal
  rw [h.2]
def dueD (S : Sto) (l : List Tri) : PyData := match firstLack S l with
  | some j => .tuple [.str "piece", .str (PyData.int j).shown]
  | none => .tuple [.str "told", tuD ((each l).map (cVal S))]
theorem due_same {S T : Sto} (h : Same S T) (l : List Tri) : dueD T l = dueD S l := by
  unfold dueD
  rw [lack_same h, cVal_same h]
end FB

set_option Elab.async false
set_option linter.all false
set_option maxRecDepth 100000
set_option maxHeartbeats 4000000
namespace K09
open PySem PySem.Spec PyProof.Rows L2 FB RZ
def topS (i : Nat) : Stmt := PySem.Challenge.pw_farfiles_k09_cells_of_parts.main.body.getD i (.Pass ⟨0, 0, 0, 0⟩)
abbrev s_is_whole : Stmt := topS 26
theorem sc_is_whole : FnScope ["thing"] ["thing"] (defScope s_is_whole) := ⟨rfl, rfl, rfl, by decide +kernel, rfl, by decide +kernel, by decide +kernel⟩
abbrev s_is_parts : Stmt := topS 28
theorem sc_is_parts : FnScope ["thing", "part"] ["thing"] (defScope s_is_parts) := ⟨rfl, rfl, rfl, by decide +kernel, rfl, by decide +kernel, by decide +kernel⟩
abbrev s_cells : Stmt := topS 29
theorem sc_cells : FnScope ["parts", "pieces", "piece", "first", "many"] ["parts", "pieces"] (defScope s_cells) := ⟨rfl, rfl, rfl, by decide +kernel, rfl, by decide +kernel, by decide +kernel⟩
abbrev s_gathered : Stmt := topS 30
theorem sc_gathered : FnScope ["parts", "pieces", "piece", "first", "many", "found"] ["parts", "pieces"] (defScope s_gathered) := ⟨rfl, rfl, rfl, by decide +kernel, rfl, by decide +kernel, by decide +kernel⟩
abbrev s__is_part : Stmt := topS 31
theorem sc__is_part : FnScope ["thing", "piece", "first", "many"] ["thing"] (defScope s__is_part) := ⟨rfl, rfl, rfl, by decide +kernel, rfl, by decide +kernel, by decide +kernel⟩
abbrev s__law_purse : Stmt := topS 33
theorem sc__law_purse : FnScope ["_law_script", "_law_k", "_law_cell"] ["_law_script", "_law_k"] (defScope s__law_purse) := ⟨rfl, rfl, rfl, by decide +kernel, rfl, by decide +kernel, by decide +kernel⟩
abbrev s__law_take : Stmt := topS 34
theorem sc__law_take : FnScope ["_law_purse_here", "_law_span", "_law_found"] ["_law_purse_here", "_law_span"] (defScope s__law_take) := ⟨rfl, rfl, rfl, by decide +kernel, rfl, by decide +kernel, by decide +kernel⟩
abbrev s__law_sort : Stmt := topS 35
theorem sc__law_sort : FnScope ["_law_e", "_law_kinds", "_law_odd"] ["_law_e"] (defScope s__law_sort) := ⟨rfl, rfl, rfl, by decide +kernel, rfl, by decide +kernel, by decide +kernel⟩
abbrev s__law_parts : Stmt := topS 36
theorem sc__law_parts : FnScope ["_law_purse_here", "_law_most", "_law_found", "_law_turn", "_law_way", "_law_piece", "_law_first"] ["_law_purse_here", "_law_most"] (defScope s__law_parts) := ⟨rfl, rfl, rfl, by decide +kernel, rfl, by decide +kernel, by decide +kernel⟩
abbrev s__law_store : Stmt := topS 37
theorem sc__law_store : FnScope ["_law_purse_here", "_law_lot", "_law_store_here", "_law_piece", "_law_most", "_law_one", "_law_first", "_law_size", "_law_turn"] ["_law_purse_here", "_law_lot"] (defScope s__law_store) := ⟨rfl, rfl, rfl, by decide +kernel, rfl, by decide +kernel, by decide +kernel⟩
abbrev s__law_due : Stmt := topS 38
theorem sc__law_due : FnScope ["_law_lot", "_law_store_here", "_law_found", "_law_piece", "_law_first", "_law_size", "_law_row", "_law_k"] ["_law_lot", "_law_store_here"] (defScope s__law_due) := ⟨rfl, rfl, rfl, by decide +kernel, rfl, by decide +kernel, by decide +kernel⟩
abbrev s__law_asked : Stmt := topS 39
theorem sc__law_asked : FnScope ["_law_lot", "_law_store_here", "_law_found", "_law_e"] ["_law_lot", "_law_store_here"] (defScope s__law_asked) := ⟨rfl, rfl, rfl, by decide +kernel, rfl, by decide +kernel, by decide +kernel⟩
abbrev s__law_turns : Stmt := topS 40
theorem sc__law_turns : FnScope ["_law_store_here", "_law_spots", "_law_piece", "_law_row"] ["_law_store_here"] (defScope s__law_turns) := ⟨rfl, rfl, rfl, by decide +kernel, rfl, by decide +kernel, by decide +kernel⟩
abbrev s__law_right : Stmt := topS 41
theorem sc__law_right : FnScope ["_law_lot", "_law_store_here", "_law_kept", "_law_due_here", "_law_mate", "_law_spots"] ["_law_lot", "_law_store_here"] (defScope s__law_right) := ⟨rfl, rfl, rfl, by decide +kernel, rfl, by decide +kernel, by decide +kernel⟩
abbrev s__law_less : Stmt := topS 42
theorem sc__law_less : FnScope ["_law_purse_here", "_law_lot", "_law_store_here", "_law_found", "_law_turn", "_law_piece", "_law_row", "_law_way"] ["_law_purse_here", "_law_lot", "_law_store_here"] (defScope s__law_less) := ⟨rfl, rfl, rfl, by decide +kernel, rfl, by decide +kernel, by decide +kernel⟩
abbrev s__law_long_right : Stmt := topS 43
theorem sc__law_long_right : FnScope ["_law_row", "_law_k"] [] (defScope s__law_long_right) := ⟨rfl, rfl, rfl, by decide +kernel, rfl, by decide +kernel, by decide +kernel⟩
abbrev s_law : Stmt := topS 44
theorem sc_law : FnScope ["_law_script", "_law_k", "_law_purse_here", "_law_lot", "_law_store_here", "_law_turn"] ["_law_script"] (defScope s_law) := ⟨rfl, rfl, rfl, by decide +kernel, rfl, by decide +kernel, by decide +kernel⟩
structure Rs where
  C : Addr
  fI : Addr
  cc : Addr
  cda : Addr
structure Cs where
  Busy : Addr
  Down : Addr
  HouseError : Addr
  IsGone : Addr
  NoAsker : Addr
  NoDeed : Addr
  NoGroups : Addr
  NoHouse : Addr
  NoLetter : Addr
  NoMany : Addr
  NoOrder : Addr
  NoQuestion : Addr
  NoRights : Addr
  NoRow : Addr
  NoRows : Addr
  NoSign : Addr
  NoTick : Addr
  NoUsers : Addr
  NoWord : Addr
  Up : Addr
  NoParts : Addr
  NoPlace : Addr
  NoPiece : Addr
  FarError : Addr
/-- what the module's names hold -/
structure Tx (P : Program) (K : PySem.W.Frag) (mg : Str → Option Value) (rs : Rs) (cs : Cs) : Prop where
  len : mg "len" = none
  all : mg "all" = none
  isinstance : mg "isinstance" = none
  repr : mg "repr" = none
  str : mg "str" = none
  tuple : mg "tuple" = none
  bool : mg "bool" = none
  int : mg "int" = none
  list : mg "list" = none
  max : mg "max" = none
  min : mg "min" = none
  range : mg "range" = none
  sum : mg "sum" = none
  dict : mg "dict" = none
  LookupError : mg "LookupError" = none
  ValueError : mg "ValueError" = none
  r_NoPiece : RefTxt P K mg "NoPiece" "piece" "the cells of this piece aren't there" rs.C rs.fI rs.cc rs.cda
  KC : KitC K rs.C
  kl : PySem.W.kitOne K (.ref rs.C) (.type "LookupError") = some false
  kv : PySem.W.kitOne K (.ref rs.C) (.type "ValueError") = some true
  k_Busy : KitTo K mg "Busy" rs.C cs.Busy false
  k_Down : KitTo K mg "Down" rs.C cs.Down false
  k_HouseError : KitTo K mg "HouseError" rs.C cs.HouseError false
  k_IsGone : KitTo K mg "IsGone" rs.C cs.IsGone false
  k_NoAsker : KitTo K mg "NoAsker" rs.C cs.NoAsker false
  k_NoDeed : KitTo K mg "NoDeed" rs.C cs.NoDeed false
  k_NoGroups : KitTo K mg "NoGroups" rs.C cs.NoGroups false
  k_NoHouse : KitTo K mg "NoHouse" rs.C cs.NoHouse false
  k_NoLetter : KitTo K mg "NoLetter" rs.C cs.NoLetter false
  k_NoMany : KitTo K mg "NoMany" rs.C cs.NoMany false
  k_NoOrder : KitTo K mg "NoOrder" rs.C cs.NoOrder false
  k_NoQuestion : KitTo K mg "NoQuestion" rs.C cs.NoQuestion false
  k_NoRights : KitTo K mg "NoRights" rs.C cs.NoRights false
  k_NoRow : KitTo K mg "NoRow" rs.C cs.NoRow false
  k_NoRows : KitTo K mg "NoRows" rs.C cs.NoRows false
  k_NoSign : KitTo K mg "NoSign" rs.C cs.NoSign false
  k_NoTick : KitTo K mg "NoTick" rs.C cs.NoTick false
  k_NoUsers : KitTo K mg "NoUsers" rs.C cs.NoUsers false
  k_NoWord : KitTo K mg "NoWord" rs.C cs.NoWord false
  k_Up : KitTo K mg "Up" rs.C cs.Up false
  k_NoParts : KitTo K mg "NoParts" rs.C cs.NoParts false
  k_NoPlace : KitTo K mg "NoPlace" rs.C cs.NoPlace false
  k_NoPiece : KitTo K mg "NoPiece" rs.C cs.NoPiece true
  k_FarError : KitTo K mg "FarError" rs.C cs.FarError true
section
variable {P : Program} {w : World} {K : PySem.W.Frag} {mg : Str → Option Value} {base : Heap} {rs : Rs} {cs : Cs}
theorem tup_of {d : PyData} (h : isTupD d = true) : ∃ ds, d = .tuple ds := by
  cases d <;> first | exact ⟨_, rfl⟩ | cases h
theorem three_of {ds : List PyData} (h : ds.length = 3) : ∃ a b c, ds = [a, b, c] := by
  match ds, h with
  | [a, b, c], _ => exact ⟨a, b, c, rfl⟩
theorem DUA.three {U : Addr → Prop} {H : Hp} {vs : List V} {a b c : PyData} (h : DUA U H vs [a, b, c]) : ∃ v w x, vs = [v, w, x] ∧ DU U H v a ∧ DU U H w b ∧ DU U H x c := by
  cases h with
  | cons h1 t => cases t with
    | cons h2 t => cases t with
      | cons h3 t => cases t; exact ⟨_, _, _, rfl, h1, h2, h3⟩
theorem ok_is_whole (T : Tx P K mg rs cs) (d_is_whole : Df K mg "is_whole" s_is_whole ["thing"]) : FnOk P w K mg base CX0 1 d_is_whole.f d_is_whole.fd ["thing"] (spLook (fun _ => True) isIntD) := by
  refine d_is_whole.F.ok sc_is_whole spLook_len (fun cdv A outer s H vs Q E hr h => ?_)
  obtain ⟨z, v, d, rfl, hz, hv, _, q⟩ := h
  refine ⟨_, (pss_one (ps_ret (pe_and (pe_callB (k_isi (K := K)) (by rfl) T.isinstance (by decide +kernel) (pa_cons (pv 0) (pa_cons (pe_bltn (v := .ty "int") (by rfl) T.int (by decide +kernel) rfl) pa_nil))) (pe_and (pe_cmpR op_notB2 (pv 0) pe_bl (nomark _)) (pe_one (pe_cmpR op_notB2 (pv 0) pe_bl (nomark _))))))), ?_⟩
  refine s_ret (z := z) hz (ev_and (ev_isi (ev_var rfl fun H' w => hv.w w) (kit_int d)) fun _ => ev_and (ev_notB2 (ev_is rfl)) fun _ => ev_notB2 (ev_is rfl)) fun v' H3 r3 f3 => ?_
  have e := f3 H3 .refl
  subst e
  have e2 : isIntD d = ((isIntD d || isBlD d) && (!decide (v = .bl true) && !decide (v = .bl false))) := by
    cases hv <;> first
      | rfl
      | (rename_i b; cases b <;> rfl)
      | simp [isIntD, isBlD]
  rw [← e2]
  exact q H3 r3
theorem ok_is_part (T : Tx P K mg rs cs) (d__is_part : Df K mg "_is_part" s__is_part ["thing"]) (d_is_whole : Df K mg "is_whole" s_is_whole ["thing"]) (G_is_whole : FnOk P w K mg base CX0 1 d_is_whole.f d_is_whole.fd ["thing"] (spLook (fun _ => True) isIntD)) :
    FnOk P w K mg base CX0 2 d__is_part.f d__is_part.fd ["thing"] (spLook (fun _ => True) isPartD) := by
  refine d__is_part.F.ok sc__is_part spLook_len (fun cdv A outer s H vs Q E hr h => ?_)
  obtain ⟨z, v, d, rfl, hz, hv, _, q⟩ := h
  refine ⟨_, (pss_cons (ps_if (PW.pt (pw_or (pt_not (pt_val (pe_callB (k_isi (K := K)) (by rfl) T.isinstance (by decide +kernel) (pa_cons (pv 0) (pa_cons (pe_bltn (v := .ty "tuple") (by rfl) T.tuple (by decide +kernel) rfl) pa_nil))))) (pw_or1 (pt_cmpR op_ne (pe_callB (k_len (K := K)) (by rfl) T.len PySem.boot_len (pa_cons (pv 0) pa_nil)) pe_int (nomark _)))))
    (pss_one (ps_ret pe_bl))
    pss_nil)
    (pss_cons (ps_asg (pv 0) (k_pgt (K := K) (n := 3) (pgs_cons (pg_name (i := 1) sc__is_part.nd rfl (Or.inl rfl)) (pgs_cons (pg_name (i := 2) sc__is_part.nd rfl (Or.inl rfl)) (pgs_cons (pg_name (i := 3) sc__is_part.nd rfl (Or.inl rfl)) pgs_nil)))))
    (pss_cons (ps_if (pt_not (PW.pt (pw_and (pt_val (pe_call G_is_whole (hr.mono (by decide)) (by rfl) d_is_whole.g d_is_whole.F.kp d_is_whole.b .nil pass0 (pa_cons (pv 1) pa_nil))) (pw_and (pt_val (pe_call G_is_whole (hr.mono (by decide)) (by rfl) d_is_whole.g d_is_whole.F.kp d_is_whole.b .nil pass0 (pa_cons (pv 2) pa_nil))) (pw_and1 (pt_val (pe_call G_is_whole (hr.mono (by decide)) (by rfl) d_is_whole.g d_is_whole.F.kp d_is_whole.b .nil pass0 (pa_cons (pv 3) pa_nil))))))))
    (pss_one (ps_ret pe_bl))
    pss_nil)
    (pss_one (ps_ret (pe_and (pe_cmpR op_ge (pv 1) pe_int (nomark _)) (pe_and (pe_cmpR op_ge (pv 2) pe_int (nomark _)) (pe_one (pe_cmpR op_ge (pv 3) pe_int (nomark _)))))))))), ?_⟩
  have no : ∀ {H2 : Hp} {σ' : L2.St} {N : L2.St → Hp → Prop} {N2 N3 : L2.St → Hp → Prop}, isPartD d = false → z.R H H2 → tRet (tC (.bl false)) { nx := N, ct := N2, bk := N3, rt := Q } σ' H2 := fun e r => s_ret (z := z) r.dr ev_k fun v' H3 r3 f => by
    have e' : v' = .bl false := f H3 .refl
    subst e'
    show Q (.bl false) H3
    rw [← e]
    exact q H3 (r.tr r3)
  by_cases ht : isTupD d = true
  · obtain ⟨ds, rfl⟩ := tup_of ht
    obtain ⟨a, vs, rfl, nu, ha, hds⟩ := hv.tupAt
    have hlen := hds.len
    refine q_if (z := z) hz (et_or (et_not (et_B (ev_isi (ev_var rfl fun H' w => hv.w w) (kit_tup _)))) fun _ => et_test (ev_ne (ev_lenT (ev_tupv rfl nu ha)) ev_k rfl)) (fun hb H1 r1 => ?_) (fun hb H1 r1 => ?_)
    · refine no ?_ r1
      have hne : ds.length ≠ 3 := fun e => by
        rw [hlen, e] at hb
        cases hb
      show (decide (ds.length = 3) && _) = false
      rw [decide_eq_false hne]
      rfl
    · have h3 : ds.length = 3 := by
        simp only [isTupD, Bool.not_true, Bool.false_or, Bool.not_eq_false', decide_eq_true_eq] at hb
        injection hb with hb
        omega
      obtain ⟨da, db, dc, rfl⟩ := three_of h3
      obtain ⟨va, vb, vc, rfl, k1, k2, k3⟩ := DUA.three hds
      refine q_un3 (z := z) r1.dr nu (r1.w a _ nu ha) (ev_is rfl) fun H2 r2 => ?_
      have w2 := (r1.tr r2).w
      refine q_if (z := z) r2.dr (et_not (et_and (et_B (ev_look (ok := fun _ => True) (f := isIntD) (d := da) (ev_var rfl fun H' w => (k1.w w2).w w) trivial)) fun _ => et_and (et_B (ev_look (ok := fun _ => True) (f := isIntD) (d := db) (ev_var rfl fun H' w => (k2.w w2).w w) trivial)) fun _ =>
        et_B (ev_look (ok := fun _ => True) (f := isIntD) (d := dc) (ev_var rfl fun H' w => (k3.w w2).w w) trivial))) (fun hb H3 r3 => ?_) (fun hb H3 r3 => ?_)
      · refine no ?_ ((r1.tr r2).tr r3)
        show (true && ((isIntD da && (isIntD db && isIntD dc)) && _)) = false
        simp only [Bool.not_eq_true'] at hb
        rw [hb]
        rfl
      · simp only [Bool.not_eq_false', Bool.and_eq_true] at hb
        obtain ⟨ia, ib, ic⟩ := hb
        have ea := int_of ia
        have eb := int_of ib
        have ec := int_of ic
        rw [ea] at k1
        rw [eb] at k2
        rw [ec] at k3
        have va' := k1.intAt
        have vb' := k2.intAt
        have vc' := k3.intAt
        subst va'
        subst vb'
        subst vc'
        refine s_ret (z := z) r3.dr (ev_and (ev_i0 (g := fun i j => .bl (decide (j ≤ i))) (ev_is rfl) ev_k) fun _ => ev_and (ev_i0 (g := fun i j => .bl (decide (j ≤ i))) (ev_is rfl) ev_k) fun _ => ev_i0 (g := fun i j => .bl (decide (j ≤ i))) (ev_is rfl) ev_k) fun v' H4 r4 f4 => ?_
        have e := f4 H4 .refl
        subst e
        have e2 : isPartD (.tuple [da, db, dc]) = (decide (1 ≤ iOf da) && (decide (0 ≤ iOf db) && decide (1 ≤ iOf dc))) := by
          show (true && ((isIntD da && (isIntD db && isIntD dc)) && _)) = _
          rw [ia, ib, ic]
          rfl
        rw [← e2]
        exact q H4 (((r1.tr r2).tr r3).tr r4)
  · have ht' : isTupD d = false := by simpa using ht
    refine q_if (z := z) (b := true) hz (et_to (et_or (b := true) (et_not (et_B (ev_isi (ev_var rfl fun H' w => hv.w w) (kit_tup _)))) fun hc => ?_) ?_) (fun hb H1 r1 => ?_) (fun hb => (by cases hb))
    · rw [ht'] at hc; cases hc
    · rw [ht']; rfl
    · exact no (by cases d <;> first | rfl | cases ht') r1
theorem ok_is_parts (T : Tx P K mg rs cs) (d_is_parts : Df K mg "is_parts" s_is_parts ["thing"]) (d__is_part : Df K mg "_is_part" s__is_part ["thing"]) (G__is_part : FnOk P w K mg base CX0 2 d__is_part.f d__is_part.fd ["thing"] (spLook (fun _ => True) isPartD)) :
    FnOk P w K mg base CX0 3 d_is_parts.f d_is_parts.fd ["thing"] (spLook Lg isPartsD) := by
  refine d_is_parts.F.ok sc_is_parts spLook_len (fun cdv A outer s H vs Q E hr h => ?_)
  obtain ⟨z, v, d, rfl, hz, hv, hs, q⟩ := h
  refine ⟨_, (pss_cons (ps_if (pt_not (pt_val (pe_callB (k_isi (K := K)) (by rfl) T.isinstance (by decide +kernel) (pa_cons (pv 0) (pa_cons (pe_bltn (v := .ty "tuple") (by rfl) T.tuple (by decide +kernel) rfl) pa_nil)))))
    (pss_one (ps_ret pe_bl))
    pss_nil)
    (pss_one (ps_ret (pe_callB (k_all (K := K)) (by rfl) T.all (by decide +kernel) (pa_cons (pe_lc (own := [("part", 1)]) (g := gName 1) rfl sc_is_parts.nd  (k_pit (K := K) (pi_tup (pv 0))) (blkOk_by (own := [("part", 1)]) (N := ["thing", "part"]) (sc := defScope s_is_parts) (by decide +kernel)) (fun _ _ _ _ _ => (pg_name (i := 1) sc_is_parts.nd rfl (Or.inl rfl))) (fun _ _ _ _ _ => pts_nil) (fun _ _ _ _ _ => (pe_call G__is_part (hr.mono (by decide)) (by rfl) d__is_part.g d__is_part.F.kp d__is_part.b .nil pass0 (pa_cons (pv 1) pa_nil)))) pa_nil))))), ?_⟩
  refine q_if (z := z) hz (et_not (et_B (ev_isi (ev_var rfl fun H' w => hv.w w) (kit_tup d)))) (fun hb H1 r1 => ?_) (fun hb H1 r1 => ?_)
  · refine s_ret (z := z) r1.dr ev_k fun v' H3 r3 f => ?_
    have e' : v' = .bl false := f H3 .refl
    subst e'
    have e2 : isPartsD d = false := by cases d <;> first | rfl | cases hb
    rw [← e2]
    exact q H3 (r1.tr r3)
  · obtain ⟨ds, rfl⟩ := tup_of (d := d) (by simpa using hb)
    obtain ⟨a, vs, rfl, nu, ha, hds⟩ := hv.tupAt
    have hlen := hds.len
    have hl := hs ds rfl
    have hds1 := hds.w r1.w
    refine s_ret (z := z) (φ := Is (.bl (ds.all isPartD))) r1.dr ?_ fun v' H3 r3 f => ?_
    · refine ev_to (ev_all (K := K) (bs := ds.map isPartD) ((ev_lc (P := (· = vs.length)) (φ := fun i w _ => ∃ d, ds[i]? = some d ∧ w = .bl (isPartD d)) (ei_tup (K := K) (ev_tupv rfl nu (r1.w a _ nu ha))) (fun n e => by omega) (by intro _; rfl) fun n i x D H3 _ hi hx' hD r3 rD => ?_).imp ?_)) ?_
      · obtain ⟨d, hd, dv⟩ := hds1.at hx'
        exact (ev_look (ok := fun _ => True) (f := isPartD) (ev_var rfl fun H' w => (dv.add hD r3.w).w w) trivial).imp fun w H' _ e => ⟨d, hd, e⟩
      · rintro v H' _ ⟨p, ws, e1, e2, e3, e4, e5⟩
        exact ⟨p, ws, e1, e2, e3, bl_of (by rw [e4, hlen]) e5⟩
      · rw [List.all_map]
        rfl
    · have e := f H3 .refl
      subst e
      exact q H3 (r1.tr r3)
end
end K09

set_option Elab.async false
set_option linter.all false
set_option maxRecDepth 100000
set_option maxHeartbeats 4000000
namespace K09
open PySem PySem.Spec PyProof.Rows L2 FB RZ
section
variable {P : Program} {w : World} {K : PySem.W.Frag} {mg : Str → Option Value} {base : Heap} {rs : Rs} {cs : Cs}
theorem each_tk {l : List Tri} (i : Nat) (t : Tri) (ht : l[i]? = some t) : each (l.take (i + 1)) = each (l.take i) ++ eachT t := by
  rw [List.take_add_one, ht]
  show each (l.take i ++ [t]) = _
  rw [each_app]
  congr 1
  show eachT t ++ [] = eachT t
  rw [List.append_nil]
theorem each_mem {t : Tri} {l : List Tri} (h : t ∈ l) {c : Cel} (hc : c ∈ eachT t) : c ∈ each l := by
  induction l with
  | nil => cases h
  | cons x r ih =>
    show c ∈ eachT x ++ each r
    rcases List.mem_cons.mp h with rfl | h
    · exact List.mem_append.mpr (.inl hc)
    · exact List.mem_append.mpr (.inr (ih h))
theorem each_tkl {l : List Tri} (i : Nat) : (each (l.take i)).length ≤ (each l).length := by
  have e : each l = each (l.take i) ++ each (l.drop i) := by rw [← each_app, List.take_append_drop]
  rw [e, List.length_append]
  omega
/-- tuple(a tuple) -/
theorem ev_tupT {z : Zn} {σ : L2.St} {H : Hp} {te : TE} {ds : List PyData} (h : Ev z te σ H (Dd z (.tuple ds))) : Ev z (tCB (fun xs H Q => ∃ p ys, xs = [.ref p] ∧ ((SqL K H p ys ∧ ∀ l, H l = none → Q (.ref l) (upd H l (.tup ys))) ∨ (SqT K H p ys ∧ Q (.ref p) H))) (tCons te tNil)) σ H (Dd z (.tuple ds)) := fun H1 e Q q =>
  h H1 e _ fun v H2 e2 f => by
    obtain ⟨a, vs, ev, nu, ha, hd⟩ := (f H2 .refl).tupAt
    exact ⟨a, vs, by rw [ev], .inr ⟨.inl (.inl ha), q _ H2 e2 fun H3 w => .tup nu (w a _ nu ha) (hd.w w)⟩⟩
/-- the cells of a piece, at any heap from here on -/
theorem ev_piece {z : Zn} {σ : L2.St} {H : Hp} {td ti : TE} {qd : Addr} {S : Sto} {ws : List V} {j : Int} {ns : List Int} (nq : z.I qd = none) (st : Stored z H qd S ws) (hg : tabG S j = some ns) (h1 : Ev z td σ H (Is (.ref qd))) (h2 : Ev z ti σ H (Is (.int j))) : Ev z (tDGet td ti) σ H (Dd z (tuD ns)) := by
  obtain ⟨u, hu, du⟩ := kv_get st.da hg
  exact ev_isD (ev_dget nq st.at_ h1 h2 hu) fun H' w => du.w w
-- slots of gathered: 0 parts, 1 pieces, 2 piece, 3 first, 4 many, 5 found
theorem ok_gathered (T : Tx P K mg rs cs) (d_gathered : Df K mg "gathered" s_gathered ["parts", "pieces"]) : FnOk P w K mg base CX0 1 d_gathered.f d_gathered.fd ["parts", "pieces"] spCells := by
  refine d_gathered.F.ok (k := 0) sc_gathered (fun vs H Q E ⟨_, _, _, ⟨_, _, _, _, _, e, _⟩, _⟩ => by rw [e]; rfl) (fun cdv A outer s H vs Q E hr h => ?_)
  obtain ⟨z, d, hz, ⟨v, qd, l, S, ws, rfl, hv, ho, hl, hle, nq, st, has, rfl⟩, q⟩ := h
  refine ⟨_, (pss_cons (ps_if (pt_cmpR op_eq (pe_callB (k_len (K := K)) (by rfl) T.len PySem.boot_len (pa_cons (pv 0) pa_nil)) pe_int (nomark _))
    (pss_cons (ps_asg (pe_ix (k_ixt (K := K)) (pv 0) pe_int (fun _ _ => rfl)) (k_pgt (K := K) (n := 3) (pgs_cons (pg_name (i := 2) sc_gathered.nd rfl (Or.inl rfl)) (pgs_cons (pg_name (i := 3) sc_gathered.nd rfl (Or.inl rfl)) (pgs_cons (pg_name (i := 4) sc_gathered.nd rfl (Or.inl rfl)) pgs_nil)))))
    (pss_one (ps_ret (pe_slice (k_slt (K := K)) (pe_dget (lt1 hr.units) (pv 1) (pv 2) (fun _ _ => rfl)) (po_some (pv 3)) (po_some (pe_op op_add (pv 3) (pv 4)))))))
    pss_nil)
    (pss_cons (ps_set (i := 5) sc_gathered.nd rfl (.inl rfl) (pe_lst pa_nil))
    (pss_cons (ps_for PassesOwn.never rfl (k_pit (K := K) (pi_tup (pv 0))) (k_pgt (K := K) (n := 3) (pgs_cons (pg_name (i := 2) sc_gathered.nd rfl (Or.inl rfl)) (pgs_cons (pg_name (i := 3) sc_gathered.nd rfl (Or.inl rfl)) (pgs_cons (pg_name (i := 4) sc_gathered.nd rfl (Or.inl rfl)) pgs_nil))))
    (pss_one (ps_expr (pe_bm PySem.F.plainAttrs_list PySem.F.slot_list_extend PySem.F.type_list_extend mt_extendT (pv 5) (pa_cons (pe_slice (k_slt (K := K)) (pe_dget (lt1 hr.units) (pv 1) (pv 2) (fun _ _ => rfl)) (po_some (pv 3)) (po_some (pe_op op_add (pv 3) (pv 4)))) pa_nil)))))
    (pss_one (ps_ret (pe_callTy (k_tuple (K := K)) (by rfl) T.tuple (by decide +kernel) (pa_cons (pv 5) pa_nil))))))), ?_⟩
  obtain ⟨a, vs, rfl, nu, ha, hds⟩ := hv.tupAt
  have hlen := hds.len
  rw [List.length_map] at hlen
  refine q_if (z := z) (b := decide (V.int (l.length : Int) = .int 1)) hz (et_test (ev_to (ev_eq (ev_lenT (ev_tupv rfl nu ha)) ev_k rfl) (by rw [hlen]))) (fun hb H1 r1 => ?_) (fun hb H1 r1 => ?_)
  · have h1 : l.length = 1 := by
      have := of_decide_eq_true hb
      injection this with this
      omega
    obtain ⟨t, rfl⟩ := List.length_eq_one_iff.mp h1
    have okt := ho t List.mem_cons_self
    have hm : t ∈ [t] := List.mem_cons_self
    obtain ⟨ns, hg, _⟩ := has _ (each_mem hm (List.mem_map.mpr ⟨0, List.mem_range.mpr (by have := okt.2.2; omega), rfl⟩))
    have hg' : tabG S t.1 = some ns := hg
    have hpl := part_le hg' okt fun c hc => has c (each_mem hm hc)
    obtain ⟨x, hx0, rfl⟩ : ∃ x, DU z.U H x (trD t) ∧ vs = [x] := by
      cases hds with
      | cons h t => cases t; exact ⟨_, h, rfl⟩
    refine q_tri (z := z) (t := t) r1.dr (ev_ixT (xs := [x]) (i := 0) (v := x) (ev_is rfl) ev_k (fun H2 r2 => .inl (.inl ((r1.tr r2).w a _ nu ha))) rfl fun H' w => (hx0.w r1.w).w w) fun H2 r2 => ?_
    have st2 := st.go nq (r1.tr r2)
    refine s_ret (z := z) (φ := Dd z (tuD ((each [t]).map (cVal S)))) r2.dr ((ev_slInts (a := t.2.1.toNat) (b := (t.2.1 + t.2.2).toNat) (ev_piece nq st2 hg' (ev_is rfl) (ev_is rfl)) (eo_some (ev_to (ev_is rfl) (by rw [Int.toNat_of_nonneg okt.2.1]))) (eo_some (ev_to (ev_i0 (g := fun i j => .int (i + j)) (ev_is rfl) (ev_is rfl)) (by rw [Int.toNat_of_nonneg (by have := okt.2.1; have := okt.2.2; omega)]))) (by omega)).imp fun v' H' _ f => ?_) fun v' H5 r5 f => q v' H5 ((r1.tr r2).tr r5) f
    have e : (each [t]).map (cVal S) = (ns.take (t.2.1 + t.2.2).toNat).drop t.2.1.toNat := by
      show (eachT t ++ []).map (cVal S) = _
      rw [List.append_nil, part_vals hg' okt hpl]
    rw [e]
    exact f
  · have st1 := st.go nq r1
    have ha := r1.w a _ nu ha
    have hds := hds.w r1.w
    refine q_new (z := z) r1.dr fun p hn b1 => ?_
    obtain ⟨nu', ha2⟩ := b1.at hn nu ha
    refine q_forTG (z := z.add p) (xs := vs) b1.rz (ev_tupv rfl nu' ha2) fun H3 r3 => ?_
    have b3 := b1.go hn r1.dr r3
    refine ⟨fun i σ' H' => (z.add p).W H3 H' ∧ ∃ o3 o4 o5, Bl z p H1 H' (((each (l.take i)).map (cVal S)).map PyData.int) ∧ σ' = [some (.ref a), some (.ref qd), o3, o4, o5, some (.ref p)],
      ⟨.refl, none, none, none, b3, rfl⟩, fun i σ' H' hP => hP.1, fun i x σ' H' hx hP => ?_, fun σ' H' hP => ?_⟩
    · obtain ⟨w4, o3, o4, o5, b, rfl⟩ := hP
      obtain ⟨d', hd, dv⟩ := hds.at hx
      rw [List.getElem?_map] at hd
      obtain ⟨t, ht, rfl⟩ := Option.map_eq_some_iff.mp hd
      have hm := List.mem_of_getElem? ht
      have okt := ho t hm
      obtain ⟨ns, hg, _⟩ := has _ (each_mem hm (List.mem_map.mpr ⟨0, List.mem_range.mpr (by have := okt.2.2; omega), rfl⟩))
      have hg' : tabG S t.1 = some ns := hg
      have hpl := part_le hg' okt fun c hc => has c (each_mem hm hc)
      have dv' := b.du hn dv
      -- the piece's cells, at any heap from here on
      have at' : ∀ {H5 : Hp}, z.R H1 H5 → ∃ u, valV (kvZ S ws) (.inl t.1 : Key) = some u ∧ H5 qd = some (.dK (kvZ S ws)) ∧ DU z.U H5 u (tuD ns) := fun r5 => by
        have st5 := st1.go nq r5
        obtain ⟨u, hu, du⟩ := kv_get st5.da hg'
        exact ⟨u, hu, st5.at_, du⟩
      have get : ∀ {H5 : Hp} {σ : L2.St}, Bl z p H1 H5 (((each (l.take i)).map (cVal S)).map PyData.int) → σ[1]? = some (some (.ref qd)) → σ[2]? = some (some (.int t.1)) → Ev (z.add p) (tDGet (tVar 1) (tVar 2)) σ H5 (Dd (z.add p) (tuD ns)) := fun {H5 σ} b5 e1 e3 => by
        obtain ⟨u, hu, hq, du⟩ := at' b5.r
        obtain ⟨u', hu', _, du'⟩ := at' r1.dr
        rw [hu] at hu'
        cases hu'
        exact ev_isD (ev_dget (z := z.add p) nq hq (ev_is e1) (ev_is e3) hu) fun H' w => (b5.du hn du').w w
      refine g_tri (z := z.add p) dv' ?_
      have b5 := b
      refine bl_extT (D := { nx := _, ct := _, bk := _, rt := _ }) (es := (((ns.take (t.2.1 + t.2.2).toNat).drop t.2.1.toNat).map PyData.int)) b5 hn r1.dr (ev_is rfl) (fun H6 r6 => ?_) ?_ fun H7 w7 b7 => ⟨w4.tr w7, _, _, _, ?_, rfl⟩
      · exact ev_slInts (get (b5.go hn r1.dr r6) rfl rfl) (eo_some (ev_to (ev_is rfl) (by rw [Int.toNat_of_nonneg okt.2.1]))) (eo_some (ev_to (ev_i0 (g := fun i j => .int (i + j)) (ev_is rfl) (ev_is rfl)) (by rw [Int.toNat_of_nonneg (by have := okt.2.1; have := okt.2.2; omega)]))) (by omega)
      · rw [← part_vals hg' okt hpl, List.length_map, List.length_map, List.length_map, List.length_map]
        have e := each_tkl (l := l) (i + 1)
        rw [each_tk i t ht, List.length_append] at e
        omega
      · rw [each_tk i t ht, List.map_append, List.map_append, part_vals hg' okt hpl]
        exact b7
    · obtain ⟨w4, o3, o4, o5, b, rfl⟩ := hP
      rw [hlen, List.take_length] at b
      exact s_ret (z := z) (φ := Dd z (tuD ((each l).map (cVal S)))) b.r.dr (ev_tupD (ev_own b hn r1.dr rfl)) fun v' H5 r5 f => q v' H5 (r1.tr (b.r.tr r5)) f
-- slots of cells: 0 parts, 1 pieces, 2 piece, 3 first, 4 many
theorem ok_cells (T : Tx P K mg rs cs) (d_cells : Df K mg "cells" s_cells ["parts", "pieces"]) (d_is_parts : Df K mg "is_parts" s_is_parts ["thing"]) (d_gathered : Df K mg "gathered" s_gathered ["parts", "pieces"]) (G_is_parts : FnOk P w K mg base CX0 3 d_is_parts.f d_is_parts.fd ["thing"] (spLook Lg isPartsD)) (G_gathered : FnOk P w K mg base CX0 1 d_gathered.f d_gathered.fd ["parts", "pieces"] spCells) :
    FnOk P w K mg base CX0 4 d_cells.f d_cells.fd ["parts", "pieces"] spCells := by
  refine d_cells.F.ok sc_cells (fun vs H Q E ⟨_, _, _, ⟨_, _, _, _, _, e, _⟩, _⟩ => by rw [e]; rfl) (fun cdv A outer s H vs Q E hr h => ?_)
  obtain ⟨z, d, hz, ⟨v, qd, l, S, ws, rfl, hv, ho, hl, hle, nq, st, has, rfl⟩, q⟩ := h
  refine ⟨_, (pss_cons (ps_if (pt_not (pt_val (pe_call G_is_parts (hr.mono (by decide)) (by rfl) d_is_parts.g d_is_parts.F.kp d_is_parts.b .nil pass0 (pa_cons (pv 0) pa_nil))))
    (pss_one ps_dead)
    pss_nil)
    (pss_cons (ps_for PassesOwn.never rfl (k_pit (K := K) (pi_tup (pv 0))) (k_pgt (K := K) (n := 3) (pgs_cons (pg_name (i := 2) sc_cells.nd rfl (Or.inl rfl)) (pgs_cons (pg_name (i := 3) sc_cells.nd rfl (Or.inl rfl)) (pgs_cons (pg_name (i := 4) sc_cells.nd rfl (Or.inl rfl)) pgs_nil))))
    (pss_one (ps_if (PW.pt (pw_or (pt_cmp (pc_dnotin (lt1 hr.units) (pv 2) (pv 1)) (by rfl)) (pw_or1 (pt_cmpR op_gt (pe_op op_add (pv 3) (pv 4)) (pe_callB (k_len (K := K)) (by rfl) T.len PySem.boot_len (pa_cons (pe_dget (lt1 hr.units) (pv 1) (pv 2) (fun _ _ => rfl)) pa_nil)) (nomark _)))))
    (pss_one ps_dead)
    pss_nil)))
    (pss_one (ps_ret (pe_callTy (k_tuple (K := K)) (by rfl) T.tuple (by decide +kernel) (pa_cons (pe_call G_gathered (hr.mono (by decide)) (by rfl) d_gathered.g d_gathered.F.kp d_gathered.b .nil pass0 (pa_cons (pv 0) (pa_cons (pv 1) pa_nil))) pa_nil)))))), ?_⟩
  refine q_if (z := z) (b := false) hz (et_to (et_not (et_B (ev_look (ok := Lg) (f := isPartsD) (ev_var rfl fun H' w => hv.w w) (lg_pa (by omega))))) (by rw [parts_ok ho]; rfl)) (fun hb => (by cases hb)) (fun _ H1 r1 => ?_)
  have st1 := st.go nq r1
  have hv1 := hv.w r1.w
  obtain ⟨a, vs, rfl, nu, ha, hds⟩ := (hv.w r1.w).tupAt
  have hlen := hds.len
  rw [List.length_map] at hlen
  refine q_forTG (z := z) (xs := vs) r1.dr (ev_tupv rfl nu ha) fun H3 r3 => ?_
  refine ⟨fun i σ' H' => z.R H3 H' ∧ ∃ o3 o4 o5, σ' = [some (.ref a), some (.ref qd), o3, o4, o5],
    ⟨r3.dr, none, none, none, rfl⟩, fun i σ' H' hP => hP.1.w, fun i x σ' H' hx hP => ?_, fun σ' H' hP => ?_⟩
  · obtain ⟨r4, o3, o4, o5, rfl⟩ := hP
    obtain ⟨d', hd, dv⟩ := hds.at hx
    rw [List.getElem?_map] at hd
    obtain ⟨t, ht, rfl⟩ := Option.map_eq_some_iff.mp hd
    have hm := List.mem_of_getElem? ht
    have okt := ho t hm
    obtain ⟨ns, hg, _⟩ := has _ (each_mem hm (List.mem_map.mpr ⟨0, List.mem_range.mpr (by have := okt.2.2; omega), rfl⟩))
    have hg' : tabG S t.1 = some ns := hg
    have hpl := part_le hg' okt fun c hc => has c (each_mem hm hc)
    have r34 := r3.tr r4
    have st4 := st1.go nq r34
    obtain ⟨u, hu, du⟩ := kv_get st4.da hg'
    refine g_tri (z := z) (dv.w r34.w) ?_
    refine s_if0 (z := z) (b := false) r4.dr (et_to (et_or (a := false) (b := false) (et_B (ev_dnotin (z := z) nq st4.at_ (ev_is rfl) (ev_is rfl) hu)) fun _ => et_test (ev_to (ev_i0 (g := fun i j => .bl (decide (j < i))) (ev_i0 (g := fun i j => .int (i + j)) (ev_is rfl) (ev_is rfl)) (ev_lenT (ev_tupTu (ev_piece nq st4 hg' (ev_is rfl) (ev_is rfl))))) ?_)) rfl) (fun hb => (by cases hb)) (fun _ H5 r5 => ⟨r4.tr r5, _, _, _, rfl⟩)
    rw [List.length_map, decide_eq_false (by omega)]
  · obtain ⟨r4, o3, o4, o5, rfl⟩ := hP
    have r34 := r3.tr r4
    exact s_ret (z := z) (φ := Dd z (tuD ((each l).map (cVal S)))) r4.dr (ev_tupT (ev_cells (ev_var rfl fun H' w => (hv1.w r34.w).w w) (fun H5 r5 => ev_is rfl) nq (st1.go nq r34) ho hl hle has rfl)) fun v' H5 r5 f => q v' H5 (r1.tr (r34.tr r5)) f
end
end K09

set_option Elab.async false
set_option linter.all false
set_option maxRecDepth 100000
set_option maxHeartbeats 4000000
namespace K09
open PySem PySem.Spec PyProof.Rows L2 FB RZ
section
variable {P : Program} {w : World} {K : PySem.W.Frag} {mg : Str → Option Value} {base : Heap} {rs : Rs} {cs : Cs}
theorem cut_ints (ns : List Int) (lo hi : Option Int) : ∃ ms : List Int, cutV (ns.map V.int) lo hi = ms.map V.int := by
  unfold cutV
  exact ⟨((ns.drop (HT.sIx (ns.map V.int).length 0 lo)).take (HT.sIx (ns.map V.int).length (ns.map V.int).length hi - HT.sIx (ns.map V.int).length 0 lo)), by rw [List.map_take, List.map_drop]⟩
theorem ok_take (T : Tx P K mg rs cs) (d__law_take : Df K mg "_law_take" s__law_take ["_law_purse_here", "_law_span"]) : FnOk P w K mg base CX0 1 d__law_take.f d__law_take.fd ["_law_purse_here", "_law_span"] spTake := by
  refine d__law_take.F.ok sc__law_take (fun vs H Q E ⟨_, _, _, e, _⟩ => by rw [e]; rfl) (fun cdv A outer s H vs Q E hr h => ?_)
  obtain ⟨z, u, n, rfl, hz, hu, hn0, hn1, q⟩ := h
  obtain ⟨o, ho, a, b, rfl, ha, hb, hb2⟩ := hz.i1 u _ hu
  refine ⟨_, (pss_cons (ps_if (pt_cmpR op_eq (pe_ix (k_ixl (K := K)) (pv 0) pe_int (fun _ _ => rfl)) pe_int (nomark _))
    (pss_cons (ps_set (i := 2) sc__law_take.nd rfl (.inl rfl) (pe_op op_mod (pe_ix (k_ixl (K := K)) (pv 0) pe_int (fun _ _ => rfl)) (pv 1)))
    (pss_cons (ps_asg (pe_op op_fdivW (pe_ix (k_ixl (K := K)) (pv 0) pe_int (fun _ _ => rfl)) (pv 1)) (pg_sub (pv 0) pe_int set_list))
    (pss_one (ps_ret (pv 2)))))
    pss_nil)
    (pss_cons (ps_asg (pe_op op_add pe_int (pe_op op_mod (pe_op op_add (pe_op op_mul (pe_ix (k_ixl (K := K)) (pv 0) pe_int (fun _ _ => rfl)) pe_int) pe_int) pe_int)) (pg_sub (pv 0) pe_int set_list))
    (pss_one (ps_ret (pe_op op_mod (pe_op op_fdivW (pe_op op_mod (pe_op op_mul (pe_ix (k_ixl (K := K)) (pv 0) pe_int (fun _ _ => rfl)) pe_int) pe_int) pe_int) (pv 1)))))), ?_⟩
  have nu : ¬ z0.U u := fun f => f
  have hn2 : (n : Int) ≤ 1000000 := by omega
  have hn3 : (0 : Int) < (n : Int) := by omega
  have hdv : CDivW a (n : Int) := wide_div (b := 20) hn3 (by rw [Int.natAbs_natCast]; exact Nat.lt_of_le_of_lt hn1 (by decide)) (by decide) (by decide)
  have i0 : ∀ {H' : Hp}, z0.R H H' → Ev z0 (tOp (rIxL K) (tVar 0) (tC (.int 0))) (start ["_law_purse_here", "_law_span", "_law_found"] [.ref u, .int (n : Int)]) H' (Is (.int a)) := fun r => ev_ixL (i := 0) (ev_is rfl) ev_k nu (z0g r u _ ho) rfl
  have i1 : ∀ {H' : Hp}, z0.R H H' → Ev z0 (tOp (rIxL K) (tVar 0) (tC (.int 1))) (start ["_law_purse_here", "_law_span", "_law_found"] [.ref u, .int (n : Int)]) H' (Is (.int b)) := fun r => ev_ixL (i := 1) (ev_is rfl) ev_k nu (z0g r u _ ho) rfl
  refine q_if (z := z0) z0r (et_test (ev_eq (i1 z0r) ev_k rfl)) (fun hc H1 r1 => ?_) (fun hc H1 r1 => ?_)
  · refine q_set (z := z0) z0r (ev_i (i0 r1) (ev_is rfl) hn3) fun v1 H2 r2 f2 => ?_
    have e2 := f2 H2 .refl
    subst e2
    have r12 := r1.tr r2
    refine q_sub (z := z0) (j := 0) (p := u) z0r (ev_i (ev_ixL (i := 0) (p := u) (ev_is rfl) ev_k nu (z0g r12 u _ ho) rfl) (ev_is rfl) hdv) (ev_is rfl) ev_k nu (z0g r12 u _ ho) (show 0 < 2 by decide) fun H3 r3 => ?_
    have r13 := r12.tr r3
    have rz : z.R H (upd H3 u (.lst ([V.int a, V.int b].set 0 (V.int (a / (n : Int)))))) := (Zn.R.z0 r13 hz).wr hu ⟨a / n, b, rfl, Int.ediv_nonneg ha (by omega), hb, hb2⟩
    refine s_ret (z := z0) z0r (ev_is rfl) fun v4 H4 r4 f4 => ?_
    have e4 := f4 H4 .refl
    subst e4
    have h1 : 0 ≤ a % (n : Int) := Int.emod_nonneg _ (by omega)
    have h2 : a % (n : Int) < n := Int.emod_lt_of_pos _ hn3
    have e5 : a % (n : Int) = ((a % (n : Int)).toNat : Int) := by omega
    show Q (.int (a % (n : Int))) H4
    rw [e5]
    exact q _ H4 (by omega) (rz.tr (Zn.R.z0 r4 rz.dr))
  · have hm1 : CMul b 39373 := .inl ⟨by omega, by omega⟩
    refine q_sub (z := z0) (j := 1) (p := u) (v := .int (1 + (b * 39373 + 7919) % 2147483587)) z0r (ev_i0 (g := fun i j => .int (i + j)) ev_k (ev_i (C := fun _ j => 0 < j) (g := fun i j => .int (i % j)) (ev_i0 (g := fun i j => .int (i + j)) (ev_i (C := CMul) (g := fun i j => .int (i * j)) (i1 r1) ev_k hm1) ev_k) ev_k (by decide))) (ev_is rfl) ev_k nu (z0g r1 u _ ho) (show 1 < 2 by decide) fun H3 r3 => ?_
    have r13 := r1.tr r3
    have g1 : 0 ≤ (b * 39373 + 7919) % 2147483587 := Int.emod_nonneg _ (by decide)
    have g2 : (b * 39373 + 7919) % 2147483587 < 2147483587 := Int.emod_lt_of_pos _ (by decide)
    generalize hcc : 1 + (b * 39373 + 7919) % 2147483587 = c at *
    have rz : z.R H (upd H3 u (.lst ([V.int a, V.int b].set 1 (V.int c)))) := (Zn.R.z0 r13 hz).wr hu ⟨a, c, rfl, ha, by omega, by omega⟩
    have hm2 : CMul c 30269 := .inl ⟨by omega, by omega⟩
    refine s_ret (z := z0) z0r (ev_i (C := fun _ j => 0 < j) (g := fun i j => .int (i % j)) (ev_i (C := CDivW) (g := fun i j => .int (i / j)) (ev_i (C := fun _ j => 0 < j) (g := fun i j => .int (i % j)) (ev_i (C := CMul) (g := fun i j => .int (i * j)) (ev_ixL (i := 1) (p := u) (ev_is rfl) ev_k nu upd_same rfl) ev_k hm2) ev_k (by decide)) ev_k (wide_div (b := 20) (by decide) (by decide) (by decide) (by decide))) (ev_is rfl) hn3) fun v4 H4 r4 f4 => ?_
    have e4 := f4 H4 .refl
    subst e4
    generalize c * 30269 % 2147483563 / 11 = d
    have h1 : 0 ≤ d % (n : Int) := Int.emod_nonneg _ (by omega)
    have h2 : d % (n : Int) < n := Int.emod_lt_of_pos _ hn3
    have e5 : d % (n : Int) = ((d % (n : Int)).toNat : Int) := by omega
    rw [e5]
    exact q _ H4 (by omega) (rz.tr (Zn.R.z0 r4 rz.dr))
theorem ok_purse (T : Tx P K mg rs cs) (d__law_purse : Df K mg "_law_purse" s__law_purse ["_law_script", "_law_k"]) : FnOk P w K mg base CX0 1 d__law_purse.f d__law_purse.fd ["_law_script", "_law_k"] (spPurse K) := by
  refine d__law_purse.F.ok sc__law_purse (fun vs H Q E ⟨_, _, _, _, e, _⟩ => by rw [e]; rfl) (fun cdv A outer s H vs Q E hr h => ?_)
  obtain ⟨z, a, ns, k, rfl, hz, hS, hl, hk, q⟩ := h
  refine ⟨_, (pss_cons (ps_set (i := 2) sc__law_purse.nd rfl (.inl rfl) (pe_ix (k_ixl (K := K)) (pe_op op_cat (pe_slice (k_sll (K := K)) (pv 0) (po_some (pv 1)) (po_some (pe_op op_add (pv 1) pe_int))) (pe_lst (pa_cons pe_int pa_nil))) pe_int (fun _ _ => rfl)))
    (pss_cons (ps_if (PW.pt (pw_or (pt_cmpR op_ge (pv 2) (pe_op op_pow pe_int pe_int) (nomark _)) (pw_or1 (pt_cmpR op_lt (pv 2) pe_int (nomark _)))))
    (pss_one (ps_ret (pe_lst (pa_cons (pe_callB (call_max2 rfl) (by rfl) T.max (by decide +kernel) (pa_cons (pv 2) (pa_cons (pe_op op_sub (pe_un un_neg pe_int) (pv 2)) pa_nil))) (pa_cons pe_int pa_nil)))))
    pss_nil)
    (pss_one (ps_ret (pe_lst (pa_cons pe_int (pa_cons (pe_op op_add pe_int (pe_op op_mod (pe_op op_add (pe_op op_mul (pv 2) pe_int) (pe_op op_mul (pe_op op_mul (pe_op op_add (pv 1) pe_int) pe_int) (pe_op op_add (pv 1) pe_int))) pe_int)) pa_nil))))))), ?_⟩
  have hSz : ∀ {H' : Hp}, z0.W H H' → SqL K H' a (ns.map V.int) := fun w => by
    rcases hS with (h | ⟨o, h⟩) | h
    · exact .inl (.inl (z0w w a _ h))
    · exact .inl (.inr ⟨o, z0w w a _ h⟩)
    · exact .inr h
  obtain ⟨ms, hms⟩ := cut_ints ns (some (k : Int)) (some ((k : Int) + 1))
  have hml : ms.length ≤ 1000 := by
    have h1 := congrArg List.length hms
    rw [List.length_map] at h1
    have h2 := cutV_length (ns.map V.int) (some (k : Int)) (some ((k : Int) + 1))
    rw [List.length_map] at h2
    omega
  have hcell : Ev z0 (tOp (rIxL K) (tOp rCat (L2.tSl (rSlL K) (tVar 0) (tPart (tVar 1)) (tPart (tOp (rI0 fun i j => .int (i + j)) (tVar 1) (tC (.int 1))))) (tLst (tCons (tC (.int 0)) tNil))) (tC (.int 0)))
      (start ["_law_script", "_law_k", "_law_cell"] [.ref a, .int (k : Int)]) H (Is (.int ((ms ++ [0]).getD 0 0))) := by
    refine ev_ixl (Φ := fun ws _ => ws = (ms ++ [0]).map V.int) (ψ := Is (.int 0)) ?_ (fun _ H1 r => ev_k) fun ws y H1 r e1 e2 => ⟨0, V.int ((ms ++ [0]).getD 0 0), e2, ?_, by intro _ _; exact rfl⟩
    · refine ev_op (φ := Lst z0 fun ws _ => ws = ms.map V.int) (ψ := Lst z0 fun ws _ => ws = [V.int 0]) ?_ (fun x H1 r fx => ?_) fun x y H1 r ⟨p, ws, e1, n1, h1, e2⟩ ⟨p', ws', e1', n1', h1', e2'⟩ => ?_
      · refine ev_sl (φ := Is (.ref a)) (ev_is rfl) (eo_some (ev_is rfl)) (eo_some (ev_i0 (g := fun i j => .int (i + j)) (ev_is rfl) ev_k)) fun x H1 r e Q0 q0 => ⟨a, _, e, hSz r.w, fun p hp => q0 _ _ (r.dr.new hp) fun H3 w => ⟨p, _, rfl, fun f => f, w p _ (fun f => f) upd_same, hms⟩⟩
      · exact ev_lst (ea_is ev_k ea_nil) fun vs H' e => by rw [e]; exact (show 1 ≤ 100000 by decide)
      · intro Q0 q0
        subst e2
        subst e2'
        exact ⟨p, p', _, _, e1, e1', h1, h1', by rw [List.length_map]; exact Nat.le_trans (show ms.length + 1 ≤ 2000 by omega) (by decide), fun d hd => q0 _ _ (r.dr.new hd) fun H3 w => ⟨d, _, rfl, fun f => f, w d _ (fun f => f) upd_same, by rw [List.map_append]; rfl⟩⟩
    · rw [e1]
      cases ms with
      | nil => rfl
      | cons x r => rfl
  generalize (ms ++ [0]).getD 0 0 = cell at hcell
  refine q_set (z := z0) z0r hcell fun v1 H1 r1 f1 => ?_
  have e1 := f1 H1 .refl
  subst e1
  refine q_if (z := z0) z0r (et_or (et_test (ev_i0 (g := fun i j => .bl (decide (j ≤ i))) (ev_is rfl) (ev_i (C := CPow) (g := fun i j => .int (i ^ j.toNat)) ev_k ev_k ⟨by decide, by decide, by decide⟩))) fun _ => et_test (ev_i0 (g := fun i j => .bl (decide (i < j))) (ev_is rfl) ev_k)) (fun hc H2 r2 => ?_) (fun hc H2 r2 => ?_)
  · have r02 := r1.tr r2
    have hz2 := zfr r02
    refine s_ret (z := zf H) (φ := Lst (zf H) fun ws _ => ws = [V.int (if -1 - cell > cell then -1 - cell else cell), V.int 0]) hz2 ?_ fun v3 H3 r3 f3 => ?_
    · refine ev_lst (ea_is ?_ (ea_is ev_k ea_nil)) fun vs H' e => by rw [e]; exact (show 2 ≤ 100000 by decide)
      exact ev_cb (ea_is (v := .int cell) (ev_is rfl) (ea_is (v := .int (-1 - cell)) (ev_i0 (g := fun i j => .int (i - j)) (ev_un (φ := Is (.int 1)) ev_k fun x H' r e Q0 q0 => ⟨1, e, q0 _ _ r.dr fun _ _ => rfl⟩) (ev_is rfl)) ea_nil)) fun vs H' r e Q0 q0 => ⟨cell, -1 - cell, e, q0 _ _ r.dr fun _ _ => rfl⟩
    · obtain ⟨p, ws, rfl, hn, hp, rfl⟩ := f3 H3 .refl
      have hn0 : H p = none := Classical.byContradiction hn
      refine q p _ H3 (Zn.R.z0 (r02.tr (zf0 r3)) hz) hn0 (hz.nu hn0) hp ⟨_, 0, rfl, ?_, by decide, by decide⟩
      simp only [Bool.or_eq_true, decide_eq_true_eq] at hc
      have h18 : (10 : Int) ^ (18 : Int).toNat = 1000000000000000000 := by decide
      rw [h18] at hc
      split <;> omega
  · have r02 := r1.tr r2
    have hz2 := zfr r02
    simp only [Bool.or_eq_false_iff, decide_eq_false_iff_not] at hc
    have h18 : (10 : Int) ^ (18 : Int).toNat = 1000000000000000000 := by decide
    rw [h18] at hc
    have hk2 : (k : Int) ≤ 1000 := by omega
    refine s_ret (z := zf H) (φ := Lst (zf H) fun ws _ => ws = [V.int 0, V.int (1 + (cell * 48271 + ((k : Int) + 1) * 69621 * ((k : Int) + 7)) % 2147483629)]) hz2 ?_ fun v3 H3 r3 f3 => ?_
    · refine ev_lst (ea_is ev_k (ea_is ?_ ea_nil)) fun vs H' e => by rw [e]; exact (show 2 ≤ 100000 by decide)
      have c1 : CMul cell 48271 := .inr ⟨by decide, by decide⟩
      have c2 : CMul ((k : Int) + 1) 69621 := .inr ⟨by decide, by decide⟩
      have c3 : CMul (((k : Int) + 1) * 69621) ((k : Int) + 7) := .inr ⟨by omega, by omega⟩
      exact ev_i0 (g := fun i j => .int (i + j)) ev_k (ev_i (C := fun _ j => 0 < j) (g := fun i j => .int (i % j)) (ev_i0 (g := fun i j => .int (i + j)) (ev_i (C := CMul) (g := fun i j => .int (i * j)) (ev_is rfl) ev_k c1)
        (ev_i (C := CMul) (g := fun i j => .int (i * j)) (ev_i (C := CMul) (g := fun i j => .int (i * j)) (ev_i0 (g := fun i j => .int (i + j)) (ev_is rfl) ev_k) ev_k c2) (ev_i0 (g := fun i j => .int (i + j)) (ev_is rfl) ev_k) c3)) ev_k (by decide))
    · obtain ⟨p, ws, rfl, hn, hp, rfl⟩ := f3 H3 .refl
      have hn0 : H p = none := Classical.byContradiction hn
      have g1 := Int.emod_nonneg (cell * 48271 + ((k : Int) + 1) * 69621 * ((k : Int) + 7)) (show (2147483629 : Int) ≠ 0 by decide)
      have g2 := Int.emod_lt_of_pos (cell * 48271 + ((k : Int) + 1) * 69621 * ((k : Int) + 7)) (show (0 : Int) < 2147483629 by decide)
      generalize (cell * 48271 + ((k : Int) + 1) * 69621 * ((k : Int) + 7)) % 2147483629 = m at *
      exact q p _ H3 (Zn.R.z0 (r02.tr (zf0 r3)) hz) hn0 (hz.nu hn0) hp ⟨0, _, rfl, by decide, by omega, by omega⟩
/-- parts as drawn near: small pieces, small places -/
def DrawOk (n : Nat) (l : List Tri) : Prop := okL l ∧ l.length ≤ n ∧ ∀ t ∈ l, t.1 ≤ 3 ∧ t.2.2 ≤ 6 ∧ t.2.1 + t.2.2 ≤ 4 + 6 * (l.length : Int)
def spDrawN : Sp := fun vs H Q _ => ∃ (z : Zn) (u : Addr) (n : Nat), vs = [.ref u, .int (n : Int)] ∧ n ≤ 100 ∧ z.R H H ∧ z.I u = some IsPur ∧ ∀ v l H', DrawOk n l → z.R H H' → (∀ H'', z.W H' H'' → DU z.U H'' v (paD l)) → Q v H'
theorem ev_drawN {z : Zn} {σ : L2.St} {H : Hp} {ta tb : TE} {E : XK} {u : Addr} {n : Nat} (hu : z.I u = some IsPur) (ha : Ev z ta σ H (Is (.ref u))) (hb : Ev z tb σ H (Is (.int (n : Int)))) (hn : n ≤ 100) : Ev z (tCall spDrawN [] E (tCons ta (tCons tb tNil))) σ H (Ds z fun d => ∃ l, d = paD l ∧ DrawOk n l) :=
  ev_call (ea_is ha (ea_is hb ea_nil)) fun vs H1 r e Q q => by
    subst e
    exact ⟨z, u, n, rfl, hn, r.dr, hu, fun v l H' s r' f => q v H' r' fun H3 w => ⟨_, ⟨l, rfl, s⟩, f H3 w⟩⟩
-- slots of _law_parts: 0 _law_purse_here, 1 _law_most, 2 _law_found, 3 _law_turn, 4 _law_way, 5 _law_piece, 6 _law_first
theorem ok_parts (T : Tx P K mg rs cs) (d__law_parts : Df K mg "_law_parts" s__law_parts ["_law_purse_here", "_law_most"]) (d__law_take : Df K mg "_law_take" s__law_take ["_law_purse_here", "_law_span"])
    (G__law_take : FnOk P w K mg base CX0 1 d__law_take.f d__law_take.fd ["_law_purse_here", "_law_span"] spTake) : FnOk P w K mg base CX0 2 d__law_parts.f d__law_parts.fd ["_law_purse_here", "_law_most"] spDrawN := by
  refine d__law_parts.F.ok sc__law_parts (fun vs H Q E ⟨_, _, _, e, _⟩ => by rw [e]; rfl) (fun cdv A outer s H vs Q E hr h => ?_)
  obtain ⟨z, u, n, rfl, hn100, hz, hu, q⟩ := h
  refine ⟨_, (pss_cons (ps_set (i := 2) sc__law_parts.nd rfl (.inl rfl) (pe_lst pa_nil))
    (pss_cons (ps_for PassesOwn.never rfl (pi_range1 (by rfl) T.range (pa_cons (pe_call G__law_take (hr.mono (by decide)) (by rfl) d__law_take.g d__law_take.F.kp d__law_take.b .nil pass0 (pa_cons (pv 0) (pa_cons (pe_op op_add (pv 1) pe_int) pa_nil))) pa_nil)) (pg_name (i := 3) sc__law_parts.nd rfl (Or.inl rfl))
    (pss_cons (ps_par3 (i := 4) (j := 5) (l := 6) (by rfl) sc__law_parts.nd rfl rfl rfl (by decide) (by decide) (by decide) rfl rfl rfl (pa_cons (pe_call G__law_take (hr.mono (by decide)) (by rfl) d__law_take.g d__law_take.F.kp d__law_take.b .nil pass0 (pa_cons (pv 0) (pa_cons pe_int pa_nil))) (pa_cons (pe_op op_add pe_int (pe_call G__law_take (hr.mono (by decide)) (by rfl) d__law_take.g d__law_take.F.kp d__law_take.b .nil pass0 (pa_cons (pv 0) (pa_cons pe_int pa_nil)))) (pa_cons (pe_call G__law_take (hr.mono (by decide)) (by rfl) d__law_take.g d__law_take.F.kp d__law_take.b .nil pass0 (pa_cons (pv 0) (pa_cons pe_int pa_nil))) pa_nil))) (by rfl))
    (pss_cons (ps_if (PW.pt (pw_and (pt_cmpR op_eq (pv 4) pe_int (nomark _)) (pw_and1 (pt_cmpR (k_neD (K := K) hr.units) (pv 2) (pe_lst pa_nil) (nomark _)))))
    (pss_one (ps_par (i := 5) (j := 6) (by rfl) sc__law_parts.nd rfl rfl (by decide) rfl rfl (pa_cons (pe_ix (k_ixt (K := K)) (pe_ix (k_ixl (K := K)) (pv 2) (pe_un un_neg pe_int) (fun _ _ => rfl)) pe_int (fun _ _ => rfl)) (pa_cons (pe_op op_add (pe_ix (k_ixt (K := K)) (pe_ix (k_ixl (K := K)) (pv 2) (pe_un un_neg pe_int) (fun _ _ => rfl)) pe_int (fun _ _ => rfl)) (pe_ix (k_ixt (K := K)) (pe_ix (k_ixl (K := K)) (pv 2) (pe_un un_neg pe_int) (fun _ _ => rfl)) pe_int (fun _ _ => rfl))) pa_nil)) (by rfl)))
    pss_nil)
    (pss_one (ps_expr (pe_bm PySem.F.plainAttrs_list PySem.F.slot_list_append PySem.F.type_list_append mt_append (pv 2) (pa_cons (pe_tup (pa_cons (pv 5) (pa_cons (pv 6) (pa_cons (pe_op op_add pe_int (pe_call G__law_take (hr.mono (by decide)) (by rfl) d__law_take.g d__law_take.F.kp d__law_take.b .nil pass0 (pa_cons (pv 0) (pa_cons (pe_ix (k_ixl (K := K)) (pe_lst (pa_cons pe_int (pa_cons pe_int pa_nil))) (pe_call G__law_take (hr.mono (by decide)) (by rfl) d__law_take.g d__law_take.F.kp d__law_take.b .nil pass0 (pa_cons (pv 0) (pa_cons pe_int pa_nil))) (fun _ _ => rfl)) pa_nil)))) pa_nil)))) pa_nil)))))))
    (pss_one (ps_ret (pe_callTy (k_tuple (K := K)) (by rfl) T.tuple (by decide +kernel) (pa_cons (pv 2) pa_nil)))))), ?_⟩
  refine q_new (z := z) hz fun p hn b1 => ?_
  have ni : z.I p = none := hz.ni hn
  refine q_forRD (z := z.add p) (N := n + 1) b1.rz ((ea_cons (φ := Nn (n + 1)) (ev_take (z := z.add p) hu (ev_is rfl) (ev_to (ev_i0 (g := fun i j => .int (i + j)) (ev_is rfl) ev_k) (by rw [← Int.natCast_add_one])) (by omega) (by omega)) fun v H2 r2 _ => ea_nil).imp ?_) (by omega)
    (fun i σ' H' => ∃ acc o4 o5 o6 o7, Bl z p H H' (acc.map trD) ∧ (acc.length = i ∧ DrawOk i acc) ∧ σ' = [some (.ref u), some (.int (n : Int)), some (.ref p), o4, o5, o6, o7])
    (fun H2 r2 => ⟨[], none, none, none, none, b1.go hn hz r2, ⟨rfl, fun t ht => (by cases ht), Nat.le_refl _, fun t ht => (by cases ht)⟩, rfl⟩) (fun i σ' H' hi hP => ?_) (fun m σ' H' hm hP => ?_)
  · rintro vs H' _ ⟨v, r, rfl, ⟨k, rfl, hk⟩, rfl⟩
    exact ⟨k, rfl, hk⟩
  · obtain ⟨acc, o4, o5, o6, o7, b, ⟨hla, ho, _, hsz⟩, rfl⟩ := hP
    refine q_par3 (z := z) (Φ := fun a b c _ => (∃ k : Nat, a = .int (k : Int)) ∧ (∃ i : Int, 1 ≤ i ∧ i ≤ 3 ∧ b = .int i) ∧ ∃ i : Int, 0 ≤ i ∧ i ≤ 4 ∧ c = .int i) b.r.dr ?_ fun va vb vc H2 r2 f2 => ?_
    · refine (ea_cons (φ := Nn 3) (ev_take hu (ev_is rfl) ev_k (by decide) (by decide)) fun _ H2 r2 _ => ea_cons (φ := fun v _ => ∃ k : Nat, k < 3 ∧ v = .int (1 + (k : Int))) (ev_iN (g := fun i j => .int (i + j)) ev_k fun H3 r3 => ev_take hu (ev_is rfl) ev_k (by decide) (by decide)) fun _ H3 r3 _ =>
        ea_cons (φ := Nn 5) (ev_take hu (ev_is rfl) ev_k (by decide) (by decide)) fun _ H4 r4 _ => ea_nil).imp ?_
      rintro vs H' _ ⟨va, r, rfl, ⟨k, rfl, _⟩, vb, r', rfl, ⟨k2, h2, rfl⟩, vc, r'', rfl, ⟨k3, rfl, h3⟩, rfl⟩
      exact ⟨_, _, _, rfl, ⟨k, rfl⟩, ⟨_, by omega, by omega, rfl⟩, ⟨_, by omega, by omega, rfl⟩⟩
    obtain ⟨⟨way, rfl⟩, ⟨pc, hpc, hpc3, rfl⟩, ⟨fs, hfs, hfs4, rfl⟩⟩ := f2 H2 .refl
    have b2 := b.goZ hn hz r2
    have put : ∀ {H5 : Hp} {pc fs : Int} {D : Ends} {o4 o5 : Option V}, 1 ≤ pc → pc ≤ 3 → 0 ≤ fs → fs ≤ 4 + 6 * (acc.length : Int) → Bl z p H H5 (acc.map trD) → (∀ acc2 H6, Bl z p H H6 (acc2.map trD) → (acc2.length = i + 1 ∧ DrawOk (i + 1) acc2) → D.nx [some (.ref u), some (.int (n : Int)), some (.ref p), o4, o5, some (.int pc), some (.int fs)] H6) →
        tDrop (tBM K "list" rAppend (tVar 2) (tCons (tTup (tCons (tVar 5) (tCons (tVar 6) (tCons (tOp (rI0 fun i j => .int (i + j)) (tC (.int 1)) (tCall spTake [] E0 (tCons (tVar 0) (tCons (tOp (rIxL K) (tLst (tCons (tC (.int 2)) (tCons (tC (.int 6)) tNil))) (tCall spTake [] E0 (tCons (tVar 0) (tCons (tC (.int 2)) tNil)))) tNil)))) tNil)))) tNil)) D
          [some (.ref u), some (.int (n : Int)), some (.ref p), o4, o5, some (.int pc), some (.int fs)] H5 := fun {H5 pc fs D o4 o5} hpc hpc3 hfs hfs4 b5 k => by
      have hu' : (z.add p).I u = some IsPur := hu
      refine bl_appP (Pd := fun d => ∃ m : Int, 1 ≤ m ∧ m ≤ 6 ∧ d = trD (pc, fs, m)) b5 hn hz (ev_is rfl) (fun H6 r6 => ?_) (by rw [List.length_map]; omega) fun d H7 hd w7 b7 => ?_
      · refine (ev_tup (ea_cons (φ := Is (.int pc)) (ev_is rfl) fun _ H7 r7 _ => ea_cons (φ := Is (.int fs)) (ev_is rfl) fun _ H8 r8 _ => ea_cons (φ := fun v _ => ∃ k : Nat, k < 6 ∧ v = .int (1 + (k : Int))) (ev_iN (g := fun i j => .int (i + j)) ev_k fun H9 r9 => ev_takeU (N := 6) hu' (ev_is rfl) (fun Ha ra => ev_menuV (ws := [.int 2, .int 6]) (n := 2) (ev_lst (ea_is ev_k (ea_is ev_k ea_nil)) fun vs H' e => by rw [e]; exact (show 2 ≤ 100000 by decide)) (fun x H2 r2 => ev_take hu' (ev_is rfl) ev_k (by decide) (by decide)) rfl fun Hb w _ hw => ?_) (by decide)) fun _ H9 r9 _ => ea_nil) ?_).imp ?_
        · simp only [List.mem_cons, List.not_mem_nil, or_false] at hw
          rcases hw with rfl | rfl
          · exact ⟨2, rfl, by decide, by decide⟩
          · exact ⟨6, rfl, by decide, by decide⟩
        · rintro vs H' ⟨va, r, rfl, _, vb, r', rfl, _, vc, r'', rfl, _, rfl⟩
          exact (show 3 ≤ 100000 by decide)
        · rintro v H' _ ⟨a, ws, rfl, nu, ha, va, r, rfl, ea, vb, r', rfl, eb, vc, r'', rfl, ⟨k, hk, rfl⟩, rfl⟩
          have ea' : va = .int pc := ea
          have eb' : vb = .int fs := eb
          subst ea'
          subst eb'
          exact ⟨_, ⟨1 + (k : Int), by omega, by omega, rfl⟩, .tup nu ha (.cons (.int pc) (.cons (.int fs) (.one (.int _))))⟩
      · obtain ⟨m, hm1, hm6, rfl⟩ := hd
        have hle : ((acc ++ [(pc, fs, m)]).length : Int) = (acc.length : Int) + 1 := by rw [List.length_append]; rfl
        refine k (acc ++ [(pc, fs, m)]) H7 (by rw [List.map_append]; exact b7) ⟨by rw [List.length_append]; show acc.length + 1 = i + 1; omega, okL_app ho fun t ht => by rw [List.mem_singleton.mp ht]; exact ⟨hpc, hfs, hm1⟩, by rw [List.length_append]; show acc.length + 1 ≤ i + 1; omega, fun t ht => ?_⟩
        rw [hle]
        rcases List.mem_append.mp ht with ht | ht
        · obtain ⟨h1, h2, h3⟩ := hsz t ht
          exact ⟨h1, h2, by omega⟩
        · rw [List.mem_singleton.mp ht]
          exact ⟨hpc3, hm6, by show fs + m ≤ _; omega⟩
    refine q_if (z := z) (b := decide (V.int (way : Int) = .int 0) && !acc.isEmpty) r2.dr (et_and (et_test (ev_eq (ev_is rfl) ev_k rfl)) fun _ => et_test (ev_neNil (l := acc) (ev_own b2 hn hz rfl))) (fun hb H3 r3 => ?_) (fun hb H3 r3 => ?_)
    · rcases List.eq_nil_or_concat acc with rfl | ⟨pre, last, rfl⟩
      · simp at hb
      · rw [List.concat_eq_append] at b b2 ho hla hsz put
        have hlast := ho last (List.mem_append.mpr (.inr List.mem_cons_self))
        have hls := hsz last (List.mem_append.mpr (.inr List.mem_cons_self))
        have bl : Bl z p H H3 (pre.map trD ++ [trD last]) := by
          have := b2.goZ hn hz r3
          rw [List.map_append] at this
          exact this
        have lastE : ∀ {H5 : Hp} {σ : L2.St}, z.R H3 H5 → σ[2]? = some (some (.ref p)) → Ev z (tOp (rIxL K) (tVar 2) (tUn (rU fun i => .int (-i)) (tC (.int 1)))) σ H5 (Dd z (trD last)) := fun r e => ev_lastZ (bl.goZ hn hz r) hn hz (ev_is e) ev_neg1
        refine s_par2 (z := z) (a := .int last.1) (b := .int (last.2.1 + last.2.2)) r3.dr (ea_is (ev_trI (k := 0) (i := last.1) (lastE r3.dr rfl) rfl) (ea_is (ev_i0 (g := fun i j => .int (i + j)) (ev_trI (k := 1) (i := last.2.1) (lastE r3.dr rfl) rfl) (ev_trI (k := 2) (i := last.2.2) (lastE r3.dr rfl) rfl)) ea_nil)) fun H4 r4 => ?_
        refine put hlast.1 hls.1 (by have := hlast.2.1; have := hlast.2.2; omega) hls.2.2 ((b2.goZ hn hz r3).goZ hn hz r4) fun acc2 H6 b6 hs6 => ⟨acc2, _, _, _, _, b6, hs6, rfl⟩
    · exact put hpc hpc3 hfs (by omega) (b2.goZ hn hz r3) fun acc2 H6 b6 hs6 => ⟨acc2, _, _, _, _, b6, hs6, rfl⟩
  · obtain ⟨acc, o4, o5, o6, o7, b, ⟨hla, ho, hl, hsz⟩, rfl⟩ := hP
    exact s_ret (z := z) (φ := Dd z (paD acc)) b.r.dr (ev_tupD (ev_own b hn hz rfl)) fun v' H5 r5 f => q v' acc H5 ⟨ho, by omega, hsz⟩ (b.r.tr r5) f
end
end K09

set_option Elab.async false
set_option linter.all false
set_option maxRecDepth 100000
set_option maxHeartbeats 4000000
namespace K09
open PySem PySem.Spec PyProof.Rows L2 FB RZ
section
variable {P : Program} {w : World} {K : PySem.W.Frag} {mg : Str → Option Value} {base : Heap} {rs : Rs} {cs : Cs}
theorem ok_cellsG (T : Tx P K mg rs cs) (d_cells : Df K mg "cells" s_cells ["parts", "pieces"]) (d_is_parts : Df K mg "is_parts" s_is_parts ["thing"]) (d_gathered : Df K mg "gathered" s_gathered ["parts", "pieces"]) (G_is_parts : FnOk P w K mg base CX0 3 d_is_parts.f d_is_parts.fd ["thing"] (spLook Lg isPartsD)) (G_gathered : FnOk P w K mg base CX0 1 d_gathered.f d_gathered.fd ["parts", "pieces"] spCells) :
    FnOk P w K mg base (L2N.CX P w) 4 d_cells.f d_cells.fd ["parts", "pieces"] spCells := by
  refine Fun.okN d_cells.F sc_cells (fun vs H Q E ⟨_, _, _, ⟨_, _, _, _, _, e, _⟩, _⟩ => by rw [e]; rfl) (fun cdv A outer s H vs Q E hr h => ?_)
  obtain ⟨z, d, hz, ⟨v, qd, l, S, ws, rfl, hv, ho, hl, hle, nq, st, has, rfl⟩, q⟩ := h
  refine ⟨_, (pss_cons (ps_if (pt_not (pt_val (pe_call G_is_parts (hr.mono (by decide)) (by rfl) d_is_parts.g d_is_parts.F.kp d_is_parts.b .nil pass0 (pa_cons (pv 0) pa_nil))))
    (pss_one ps_dead)
    pss_nil)
    (pss_cons (ps_for (passes_of rfl) rfl (k_pit (K := K) (pi_tup (pv 0))) (k_pgt (K := K) (n := 3) (pgs_cons (pg_name (i := 2) sc_cells.nd rfl (Or.inl rfl)) (pgs_cons (pg_name (i := 3) sc_cells.nd rfl (Or.inl rfl)) (pgs_cons (pg_name (i := 4) sc_cells.nd rfl (Or.inl rfl)) pgs_nil))))
    (pss_one (ps_if (PW.pt (pw_or (pt_cmp (pc_dnotin (lt1 hr.units) (pv 2) (pv 1)) (by rfl)) (pw_or1 (pt_cmpR op_gt (pe_op op_add (pv 3) (pv 4)) (pe_callB (k_len (K := K)) (by rfl) T.len PySem.boot_len (pa_cons (pe_dget (lt1 hr.units) (pv 1) (pv 2) (fun _ _ => rfl)) pa_nil)) (nomark _)))))
    (pss_one (ps_raiseRef rfl T.r_NoPiece hr (L2N.takes_of rfl rfl rfl rfl) (pa_cons (pv 2) pa_nil)))
    pss_nil)))
    (pss_one (ps_ret (pe_callTy (k_tuple (K := K)) (by rfl) T.tuple (by decide +kernel) (pa_cons (pe_call G_gathered (hr.mono (by decide)) (by rfl) d_gathered.g d_gathered.F.kp d_gathered.b .nil pass0 (pa_cons (pv 0) (pa_cons (pv 1) pa_nil))) pa_nil)))))), ?_⟩
  refine q_if (z := z) (b := false) hz (et_to (et_not (et_B (ev_look (ok := Lg) (f := isPartsD) (ev_var rfl fun H' w => hv.w w) (lg_pa (by omega))))) (by rw [parts_ok ho]; rfl)) (fun hb => (by cases hb)) (fun _ H1 r1 => ?_)
  have st1 := st.go nq r1
  have hv1 := hv.w r1.w
  obtain ⟨a, vs, rfl, nu, ha, hds⟩ := (hv.w r1.w).tupAt
  have hlen := hds.len
  rw [List.length_map] at hlen
  refine q_forTG (z := z) (xs := vs) r1.dr (ev_tupv rfl nu ha) fun H3 r3 => ?_
  refine ⟨fun i σ' H' => z.R H3 H' ∧ ∃ o3 o4 o5, σ' = [some (.ref a), some (.ref qd), o3, o4, o5],
    ⟨r3.dr, none, none, none, rfl⟩, fun i σ' H' hP => hP.1.w, fun i x σ' H' hx hP => ?_, fun σ' H' hP => ?_⟩
  · obtain ⟨r4, o3, o4, o5, rfl⟩ := hP
    obtain ⟨d', hd, dv⟩ := hds.at hx
    rw [List.getElem?_map] at hd
    obtain ⟨t, ht, rfl⟩ := Option.map_eq_some_iff.mp hd
    have hm := List.mem_of_getElem? ht
    have okt := ho t hm
    obtain ⟨ns, hg, _⟩ := has _ (each_mem hm (List.mem_map.mpr ⟨0, List.mem_range.mpr (by have := okt.2.2; omega), rfl⟩))
    have hg' : tabG S t.1 = some ns := hg
    have hpl := part_le hg' okt fun c hc => has c (each_mem hm hc)
    have r34 := r3.tr r4
    have st4 := st1.go nq r34
    obtain ⟨u, hu, du⟩ := kv_get st4.da hg'
    refine g_tri (z := z) (dv.w r34.w) ?_
    refine s_if0 (z := z) (b := false) r4.dr (et_to (et_or (a := false) (b := false) (et_B (ev_dnotin (z := z) nq st4.at_ (ev_is rfl) (ev_is rfl) hu)) fun _ => et_test (ev_to (ev_i0 (g := fun i j => .bl (decide (j < i))) (ev_i0 (g := fun i j => .int (i + j)) (ev_is rfl) (ev_is rfl)) (ev_lenT (ev_tupTu (ev_piece nq st4 hg' (ev_is rfl) (ev_is rfl))))) ?_)) rfl) (fun hb => (by cases hb)) (fun _ H5 r5 => ⟨r4.tr r5, _, _, _, rfl⟩)
    rw [List.length_map, decide_eq_false (by omega)]
  · obtain ⟨r4, o3, o4, o5, rfl⟩ := hP
    have r34 := r3.tr r4
    exact s_ret (z := z) (φ := Dd z (tuD ((each l).map (cVal S)))) r4.dr (ev_tupT (ev_cells (ev_var rfl fun H' w => (hv1.w r34.w).w w) (fun H5 r5 => ev_is rfl) nq (st1.go nq r34) ho hl hle has rfl)) fun v' H5 r5 f => q v' H5 (r1.tr (r34.tr r5)) f

/-- some piece lacks cells -/
def spLackX (C : Addr) : Sp := fun vs H _ E => ∃ (z : Zn) (v : V) (q : Addr) (l : List Tri) (S : Sto) (ws : List V) (j : Int), vs = [v, .ref q] ∧ z.R H H ∧ DU z.U H v (paD l) ∧ okL l ∧ l.length ≤ 2000 ∧ z.I q = none ∧ Stored z H q S ws ∧ firstLack S l = some j ∧ ∀ H' dx, z.R H H' → H' dx = none → E (.ref C) (some dx) (upd H' dx (.xd [("piece", .int j)]))
theorem ok_cellsX (T : Tx P K mg rs cs) (d_cells : Df K mg "cells" s_cells ["parts", "pieces"]) (d_is_parts : Df K mg "is_parts" s_is_parts ["thing"]) (d_gathered : Df K mg "gathered" s_gathered ["parts", "pieces"]) (G_is_parts : FnOk P w K mg base CX0 3 d_is_parts.f d_is_parts.fd ["thing"] (spLook Lg isPartsD)) (G_gathered : FnOk P w K mg base CX0 1 d_gathered.f d_gathered.fd ["parts", "pieces"] spCells) : FnOk P w K mg base (L2N.CX P w) 4 d_cells.f d_cells.fd ["parts", "pieces"] (spLackX rs.C) := by
  refine Fun.okN d_cells.F sc_cells (fun vs H Q E ⟨_, _, _, _, _, _, _, e, _⟩ => by rw [e]; rfl) (fun cdv A outer s H vs Q E hr h => ?_)
  obtain ⟨z, v, qd, l, S, ws, j, rfl, hz, hv, ho, hl, nq, st, hj, q⟩ := h
  refine ⟨_, (pss_cons (ps_if (pt_not (pt_val (pe_call G_is_parts (hr.mono (by decide)) (by rfl) d_is_parts.g d_is_parts.F.kp d_is_parts.b .nil pass0 (pa_cons (pv 0) pa_nil))))
    (pss_one ps_dead)
    pss_nil)
    (pss_cons (ps_for (passes_of rfl) rfl (k_pit (K := K) (pi_tup (pv 0))) (k_pgt (K := K) (n := 3) (pgs_cons (pg_name (i := 2) sc_cells.nd rfl (Or.inl rfl)) (pgs_cons (pg_name (i := 3) sc_cells.nd rfl (Or.inl rfl)) (pgs_cons (pg_name (i := 4) sc_cells.nd rfl (Or.inl rfl)) pgs_nil))))
    (pss_one (ps_if (PW.pt (pw_or (pt_cmp (pc_dnotin (lt1 hr.units) (pv 2) (pv 1)) (by rfl)) (pw_or1 (pt_cmpR op_gt (pe_op op_add (pv 3) (pv 4)) (pe_callB (k_len (K := K)) (by rfl) T.len PySem.boot_len (pa_cons (pe_dget (lt1 hr.units) (pv 1) (pv 2) (fun _ _ => rfl)) pa_nil)) (nomark _)))))
    (pss_one (ps_raiseRef rfl T.r_NoPiece hr (L2N.takes_of rfl rfl rfl rfl) (pa_cons (pv 2) pa_nil)))
    pss_nil)))
    (pss_one (ps_ret (pe_callTy (k_tuple (K := K)) (by rfl) T.tuple (by decide +kernel) (pa_cons (pe_call G_gathered (hr.mono (by decide)) (by rfl) d_gathered.g d_gathered.F.kp d_gathered.b .nil pass0 (pa_cons (pv 0) (pa_cons (pv 1) pa_nil))) pa_nil)))))), ?_⟩
  refine q_if (z := z) (b := false) hz (et_to (et_not (et_B (ev_look (ok := Lg) (f := isPartsD) (ev_var rfl fun H' w => hv.w w) (lg_pa (by omega))))) (by rw [parts_ok ho]; rfl)) (fun hb => (by cases hb)) (fun _ H1 r1 => ?_)
  have st1 := st.go nq r1
  obtain ⟨a, vs, rfl, nu, ha, hds⟩ := (hv.w r1.w).tupAt
  have hlen := hds.len
  rw [List.length_map] at hlen
  refine q_forTG (z := z) (xs := vs) r1.dr (ev_tupv rfl nu ha) fun H3 r3 => ?_
  refine ⟨fun i σ' H' => z.R H3 H' ∧ (∀ t ∈ l.take i, lackB S t = false) ∧ ∃ o3 o4 o5, σ' = [some (.ref a), some (.ref qd), o3, o4, o5],
    ⟨r3.dr, fun t ht => (by rw [List.take_zero] at ht; cases ht), none, none, none, rfl⟩, fun i σ' H' hP => hP.1.w, fun i x σ' H' hx hP => ?_, fun σ' H' hP => ?_⟩
  · obtain ⟨r4, hno, o3, o4, o5, rfl⟩ := hP
    obtain ⟨d', hd, dv⟩ := hds.at hx
    rw [List.getElem?_map] at hd
    obtain ⟨t, ht, rfl⟩ := Option.map_eq_some_iff.mp hd
    have hm := List.mem_of_getElem? ht
    have okt := ho t hm
    have r34 := r3.tr r4
    have st4 := st1.go nq r34
    have fst : lackB S t = true → j = t.1 := fun hb => by
      have e1 : l = l.take i ++ t :: l.drop (i + 1) := by
        have h1 := (List.getElem?_eq_some_iff.mp ht)
        obtain ⟨h1, h2⟩ := h1
        rw [← h2, List.getElem_cons_drop, List.take_append_drop]
      unfold firstLack at hj
      rw [e1, List.find?_append, List.find?_eq_none.mpr (fun u hu => by rw [hno u hu]; decide), List.find?_cons_of_pos hb] at hj
      injection hj with hj
      exact hj.symm
    refine g_tri (z := z) (dv.w r34.w) ?_
    refine s_if0 (z := z) (b := lackB S t) r4.dr ?_ (fun hb H5 r5 => ?_) (fun hb H5 r5 => ⟨r4.tr r5, fun u hu => ?_, _, _, _, rfl⟩)
    · cases e : tabG S t.1 with
      | none =>
        refine et_to (et_or (a := true) (b := true) (et_B (ev_to (ev_dnotin2 (z := z) (j := t.1) nq st4.at_ (ev_is rfl) (ev_is rfl)) (by rw [kv_none e]; rfl))) fun h => by cases h) ?_
        unfold lackB
        rw [e]
        rfl
      | some ns =>
        obtain ⟨u, hu, du⟩ := kv_get st4.da e
        refine et_to (et_or (a := false) (b := decide ((ns.length : Int) < t.2.1 + t.2.2)) (et_B (ev_dnotin (z := z) nq st4.at_ (ev_is rfl) (ev_is rfl) hu)) fun _ => et_test (ev_to (ev_i0 (g := fun i j => .bl (decide (j < i))) (ev_i0 (g := fun i j => .int (i + j)) (ev_is rfl) (ev_is rfl)) (ev_lenT (ev_tupTu (ev_piece nq st4 e (ev_is rfl) (ev_is rfl))))) (by rw [List.length_map]))) ?_
        unfold lackB
        rw [e]
        rfl
    · rw [fst hb] at q
      exact s_raise (z := z) r5.dr (ev_is rfl) fun H6 dx r6 hdx => q H6 dx (r1.tr (r34.tr (r5.tr r6))) hdx
    · rw [List.take_add_one, ht] at hu
      rcases List.mem_append.mp hu with hu | hu
      · exact hno u hu
      · rw [List.mem_singleton.mp hu]
        exact hb
  · obtain ⟨r4, hno, o3, o4, o5, rfl⟩ := hP
    exfalso
    rw [hlen, List.take_length] at hno
    unfold firstLack at hj
    rw [List.find?_eq_none.mpr (fun u hu => by rw [hno u hu]; decide)] at hj
    cases hj

end
end K09

set_option Elab.async false
set_option linter.all false
set_option maxRecDepth 100000
set_option maxHeartbeats 4000000
namespace K09
open PySem PySem.Spec PyProof.Rows L2 FB RZ
section
variable {P : Program} {w : World} {K : PySem.W.Frag} {mg : Str → Option Value} {base : Heap} {rs : Rs} {cs : Cs}
/-- the kind of a refusal of a place -/
theorem ok_sort (T : Tx P K mg rs cs) (d__law_sort : Df K mg "_law_sort" s__law_sort ["_law_e"]) : FnE P w K mg base CX0 2 d__law_sort.f d__law_sort.fd ["_law_e"] (spSortN "piece" rs.C) := by
  refine fne_of d__law_sort.F sc__law_sort (fun p vs H Q E ⟨_, _, _, e, _⟩ => by rw [e]; rfl) (fun cdv A outer s H vs Q E p hot hpin hr h => ?_)
  obtain ⟨a, oe⟩ := p
  obtain ⟨z, dx, fs, rfl, hz0, hz, hf, nd, hd, q⟩ := h
  have KC := T.KC
  have hp : (a, oe) ∈ [(a, oe)] := List.mem_cons_self
  refine ⟨_, (pss_cons (ps_set (i := 1) sc__law_sort.nd rfl (.inl rfl) (pe_lst (pa_cons (pe_callB (call_isiE KC hp hz hf) (by rfl) T.isinstance (by decide +kernel) (pa_cons (pv 0) (pa_cons (pe_glob (v := .ref cs.NoParts) (by rfl) T.k_NoParts.g rfl) pa_nil))) (pa_cons (pe_callB (call_isiE KC hp hz hf) (by rfl) T.isinstance (by decide +kernel) (pa_cons (pv 0) (pa_cons (pe_glob (v := .ref cs.NoPlace) (by rfl) T.k_NoPlace.g rfl) pa_nil))) (pa_cons (pe_callB (call_isiE KC hp hz hf) (by rfl) T.isinstance (by decide +kernel) (pa_cons (pv 0) (pa_cons (pe_glob (v := .ref cs.NoPiece) (by rfl) T.k_NoPiece.g rfl) pa_nil))) pa_nil)))))
    (pss_cons (ps_set (i := 2) sc__law_sort.nd rfl (.inl rfl) (pe_callB (call_isiTE KC hp hz hf) (by rfl) T.isinstance (by decide +kernel) (pa_cons (pv 0) (pa_cons (pe_tup (pa_cons (pe_glob (v := .ref cs.Busy) (by rfl) T.k_Busy.g rfl) (pa_cons (pe_glob (v := .ref cs.Down) (by rfl) T.k_Down.g rfl) (pa_cons (pe_glob (v := .ref cs.HouseError) (by rfl) T.k_HouseError.g rfl) (pa_cons (pe_glob (v := .ref cs.IsGone) (by rfl) T.k_IsGone.g rfl) (pa_cons (pe_glob (v := .ref cs.NoAsker) (by rfl) T.k_NoAsker.g rfl) (pa_cons (pe_glob (v := .ref cs.NoDeed) (by rfl) T.k_NoDeed.g rfl) (pa_cons (pe_glob (v := .ref cs.NoGroups) (by rfl) T.k_NoGroups.g rfl) (pa_cons (pe_glob (v := .ref cs.NoHouse) (by rfl) T.k_NoHouse.g rfl) (pa_cons (pe_glob (v := .ref cs.NoLetter) (by rfl) T.k_NoLetter.g rfl) (pa_cons (pe_glob (v := .ref cs.NoMany) (by rfl) T.k_NoMany.g rfl) pa_nil))))))))))) pa_nil))))
    (pss_cons (ps_set (i := 2) sc__law_sort.nd rfl (.inl rfl) (pe_or (pv 2) (pe_one (pe_callB (call_isiTE KC hp hz hf) (by rfl) T.isinstance (by decide +kernel) (pa_cons (pv 0) (pa_cons (pe_tup (pa_cons (pe_glob (v := .ref cs.NoOrder) (by rfl) T.k_NoOrder.g rfl) (pa_cons (pe_glob (v := .ref cs.NoQuestion) (by rfl) T.k_NoQuestion.g rfl) (pa_cons (pe_glob (v := .ref cs.NoRights) (by rfl) T.k_NoRights.g rfl) (pa_cons (pe_glob (v := .ref cs.NoRow) (by rfl) T.k_NoRow.g rfl) (pa_cons (pe_glob (v := .ref cs.NoRows) (by rfl) T.k_NoRows.g rfl) (pa_cons (pe_glob (v := .ref cs.NoSign) (by rfl) T.k_NoSign.g rfl) (pa_cons (pe_glob (v := .ref cs.NoTick) (by rfl) T.k_NoTick.g rfl) (pa_cons (pe_glob (v := .ref cs.NoUsers) (by rfl) T.k_NoUsers.g rfl) (pa_cons (pe_glob (v := .ref cs.NoWord) (by rfl) T.k_NoWord.g rfl) (pa_cons (pe_glob (v := .ref cs.Up) (by rfl) T.k_Up.g rfl) pa_nil))))))))))) pa_nil))))))
    (pss_cons (ps_set (i := 2) sc__law_sort.nd rfl (.inl rfl) (pe_or (pv 2) (pe_one (pe_callB (call_isiE KC hp hz hf) (by rfl) T.isinstance (by decide +kernel) (pa_cons (pv 0) (pa_cons (pe_bltn (v := .ty "LookupError") (by rfl) T.LookupError (by decide +kernel) rfl) pa_nil))))))
    (pss_cons (ps_if (PW.pt (pw_or (pt_val (pv 2)) (pw_or (pt_cmpR op_ne (pe_bm PySem.F.plainAttrs_list PySem.F.slot_list_count PySem.F.type_list_count mt_countB (pv 1) (pa_cons pe_bl pa_nil)) pe_int (nomark _)) (pw_or (pt_not (pt_val (pe_callB (call_isiE KC hp hz hf) (by rfl) T.isinstance (by decide +kernel) (pa_cons (pv 0) (pa_cons (pe_glob (v := .ref cs.FarError) (by rfl) T.k_FarError.g rfl) pa_nil))))) (pw_or1 (pt_not (pt_val (pe_callB (call_isiE KC hp hz hf) (by rfl) T.isinstance (by decide +kernel) (pa_cons (pv 0) (pa_cons (pe_bltn (v := .ty "ValueError") (by rfl) T.ValueError (by decide +kernel) rfl) pa_nil))))))))))
    (pss_one (ps_ret pe_str))
    pss_nil)
    (pss_one (ps_ret (pe_ix (k_ixl (K := K)) (pe_lst (pa_cons pe_str (pa_cons pe_str (pa_cons pe_str pa_nil)))) (pe_bm PySem.F.plainAttrs_list PySem.F.slot_list_index PySem.F.type_list_index mt_indexB (pv 1) (pa_cons pe_bl pa_nil)) (fun _ _ => rfl))))))))), ?_⟩
  refine q_set (z := z) (φ := Lst z fun ws _ => ws = [false, false, true].map V.bl) hz0 (ev_lst (ea_is (ev_isE nd hd (.own _) T.k_NoParts.k (ev_is rfl) ev_k) (ea_is (ev_isE nd hd (.own _) T.k_NoPlace.k (ev_is rfl) ev_k) (ea_is (ev_isE nd hd (.own _) T.k_NoPiece.k (ev_is rfl) ev_k) ea_nil))) fun vs H' e => by rw [e]; exact (show 3 ≤ 100000 by decide)) fun v1 H1 r1 f1 => ?_
  have hd1 := r1.kp dx _ nd hd
  refine q_set (z := z) (φ := Is (.bl false)) r1.dr (ev_isTE (us := [.ref cs.Busy, .ref cs.Down, .ref cs.HouseError, .ref cs.IsGone, .ref cs.NoAsker, .ref cs.NoDeed, .ref cs.NoGroups, .ref cs.NoHouse, .ref cs.NoLetter, .ref cs.NoMany]) nd hd1 (.cons (.own cs.Busy) (.cons (.own cs.Down) (.cons (.own cs.HouseError) (.cons (.own cs.IsGone) (.cons (.own cs.NoAsker) (.cons (.own cs.NoDeed) (.cons (.own cs.NoGroups) (.cons (.own cs.NoHouse) (.cons (.own cs.NoLetter) (.cons (.own cs.NoMany) .nil)))))))))) (kit_none fun u hu => by
    simp only [List.mem_cons, List.not_mem_nil, or_false] at hu
    rcases hu with rfl | rfl | rfl | rfl | rfl | rfl | rfl | rfl | rfl | rfl
    · exact T.k_Busy.k
    · exact T.k_Down.k
    · exact T.k_HouseError.k
    · exact T.k_IsGone.k
    · exact T.k_NoAsker.k
    · exact T.k_NoDeed.k
    · exact T.k_NoGroups.k
    · exact T.k_NoHouse.k
    · exact T.k_NoLetter.k
    · exact T.k_NoMany.k) (ev_is rfl) (fun H9 r9 => ev_tup (ea_is ev_k (ea_is ev_k (ea_is ev_k (ea_is ev_k (ea_is ev_k (ea_is ev_k (ea_is ev_k (ea_is ev_k (ea_is ev_k (ea_is ev_k ea_nil)))))))))) fun vs H' e => by rw [e]; exact (show 10 ≤ 100000 by decide))) fun v2 H2 r2 f2 => ?_
  have e2 := f2 H2 .refl
  subst e2
  have hd2 := r2.kp dx _ nd hd1
  refine q_set (z := z) (φ := Is (.bl false)) r2.dr (ev_to (ev_or (a := false) (b := false) (ev_is rfl) fun _ => ev_isTE (us := [.ref cs.NoOrder, .ref cs.NoQuestion, .ref cs.NoRights, .ref cs.NoRow, .ref cs.NoRows, .ref cs.NoSign, .ref cs.NoTick, .ref cs.NoUsers, .ref cs.NoWord, .ref cs.Up]) nd hd2 (.cons (.own cs.NoOrder) (.cons (.own cs.NoQuestion) (.cons (.own cs.NoRights) (.cons (.own cs.NoRow) (.cons (.own cs.NoRows) (.cons (.own cs.NoSign) (.cons (.own cs.NoTick) (.cons (.own cs.NoUsers) (.cons (.own cs.NoWord) (.cons (.own cs.Up) .nil)))))))))) (kit_none fun u hu => by
    simp only [List.mem_cons, List.not_mem_nil, or_false] at hu
    rcases hu with rfl | rfl | rfl | rfl | rfl | rfl | rfl | rfl | rfl | rfl
    · exact T.k_NoOrder.k
    · exact T.k_NoQuestion.k
    · exact T.k_NoRights.k
    · exact T.k_NoRow.k
    · exact T.k_NoRows.k
    · exact T.k_NoSign.k
    · exact T.k_NoTick.k
    · exact T.k_NoUsers.k
    · exact T.k_NoWord.k
    · exact T.k_Up.k) (ev_is rfl) (fun H9 r9 => ev_tup (ea_is ev_k (ea_is ev_k (ea_is ev_k (ea_is ev_k (ea_is ev_k (ea_is ev_k (ea_is ev_k (ea_is ev_k (ea_is ev_k (ea_is ev_k ea_nil)))))))))) fun vs H' e => by rw [e]; exact (show 10 ≤ 100000 by decide))) rfl) fun v3 H3 r3 f3 => ?_
  have e3 := f3 H3 .refl
  subst e3
  have hd3 := r3.kp dx _ nd hd2
  refine q_set (z := z) (φ := Is (.bl false)) r3.dr (ev_to (ev_or (a := false) (b := false) (ev_is rfl) fun _ => ev_isE nd hd3 (.ty "LookupError") T.kl (ev_is rfl) ev_k) rfl) fun v4 H4 r4 f4 => ?_
  have e4 := f4 H4 .refl
  subst e4
  have hd4 := r4.kp dx _ nd hd3
  have w14 := ((r2.tr r3).tr r4).w
  have lst : ∀ {H9 : Hp} {σ : L2.St}, z.R H4 H9 → σ[1]? = some (some v1) → Ev z (tVar 1) σ H9 (Lst z fun ws _ => ws = [false, false, true].map V.bl) := fun r9 e => ev_var e fun H' w => f1 H' ((w14.tr r9.w).tr w)
  refine q_if (z := z) (b := false) r4.dr (et_to (et_or (a := false) (b := false) (et_B (ev_is rfl)) fun _ => et_or (a := false) (b := false) (et_test (ev_to (ev_ne (ev_countB (bs := [false, false, true]) (k := true) (lst r4.dr rfl) ev_k) ev_k rfl) rfl)) fun _ => et_or (a := false) (b := false) (et_not (et_B (ev_isE nd hd4 (.own _) T.k_FarError.k (ev_is rfl) ev_k))) fun _ => et_not (et_B (ev_isE nd hd4 (.ty "ValueError") T.kv (ev_is rfl) ev_k))) rfl) (fun hb => (by cases hb)) fun _ H5 r5 => ?_
  refine s_ret (z := z) (φ := Is (.str "piece")) r5.dr (ev_op (φ := Lst z fun ws _ => ws = [.str "parts", .str "place", .str "piece"]) (ψ := Is (.int 2)) (ev_lst (ea_is ev_k (ea_is ev_k (ea_is ev_k ea_nil))) fun vs H' e => by rw [e]; exact (show 3 ≤ 100000 by decide)) (fun x H6 r6 _ => ev_indexB (bs := [false, false, true]) (k := true) (j := 2) (lst (r5.tr r6) rfl) ev_k rfl fun m b hm hb => ?_) fun x y H6 r6 ⟨p, ws, e, nu, hp2, ew⟩ ey => ?_) fun v' H6 r6 f => ?_
  · match m, hm, hb with
    | 0, _, hb => injection hb with hb; rw [← hb]; decide
    | 1, _, hb => injection hb with hb; rw [← hb]; decide
  · subst ew
    subst e
    have ey' : y = .int 2 := ey
    subst ey'
    exact rn_val r6.dr (fun Q q => ⟨p, _, 2, .str "piece", rfl, rfl, .inl (.inl hp2), rfl, q⟩) fun _ _ => rfl
  · have e := f H6 .refl
    subst e
    exact q H6 (((((r1.tr r2).tr r3).tr r4).tr r5).tr r6)
end
end K09

set_option Elab.async false
set_option linter.all false
set_option maxRecDepth 100000
set_option maxHeartbeats 4000000
namespace K09
open PySem PySem.Spec PyProof.Rows L2 FB RZ
section
variable {P : Program} {w : World} {K : PySem.W.Frag} {mg : Str → Option Value} {base : Heap} {rs : Rs} {cs : Cs}
/-- a store made lately -/
def StoV (z : Zn) (n : Nat) : VP := fun v H => ∃ q S ws, v = .ref q ∧ ¬ z.U q ∧ GoodS n S ∧ Stored z H q S ws
theorem _root_.FB.Stored.up {z : Zn} {H H' : Hp} {q : Addr} {S : Sto} {ws : List V} (s : Stored z H q S ws) (nu : ¬ z.U q) (w : z.W H H') : Stored z H' q S ws := ⟨w q _ nu s.at_, s.da.w w⟩
theorem StoV.up {z : Zn} {n : Nat} {v : V} {H H' : Hp} (h : StoV z n v H) (w : z.W H H') : StoV z n v H' := by
  obtain ⟨q, S, ws, e, nu, g, s⟩ := h
  exact ⟨q, S, ws, e, nu, g, FB.Stored.up s nu w⟩
def spStore : Sp := fun vs H Q _ => ∃ (z : Zn) (u : Addr) (v : V) (l : List Tri), vs = [.ref u, v] ∧ z.R H H ∧ z.I u = some IsPur ∧ DU z.U H v (paD l) ∧ DrawOk 6 l ∧ ∀ v' H', z.R H H' → StoV z 4 v' H' → Q v' H'
/-- parts and a store -/
def LotSto (z : Zn) (H : Hp) (vs : List V) (l : List Tri) (S : Sto) : Prop := ∃ (v : V) (q : Addr) (ws : List V), vs = [v, .ref q] ∧ DU z.U H v (paD l) ∧ DrawOk 6 l ∧ z.I q = none ∧ GoodS 10 S ∧ Stored z H q S ws
def spDue : Sp := spF fun z H vs d => ∃ l S, LotSto z H vs l S ∧ d = dueD S l
/-- the store in other orders -/
structure Turn (z : Zn) (H : Hp) (S : Sto) (ws : List V) (a : Addr) (T : Sto) (wa : List V) : Prop where
  nu : ¬ z.U a
  st : Stored z H a T wa
  same : Same S T
  good : GoodS 10 T
  sub : ∀ p ∈ kvZ T wa, valV (kvZ S ws) p.1 = some p.2 ∧ ∃ r, p.2 = .ref r
def spTurns : Sp := fun vs H Q _ => ∃ (z : Zn) (q : Addr) (S : Sto) (ws : List V), vs = [.ref q] ∧ z.R H H ∧ z.I q = none ∧ GoodS 10 S ∧ Stored z H q S ws ∧ ∀ v' H', z.R H H' → (∀ H'', z.W H' H'' → Lst z (fun us H3 => ∃ a b Ta wa Tb wb, us = [.ref a, .ref b] ∧ Turn z H3 S ws a Ta wa ∧ Turn z H3 S ws b Tb wb) v' H'') → Q v' H'
def spRight : Sp := fun vs H Q _ => ∃ (z : Zn) (l : List Tri) (S : Sto), z.R H H ∧ LotSto z H vs l S ∧ ∀ H', z.R H H' → Q (.bl true) H'
def spLess : Sp := fun vs H Q _ => ∃ (z : Zn) (u : Addr) (v : V) (q : Addr) (l : List Tri) (S : Sto) (ws : List V), vs = [.ref u, v, .ref q] ∧ z.R H H ∧ z.I u = some IsPur ∧ DU z.U H v (paD l) ∧ DrawOk 6 l ∧ z.I q = none ∧ GoodS 4 S ∧ Stored z H q S ws ∧ ∀ v' H', z.R H H' → StoV z 6 v' H' → Q v' H'
theorem lst_ints {z : Zn} {σ : L2.St} {H : Hp} {te : TE} {f : Nat → Int} {n : Nat} (h : Ev z te σ H (Lst z fun ws H' => ws.length = n ∧ ∀ i w, ws[i]? = some w → Is (.int (f i)) w H')) : Ev z te σ H (Dd z (.list (((List.range n).map f).map PyData.int))) := h.imp fun v H' _ ⟨p, ws, e, nu, hp, h1, h2⟩ => by
  rw [e]
  refine .lst nu hp (dua_of (by rw [List.length_map, List.length_range]; exact h1) fun i w c hw hc => ?_)
  have h3 : w = .int (f i) := h2 i w hw
  rw [List.getElem?_map] at hc
  obtain ⟨j, hj, rfl⟩ := Option.map_eq_some_iff.mp hc
  have hij : i < n := by
    have := (List.getElem?_eq_some_iff.mp hj).1
    rwa [List.length_range] at this
  rw [List.getElem?_range hij] at hj
  cases hj
  rw [h3]
  exact .int _
theorem first_of {S : Sto} {l : List Tri} {i : Nat} {t : Tri} (ht : l[i]? = some t) (hno : ∀ u ∈ l.take i, lackB S u = false) (hb : lackB S t = true) : firstLack S l = some t.1 := by
  have e1 : l = l.take i ++ t :: l.drop (i + 1) := by
    obtain ⟨h1, h2⟩ := (List.getElem?_eq_some_iff.mp ht)
    rw [← h2, List.getElem_cons_drop, List.take_append_drop]
  unfold firstLack
  rw [e1, List.find?_append, List.find?_eq_none.mpr (fun u hu => by rw [hno u hu]; decide), List.find?_cons_of_pos hb]
  rfl
theorem no_first {S : Sto} {l : List Tri} (hno : ∀ u ∈ l, lackB S u = false) : firstLack S l = none := by
  unfold firstLack
  rw [List.find?_eq_none.mpr (fun u hu => by rw [hno u hu]; decide)]
  rfl
theorem due_piece {S : Sto} {l : List Tri} {j : Int} (h : firstLack S l = some j) : dueD S l = .tuple [.str "piece", .str (PyData.int j).shown] := by
  unfold dueD
  rw [h]
theorem due_told {S : Sto} {l : List Tri} (h : firstLack S l = none) : dueD S l = .tuple [.str "told", tuD ((each l).map (cVal S))] := by
  unfold dueD
  rw [h]
theorem lack_eq {S : Sto} {t : Tri} (ht : okT t) : lackB S t = decide (((((tabG S t.1).getD []).length : Nat) : Int) < t.2.1 + t.2.2) := by
  obtain ⟨_, h1, h2⟩ := ht
  unfold lackB
  cases tabG S t.1 with
  | none =>
    show true = decide (((0 : Nat) : Int) < t.2.1 + t.2.2)
    exact (decide_eq_true (by omega)).symm
  | some ns => rfl
theorem each_le6 : ∀ {l : List Tri}, (∀ t ∈ l, t.2.2 ≤ 6) → (each l).length ≤ 6 * l.length
  | [], _ => Nat.le_refl _
  | t :: r, h => by
    have h1 := each_le6 fun x hx => h x (List.mem_cons_of_mem _ hx)
    have h2 := h t List.mem_cons_self
    show (eachT t ++ each r).length ≤ 6 * (r.length + 1)
    rw [List.length_append, eachT_len]
    omega
theorem draw_le {l : List Tri} (h : DrawOk 6 l) : (each l).length ≤ 36 := by
  have := each_le6 fun t ht => (h.2.2 t ht).2.1
  have := h.2.1
  omega
theorem draw_tk {l : List Tri} (h : DrawOk 6 l) (i : Nat) : (each (l.take i)).length ≤ 36 := Nat.le_trans (each_tkl i) (draw_le h)
theorem sm_pc {i : Int} (h1 : 0 ≤ i) (h2 : i ≤ 3) : Sm (.int i) := (Lf.int (by omega)).sm (by decide) (by decide) (.inl rfl)
-- slots of _law_due: 0 _law_lot, 1 _law_store_here, 2 _law_found, 3 _law_piece, 4 _law_first, 5 _law_size, 6 _law_row, 7 _law_k
theorem ok_due (T : Tx P K mg rs cs) (d__law_due : Df K mg "_law_due" s__law_due ["_law_lot", "_law_store_here"]) : FnG P w K mg base CX0 1 d__law_due.f d__law_due.fd ["_law_lot", "_law_store_here"] spDue := by
  refine fng_ok d__law_due.F sc__law_due (fun vs H Q E ⟨_, _, _, ⟨_, _, ⟨_, _, _, e, _⟩, _⟩, _⟩ => by rw [e]; rfl) (fun cdv A outer s H vs Q E hg hr h => ?_)
  obtain ⟨z, d, hz, ⟨l, S, ⟨v, qd, ws, rfl, hv, hl, nq, gs, st⟩, rfl⟩, q⟩ := h
  refine ⟨_, (pss_cons (ps_set (i := 2) sc__law_due.nd rfl (.inl rfl) (pe_lst pa_nil))
    (pss_cons (ps_for PassesOwn.never rfl (k_pit (K := K) (pi_tup (pv 0))) (k_pgt (K := K) (n := 3) (pgs_cons (pg_name (i := 3) sc__law_due.nd rfl (Or.inl rfl)) (pgs_cons (pg_name (i := 4) sc__law_due.nd rfl (Or.inr rfl)) (pgs_cons (pg_name (i := 5) sc__law_due.nd rfl (Or.inl rfl)) pgs_nil))))
    (pss_cons (ps_set (i := 6) sc__law_due.nd rfl (.inr rfl) (pe_dget2 (lt1 hr.units) (pv 1) (pv 3) (pe_tup pa_nil) ⟨rfl, rfl, rfl, rfl⟩))
    (pss_cons (ps_if (pt_cmpR op_lt (pe_callB (k_len (K := K)) (by rfl) T.len PySem.boot_len (pa_cons (pv 6) pa_nil)) (pe_op op_add (pv 4) (pv 5)) (nomark _))
    (pss_one (ps_ret (pe_tup (pa_cons pe_str (pa_cons (pe_callB (call_rp hg hr.units) (by rfl) T.repr (by decide +kernel) (pa_cons (pv 3) pa_nil)) pa_nil)))))
    pss_nil)
    (pss_one (ps_set (i := 2) sc__law_due.nd rfl (.inl rfl) (pe_op op_cat (pv 2) (pe_lc (own := [("_law_k", 7)]) (g := gName 7) rfl sc__law_due.nd  (pi_range1 (by rfl) T.range (pa_cons (pv 5) pa_nil)) (blkOk_by (own := [("_law_k", 7)]) (N := ["_law_lot", "_law_store_here", "_law_found", "_law_piece", "_law_first", "_law_size", "_law_row", "_law_k"]) (sc := defScope s__law_due) (by decide +kernel)) (fun _ _ _ _ _ => (pg_name (i := 7) sc__law_due.nd rfl (Or.inl rfl))) (fun _ _ _ _ _ => pts_nil) (fun _ _ _ _ _ => (pe_ix (k_ixt (K := K)) (pv 6) (pe_op op_add (pv 4) (pv 7)) (fun _ _ => rfl))))))))))
    (pss_one (ps_ret (pe_tup (pa_cons pe_str (pa_cons (pe_callTy (k_tuple (K := K)) (by rfl) T.tuple (by decide +kernel) (pa_cons (pv 2) pa_nil)) pa_nil))))))), ?_⟩
  have ho := hl.1
  obtain ⟨a, vs, rfl, nu, ha, hds⟩ := hv.tupAt
  have hlen := hds.len
  rw [List.length_map] at hlen
  refine q_set (z := z) (φ := Dd z (.list [])) hz (ed_lst ed_nil (by decide)) fun v0 H1 r1 f1 => ?_
  have st1 := st.go nq r1
  have hds1 := hds.w r1.w
  refine q_forTG (z := z) (xs := vs) r1.dr (ev_tupv rfl nu (r1.w a _ nu ha)) fun H3 r3 => ?_
  refine ⟨fun i σ' H' => z.R H3 H' ∧ (∀ t ∈ l.take i, lackB S t = false) ∧ ∃ vf o3 o4 o5 o6, DU z.U H' vf (.list (((each (l.take i)).map (cVal S)).map PyData.int)) ∧ σ' = [some (.ref a), some (.ref qd), some vf, o3, o4, o5, o6, none],
    ⟨r3.dr, fun t ht => (by rw [List.take_zero] at ht; cases ht), v0, none, none, none, none, f1 H3 r3.w, rfl⟩, fun i σ' H' hP => hP.1.w, fun i x σ' H' hx hP => ?_, fun σ' H' hP => ?_⟩
  · obtain ⟨r4, hno, vf, o3, o4, o5, o6, hf, rfl⟩ := hP
    obtain ⟨d', hd, dv⟩ := hds1.at hx
    rw [List.getElem?_map] at hd
    obtain ⟨t, ht, rfl⟩ := Option.map_eq_some_iff.mp hd
    have hm := List.mem_of_getElem? ht
    have okt := ho t hm
    have hsz := hl.2.2 t hm
    have r34 := r3.tr r4
    have st4 := st1.go nq r34
    refine g_tri (z := z) (dv.w r34.w) ?_
    refine q_set (z := z) (φ := Dd z (tuD ((tabG S t.1).getD []))) r4.dr (ev_dget2 (z := z) (j := t.1) nq st4.at_ (ev_is rfl) (fun H5 r5 => ev_is rfl) (fun H5 r5 => ed_tup (ds := []) ed_nil (by decide)) (fun u hu H5 w5 => ?_) fun hn u H5 f => ?_) fun vr H5 r5 fr => ?_
    · cases e : tabG S t.1 with
      | none => rw [kv_none e] at hu; cases hu
      | some ns =>
        obtain ⟨u', hu', du⟩ := kv_get st4.da e
        rw [hu] at hu'
        cases hu'
        exact du.w w5
    · cases e : tabG S t.1 with
      | none => exact f
      | some ns =>
        obtain ⟨u', hu', du⟩ := kv_get st4.da e
        rw [hn] at hu'
        cases hu'
    refine q_if (z := z) (b := lackB S t) r5.dr (et_test (ev_to (ev_i0 (g := fun i j => .bl (decide (i < j))) (ev_lenT (ev_tupTu (ev_var rfl fun H' w => fr H' w))) (ev_i0 (g := fun i j => .int (i + j)) (ev_is rfl) (ev_is rfl))) (by rw [List.length_map, lack_eq okt]))) (fun hb H6 r6 => ?_) (fun hb H6 r6 => ?_)
    · rw [due_piece (first_of ht hno hb)] at q
      exact s_ret (z := z) (φ := Dd z (.tuple [.str "piece", .str (PyData.int t.1).shown])) r6.dr (ed_tup (ed_cons (ev_isD ev_k fun H' w => .str _) fun H7 r7 => ed_cons (ev_isD (ev_repr (ev_isD (ev_is rfl) fun H' w => .int _) (sm_pc (by have := okt.1; omega) hsz.1)) fun H' w => .str _) fun H8 r8 => ed_nil) (by show 2 ≤ 100000; decide)) fun v' H7 r7 f => q v' H7 (r1.tr (r34.tr (r5.tr (r6.tr r7)))) f
    · obtain ⟨ns, e⟩ : ∃ ns, tabG S t.1 = some ns := by
        cases e : tabG S t.1 with
        | some ns => exact ⟨ns, rfl⟩
        | none => unfold lackB at hb; rw [e] at hb; cases hb
      have hns : ¬ ((ns.length : Int) < t.2.1 + t.2.2) := by
        unfold lackB at hb
        rw [e] at hb
        exact of_decide_eq_false hb
      rw [e] at fr
      have w46 := (r5.tr r6).w
      refine s_set (z := z) (φ := Dd z (.list (((each (l.take (i + 1))).map (cVal S)).map PyData.int))) r6.dr ?_ fun v' H7 r7 f7 => ⟨r4.tr (r5.tr (r6.tr r7)), fun u hu => ?_, v', _, _, _, _, f7 H7 .refl, rfl⟩
      · rw [each_tk i t ht, List.map_append, List.map_append]
        refine ev_catD (ev_var rfl fun H' w => (hf.w w46).w w) (fun H8 r8 => ?_) ?_
        · have ee : (eachT t).map (cVal S) = (List.range t.2.2.toNat).map fun k : Nat => cVal S (t.1, t.2.1 + (k : Int)) := by
            unfold eachT
            rw [List.map_map]
            rfl
          rw [ee]
          refine lst_ints (ev_lc (P := (· = t.2.2.toNat)) (φ := fun k => Is (.int (cVal S (t.1, t.2.1 + (k : Int))))) (ei_range (n := t.2.2.toNat) (ea_is (ev_to (ev_is rfl) (by rw [Int.toNat_of_nonneg (by have := okt.2.2; omega)])) ea_nil) (by omega)) (fun n h => by omega) (by intro _; rfl) fun n k x D H9 hn' hk hx hD r9 rD => ?_)
          subst hx
          subst hn'
          have hkk : t.2.1.toNat + k < ns.length := by
            have := okt.2.1
            have := okt.2.2
            omega
          refine (ev_ixDT (z := z.add D) (ds := ns.map PyData.int) (j := t.2.1.toNat + k) (d := .int (cVal S (t.1, t.2.1 + (k : Int)))) (ev_var rfl fun H' w => ?_) (fun H10 r10 => ev_to (ev_i0 (g := fun i j => .int (i + j)) (ev_is rfl) (ev_is rfl)) (by have := okt.2.1; congr 1; omega)) ?_).imp fun v' H' _ h => DU.intAt h
          · exact ((fr H8 (r6.tr r8).w).add hD r9.w).w w
          · rw [List.getElem?_map, List.getElem?_eq_getElem hkk]
            show some (PyData.int ns[t.2.1.toNat + k]) = _
            congr 2
            unfold cVal
            rw [e]
            show _ = ns.getD (t.2.1 + (k : Int)).toNat 0
            have := okt.2.1
            rw [show (t.2.1 + (k : Int)).toNat = t.2.1.toNat + k by omega, List.getD_eq_getElem?_getD, List.getElem?_eq_getElem hkk]
            rfl
        · have h1 := draw_tk hl (i + 1)
          rw [each_tk i t ht, List.length_append] at h1
          rw [List.length_map, List.length_map, List.length_map, List.length_map]
          omega
      · rw [List.take_add_one, ht] at hu
        rcases List.mem_append.mp hu with hu | hu
        · exact hno u hu
        · rw [List.mem_singleton.mp hu]
          exact hb
  · obtain ⟨r4, hno, vf, o3, o4, o5, o6, hf, rfl⟩ := hP
    rw [hlen, List.take_length] at hf hno
    rw [due_told (no_first hno)] at q
    exact s_ret (z := z) (φ := Dd z (.tuple [.str "told", tuD ((each l).map (cVal S))])) r4.dr (ed_tup (ed_cons (ev_isD ev_k fun H' w => .str _) fun H7 r7 => ed_cons (ev_tupD (ev_var rfl fun H' w => (hf.w r7.w).w w)) fun H8 r8 => ed_nil) (by show 2 ≤ 100000; decide)) fun v' H7 r7 f => q v' H7 (r1.tr (r3.tr (r4.tr r7))) f

end
end K09

set_option Elab.async false
set_option linter.all false
set_option maxRecDepth 100000
set_option maxHeartbeats 4000000
namespace K09
open PySem PySem.Spec PyProof.Rows L2 FB RZ
section
variable {P : Program} {w : World} {K : PySem.W.Frag} {mg : Str → Option Value} {base : Heap} {rs : Rs} {cs : Cs}
/-- x = (word, f(..)) in a try -/
theorem q_tryPairS {z : Zn} {sp : Sp} {i : Nat} {a : V} {l : List Cl} {ta : TA} {tu : TS} {D : Ends} {σ : L2.St} {H : Hp} {Φ : List V → Hp → Prop} {K' : PySem.W.Frag} (hR : z.R H H) (h : EvA z ta σ H Φ)
    (k : ∀ vs H2, z.R H H2 → Φ vs H2 → sp vs H2 (fun v H3 => ([a, v] : List V).length ≤ sizeLine ∧ ∀ q, H3 q = none → tu D (σ.set i (some (.ref q))) (upd H3 q (.tup [a, v]))) (fun cls d H3 => wManyA K' { D with nx := tu D } l cls d σ H3)) :
    tSeq (fun D σ H => tAsg (tTup (tCons (tC a) (tCons (tCallS sp (WE (wManyA K' D l)) ta) tNil))) (gName i) D σ H) tu D σ H := h H hR _ fun vs H2 r f => k vs H2 r (f H2 .refl)
-- slots of _law_asked: 0 _law_lot, 1 _law_store_here, 2 _law_found, 3 _law_e
theorem ok_asked (T : Tx P K mg rs cs) (d__law_asked : Df K mg "_law_asked" s__law_asked ["_law_lot", "_law_store_here"]) (d_cells : Df K mg "cells" s_cells ["parts", "pieces"]) (d__law_sort : Df K mg "_law_sort" s__law_sort ["_law_e"])
    (GX_cells : FnOk P w K mg base (L2N.CX P w) 4 d_cells.f d_cells.fd ["parts", "pieces"] (fun vs H Q E => spCells vs H Q E ∨ spLackX rs.C vs H Q E)) (G__law_sort : FnE P w K mg base CX0 2 d__law_sort.f d__law_sort.fd ["_law_e"] (spSortN "piece" rs.C)) :
    FnG P w K mg base CX0 5 d__law_asked.f d__law_asked.fd ["_law_lot", "_law_store_here"] spDue := by
  refine fng_ok d__law_asked.F sc__law_asked (fun vs H Q E ⟨_, _, _, ⟨_, _, ⟨_, _, _, e, _⟩, _⟩, _⟩ => by rw [e]; rfl) (fun cdv A outer s H vs Q E hg hr h => ?_)
  obtain ⟨z, d, hz, ⟨l, S, ⟨v, qd, ws, rfl, hv, hl, nq, gs, st⟩, rfl⟩, q⟩ := h
  refine ⟨_, (pss_cons (ps_set (i := 2) sc__law_asked.nd rfl (.inl rfl) pe_non)
    (pss_cons (ps_try_manyA rfl rfl sc__law_asked.nd (fun W pn xe tk _ => (pss_one (ps_set (i := 2) sc__law_asked.nd rfl (.inl rfl) (pe_tup (pa_cons pe_str (pa_cons (pe_callS GX_cells (hr.mono (by decide)) (by rfl) d_cells.g d_cells.F.kp d_cells.b (fun σ => L2N.passAt tk σ) (pa_cons (pv 0) (pa_cons (pv 1) pa_nil))) pa_nil)))))) (HdsA.cons (i := 3) ⟨rfl, by decide, .inl T.r_NoPiece.gC⟩ rfl rfl (fun a oe cls d pn hz hf => (pss_one (ps_set (i := 2) sc__law_asked.nd rfl (.inl rfl) (pe_tup (pa_cons (pe_callE2 hz hf G__law_sort (room_mark (hr.mono (by decide))) (hot_of hz hf) List.mem_cons_self (by rfl) d__law_sort.g d__law_sort.F.kp d__law_sort.b pass0 (pa_cons (pv 3) pa_nil)) (pa_cons (pe_callB (call_rp hg hr.units) (by rfl) T.repr (by decide +kernel) (pa_cons (pe_byRef T.r_NoPiece hz.zc hf (pv 3)) pa_nil)) pa_nil)))))) HdsA.rest))
    (pss_one (ps_ret (pv 2))))), ?_⟩
  have ho := hl.1
  refine q_set (z := z) (φ := fun _ _ => True) hz (ev_k.imp fun _ _ _ _ => trivial) fun v0 H1 r1 _ => ?_
  refine q_tryPairS (z := z) (Φ := fun vs _ => vs = [v, .ref qd]) r1.dr (ea_is (ev_is rfl) (ea_is (ev_is rfl) ea_nil)) fun vs H2 r2 e => ?_
  subst e
  have r12 := r1.tr r2
  have st2 := st.go nq r12
  have hv2 := hv.w r12.w
  have hl36 := draw_le hl
  have hl6 := hl.2.1
  cases hf : firstLack S l with
  | none =>
    rw [due_told hf] at q
    refine .inl ⟨z, _, r2.dr, ⟨v, qd, l, S, ws, rfl, hv2, ho, by omega, by omega, nq, st2, lack_has ho (lack_none hf), rfl⟩, fun v' H3 r3 f3 => ⟨by show 2 ≤ sizeLine; decide, fun p hp => ?_⟩⟩
    have rn : z.R H3 (upd H3 p (.tup [.str "told", v'])) := r3.dr.new hp
    have f4 : ∀ H', z.W (upd H3 p (.tup [.str "told", v'])) H' → DU z.U H' (.ref p) (.tuple [.str "told", tuD ((each l).map (cVal S))]) := fun H' w => .tup (r3.dr.nu hp) (w p _ (r3.dr.nu hp) upd_same) (.cons (.str _) (.one (f3 H' (rn.w.tr w))))
    exact s_ret (z := z) (φ := Dd z (.tuple [.str "told", tuD ((each l).map (cVal S))])) rn.dr (ev_var rfl fun H' w => f4 H' w) fun v5 H5 r5 f5 => q v5 H5 (r12.tr (r3.tr (rn.tr r5))) f5
  | some j =>
    rw [due_piece hf] at q
    have hj : ∃ t ∈ l, t.1 = j := by
      unfold firstLack at hf
      obtain ⟨t, ht, e⟩ := Option.map_eq_some_iff.mp hf
      exact ⟨t, List.mem_of_find?_eq_some ht, e⟩
    obtain ⟨t, htm, rfl⟩ := hj
    have sm : Sm (.int t.1) := sm_pc (by have := (ho t htm).1; omega) (hl.2.2 t htm).1
    refine .inr ⟨z, v, qd, l, S, ws, t.1, rfl, r2.dr, hv2, ho, by omega, nq, st2, hf, fun H3 dx r3 hdx => ?_⟩
    refine ⟨true, T.r_NoPiece.te, fun _ a ha => ?_, fun hb => by cases hb⟩
    have rn : z.R H3 (upd H3 dx (.xd [("piece", .int t.1)])) := r3.dr.new hdx
    have nd : z.I dx = none := r3.dr.ni hdx
    refine (show Ev z (tTup (tCons (tCall (spAll (spSortN "piece" rs.C) a (.ref rs.C) (some dx)) [] E0 (tCons (tVar 3) tNil)) (tCons (tCB rRepr (tCons (tByRef "piece" rs.C a (.ref rs.C) (some dx) (tVar 3)) tNil)) tNil))) [some v, some (.ref qd), some v0, some (.ref a)] (upd H3 dx (.xd [("piece", .int t.1)])) (Dd z (.tuple [.str "piece", .str (PyData.int t.1).shown])) from ?_) _ rn.dr _ fun v' H4 r4 f4 => ?_
    · exact (ev_tup (ea_is (ev_sortN nd upd_same (ev_is rfl)) (ea_is (ev_repr (ev_isD (ev_byRef nd upd_same (ev_is rfl)) fun H' w => .int _) sm) ea_nil)) fun vs H' e => by rw [e]; exact (show 2 ≤ 100000 by decide)).imp fun v' H' _ ⟨p, ws, e, nu, hp, ew⟩ => by
        rw [e]
        exact .tup nu hp (by rw [ew]; exact .cons (.str _) (.one (.str _)))
    · exact s_ret (z := z) (φ := Dd z (.tuple [.str "piece", .str (PyData.int t.1).shown])) r4.dr (ev_var rfl fun H' w => f4 H' w) fun v5 H5 r5 f5 => q v5 H5 (r12.tr (r3.tr (rn.tr (r4.tr r5)))) f5

end
end K09

set_option Elab.async false
set_option linter.all false
set_option maxRecDepth 100000
set_option maxHeartbeats 4000000
namespace K09
open PySem PySem.Spec PyProof.Rows L2 FB RZ
section
variable {P : Program} {w : World} {K : PySem.W.Frag} {mg : Str → Option Value} {base : Heap} {rs : Rs} {cs : Cs}
def keysS (S : Sto) : List Int := S.map (·.1)
def permS (S : Sto) (js : List Int) : Sto := js.map fun j => (j, (tabG S j).getD [])
def permW (S : Sto) (ws : List V) (js : List Int) : List V := js.map fun j => (valV (kvZ S ws) (.inl j : Key)).getD .non
def permK (S : Sto) (ws : List V) (js : List Int) : List (Key × V) := js.map fun j => ((.inl j : Key), (valV (kvZ S ws) (.inl j : Key)).getD .non)
theorem kvz_perm {S : Sto} {ws : List V} : ∀ js : List Int, kvZ (permS S js) (permW S ws js) = permK S ws js
  | [] => rfl
  | j :: js => congrArg (_ :: ·) (kvz_perm js)
theorem tab_in {j : Int} : ∀ {S : Sto}, j ∈ keysS S → ∃ ns, tabG S j = some ns
  | [], h => by cases h
  | t :: S, h => by
    by_cases e : t.1 = j
    · exact ⟨_, tabG_pos e⟩
    · rw [tabG_neg e]
      have h' : j ∈ t.1 :: keysS S := h
      rw [List.mem_cons] at h'
      exact tab_in (h'.resolve_left fun q => e q.symm)
theorem dua_perm {U : Addr → Prop} {H : Hp} {S : Sto} {ws : List V} (hw : DUA U H ws (S.map fun t => tuD t.2)) : ∀ {js : List Int}, (∀ j ∈ js, j ∈ keysS S) → DUA U H (permW S ws js) ((permS S js).map fun t => tuD t.2)
  | [], _ => .nil
  | j :: js, h => by
    obtain ⟨ns, e⟩ := tab_in (h j List.mem_cons_self)
    obtain ⟨u, hu, du⟩ := kv_get hw e
    refine .cons ?_ (dua_perm hw fun j hj => h j (List.mem_cons_of_mem _ hj))
    show DU U H ((valV (kvZ S ws) (.inl j : Key)).getD .non) (tuD ((tabG S j).getD []))
    rw [hu, e]
    exact du
theorem tab_perm {S : Sto} {j : Int} : ∀ js : List Int, tabG (permS S js) j = if j ∈ js then some ((tabG S j).getD []) else none
  | [] => rfl
  | k :: js => by
    show tabG ((k, (tabG S k).getD []) :: permS S js) j = _
    by_cases e : k = j
    · rw [tabG_pos e, if_pos (by rw [e]; exact List.mem_cons_self), e]
    · rw [tabG_neg e, tab_perm js]
      by_cases h : j ∈ js
      · rw [if_pos h, if_pos (List.mem_cons_of_mem _ h)]
      · rw [if_neg h, if_neg fun m => (List.mem_cons.mp m).elim (fun q => e q.symm) h]
theorem same_perm {S : Sto} {js : List Int} (hp : js.Perm (keysS S)) : Same S (permS S js) := by
  refine ⟨?_, fun j => ?_⟩
  · unfold permS
    rw [List.length_map, hp.length_eq]
    exact List.length_map _
  · rw [tab_perm]
    by_cases h : j ∈ js
    · obtain ⟨ns, e⟩ := tab_in (hp.mem_iff.mp h)
      rw [if_pos h, e]
      rfl
    · rw [if_neg h, tabG_none fun m => h (hp.mem_iff.mpr m)]
theorem good_perm {S : Sto} {js : List Int} {n : Nat} (hp : js.Perm (keysS S)) (g : GoodS n S) : GoodS n (permS S js) := by
  have e : (permS S js).map (·.1) = js := by
    unfold permS
    rw [List.map_map]
    exact List.map_id js
  refine ⟨by rw [e]; exact hp.nodup_iff.mpr g.nd, by rw [(same_perm hp).1]; exact g.le, fun t ht => ?_⟩
  obtain ⟨j, hj, rfl⟩ := List.mem_map.mp ht
  obtain ⟨ns, e⟩ := tab_in (hp.mem_iff.mp hj)
  show ((tabG S j).getD []).length ≤ 200
  rw [e]
  exact g.get e
theorem perm_merge {S : Sto} {ws : List V} {js : List Int} {n : Nat} (hp : js.Perm (keysS S)) (g : GoodS n S) : mergeK [] (permK S ws js) = permK S ws js := by
  rw [← kvz_perm]
  exact kv_merge (by unfold permW permS; rw [List.length_map, List.length_map]) (good_perm hp g).nd
theorem turn_of {z : Zn} {H H' : Hp} {S : Sto} {ws : List V} {q a : Addr} {js : List Int} (hp : js.Perm (keysS S)) (g : GoodS 10 S) (st : Stored z H q S ws) (w : z.W H H') (nu : ¬ z.U a) (ha : H' a = some (.dK (permK S ws js))) : Turn z H' S ws a (permS S js) (permW S ws js) := by
  refine ⟨nu, ⟨by rw [kvz_perm]; exact ha, (dua_perm st.da fun j hj => hp.mem_iff.mp hj).w w⟩, same_perm hp, good_perm hp g, fun p hm => ?_⟩
  rw [kvz_perm] at hm
  obtain ⟨j, hj, rfl⟩ := List.mem_map.mp hm
  obtain ⟨ns, e⟩ := tab_in (hp.mem_iff.mp hj)
  obtain ⟨u, hu, du⟩ := kv_get st.da e
  show valV (kvZ S ws) (.inl j : Key) = some ((valV (kvZ S ws) (.inl j : Key)).getD .non) ∧ ∃ r, (valV (kvZ S ws) (.inl j : Key)).getD .non = .ref r
  rw [hu]
  obtain ⟨r, er, _⟩ := tu_at du
  exact ⟨rfl, r, er⟩
/-- lists of ints, as data and as they stand -/
theorem il_d {z : Zn} {σ : L2.St} {H : Hp} {te : TE} {ns : List Int} (h : Ev z te σ H (Lst z fun ws _ => ws = ns.map V.int)) : Ev z te σ H (Dd z (.list (ns.map PyData.int))) := h.imp fun v H' _ ⟨p, ws, e, nu, hp, ew⟩ => by
  rw [e]
  exact .lst nu hp (by rw [ew]; exact ints_dua _)
theorem d_il {z : Zn} {σ : L2.St} {H : Hp} {te : TE} {ns : List Int} (h : Ev z te σ H (Dd z (.list (ns.map PyData.int)))) : Ev z te σ H (Lst z fun ws _ => ws = ns.map V.int) := h.imp fun v H' _ f => by
  obtain ⟨a, vs, e, nu, ha, hd⟩ := DU.lstAt f
  exact ⟨a, vs, e, nu, ha, dua_ints hd⟩
-- slots of _law_turns: 0 _law_store_here, 1 _law_spots, 2 _law_piece, 3 _law_row
theorem ok_turns (T : Tx P K mg rs cs) (d__law_turns : Df K mg "_law_turns" s__law_turns ["_law_store_here"]) : FnOk P w K mg base CX0 1 d__law_turns.f d__law_turns.fd ["_law_store_here"] spTurns := by
  refine d__law_turns.F.ok sc__law_turns (fun vs H Q E ⟨_, _, _, _, e, _⟩ => by rw [e]; rfl) (fun cdv A outer s H vs Q E hr h => ?_)
  obtain ⟨z, qd, S, ws, rfl, hz, nq, gs, st, q⟩ := h
  refine ⟨_, (pss_cons (ps_set (i := 1) sc__law_turns.nd rfl (.inl rfl) (pe_callTy (call_list_dK rfl) (by rfl) T.list (by decide +kernel) (pa_cons (pv 0) pa_nil)))
    (pss_one (ps_ret (pe_lc (own := [("_law_row", 3)]) (g := gName 3) rfl sc__law_turns.nd  (k_pil (K := K) (pi_list (pe_lst (pa_cons (k_revl (K := K) (pe_revL (pv 1))) (pa_cons (pe_op op_cat (pe_slice (k_sll (K := K)) (pv 1) (po_some pe_int) po_none) (pe_slice (k_sll (K := K)) (pv 1) po_none (po_some pe_int))) pa_nil))))) (blkOk_by (own := [("_law_row", 3)]) (N := ["_law_store_here", "_law_spots", "_law_piece", "_law_row"]) (sc := defScope s__law_turns) (by decide +kernel)) (fun _ _ _ _ _ => (pg_name (i := 3) sc__law_turns.nd rfl (Or.inl rfl))) (fun _ _ _ _ _ => pts_nil) (fun _ _ _ _ _ => (pe_callTy (k_dictP (K := K)) (by rfl) T.dict (by decide +kernel) (pa_cons (pe_lc (own := [("_law_piece", 2)]) (g := gName 2) rfl sc__law_turns.nd  (k_pil (K := K) (pi_list (pv 3))) (blkOk_by (own := [("_law_piece", 2)]) (N := ["_law_store_here", "_law_spots", "_law_piece", "_law_row"]) (sc := { kind := ScopeKind.function, names := [(".0", NameKind.local), ("_law_row", NameKind.local), ("dict", NameKind.globalImplicit), ("_law_store_here", NameKind.cell)], isGenerator := false, isCoroutine := false }) (by decide +kernel)) (fun _ _ _ _ _ => (pg_name (i := 2) sc__law_turns.nd rfl (Or.inl rfl))) (fun _ _ _ _ _ => pts_nil) (fun _ _ _ _ _ => (pe_tup (pa_cons (pv 2) (pa_cons (pe_dget (lt1 hr.units) (pv 0) (pv 2) (fun _ _ => rfl)) pa_nil))))) pa_nil))))))), ?_⟩
  have hk : ((kvZ S ws).map fun kv => kV kv.1) = (keysS S).map V.int := by
    rw [kvz_keys st.len]
    unfold keysS
    rw [List.map_map]
    rfl
  have kle : (keysS S).length ≤ 10 := by
    unfold keysS
    rw [List.length_map]
    exact gs.le
  refine q_set (z := z) (φ := Lst z fun us _ => us = (keysS S).map V.int) hz ((ev_listK (z := z) nq st.at_ (ev_is rfl)).imp fun v H' _ ⟨p, us, e, nu, hp, eu⟩ => ⟨p, us, e, nu, hp, eu.trans hk⟩) fun vk H1 r1 f1 => ?_
  refine s_ret (z := z) (φ := Lst z fun us H3 => us.length = 2 ∧ ∀ (i : Nat) (u : V), us[i]? = some u → ∃ (a : Addr) (js : List Int), u = V.ref a ∧ ¬ z.U a ∧ js.Perm (keysS S) ∧ H3 a = some (.dK (permK S ws js))) r1.dr ?_ fun v' H5 r5 f5 => q v' H5 (r1.tr r5) fun H6 w6 => ?_
  · refine ev_lcD (Φ := fun us H' => ∃ (a b : Addr) (ja jb : List Int), us = [V.ref a, V.ref b] ∧ ¬ z.U a ∧ ¬ z.U b ∧ H' a = some (.lst (ja.map V.int)) ∧ H' b = some (.lst (jb.map V.int)) ∧ ja.Perm (keysS S) ∧ jb.Perm (keysS S)) ?_ fun p us H2 r2 fu nup hp => ?_
    · refine (ev_lst (ea_cons (φ := Lst z fun us _ => us = (keysS S).reverse.map V.int) ?_ fun _ H3 r3 _ => ea_cons (φ := Lst z fun us _ => us = ((keysS S).drop 1 ++ (keysS S).take 1).map V.int) ?_ fun _ H4 r4 _ => ea_nil) fun us H' ⟨_, _, e, _, _, _, e2, _, e3⟩ => by rw [e, e2, e3]; exact (show 2 ≤ 100000 by decide)).imp ?_
      · exact (ev_revL (xs := (keysS S).map V.int) (ev_var rfl fun H' w => f1 H' w)).imp fun v H' _ ⟨p, us, e, nu, hp, eu⟩ => ⟨p, us, e, nu, hp, by rw [eu, List.map_reverse]⟩
      · refine d_il ?_
        rw [List.map_append, List.map_drop, List.map_take]
        exact ev_catD (ev_slFrom (n := 1) (il_d (ev_var rfl fun H' w => f1 H' (r3.w.tr w))) ev_k) (fun H4 r4 => ev_slTo (n := 1) (il_d (ev_var rfl fun H' w => f1 H' ((r3.tr r4).w.tr w))) ev_k) (by rw [List.length_drop, List.length_take, List.length_map]; omega)
      · rintro v H' _ ⟨p, us, e, nu, hp, va, ra, rfl, ⟨a, ua, rfl, na, ha, rfl⟩, vb, rb, rfl, ⟨b, ub, rfl, nb, hb, rfl⟩, rfl⟩
        exact ⟨p, _, e, nu, hp, a, b, _, _, rfl, na, nb, ha, hb, List.reverse_perm _, (List.perm_append_comm.trans (by rw [List.take_append_drop]))⟩
    · obtain ⟨a, b, ja, jb, rfl, nua, nub, ha, hb, pa, pb⟩ := fu H2 .refl
      have r12 := r1.tr r2
      refine (ev_lc (P := (· = 2)) (φ := fun _ u H3 => ∃ (a : Addr) (js : List Int), u = V.ref a ∧ ¬ z.U a ∧ js.Perm (keysS S) ∧ H3 a = some (.dK (permK S ws js))) (ei_lst (xs := [.ref a, .ref b]) (ev_c fun H' w => ⟨p, _, rfl, nup, w p _ nup hp, rfl⟩)) (fun n h => by omega) (by intro _; rfl) fun n i x D H3 hn hi hx hD r3 rD => ?_)
      have hrow : ∃ (c : Addr) (js : List Int), x = V.ref c ∧ ¬ z.U c ∧ H2 c = some (.lst (js.map V.int)) ∧ js.Perm (keysS S) := by
        match i, hx with
        | 0, hx => cases hx; exact ⟨a, ja, rfl, nua, ha, pa⟩
        | 1, hx => cases hx; exact ⟨b, jb, rfl, nub, hb, pb⟩
      obtain ⟨c, js, rfl, nuc, hc, pj⟩ := hrow
      have stD := st.go nq (r12.tr r3)
      have jle : js.length ≤ 10 := by rw [pj.length_eq]; exact kle
      have cD : ¬ (z.add D).U c := fun u => u.elim nuc fun e => by
        have e' : c = D := e
        rw [e', hD] at hc
        cases hc
      have hc3 := r3.w c _ nuc hc
      have inner : Ev (z.add D) (tLc (iList K (tVar 3)) (gName 2) tYes (tTup (tCons (tVar 2) (tCons (tDGet (tVar 0) (tVar 2)) tNil))) [2]) [some (.ref qd), some vk, none, some (.ref c)] H3 (Lst (z.add D) fun us H' => us.length = (permK S ws js).length ∧ ∀ (i : Nat) (w : V), us[i]? = some w → ∃ (kv : Key × V) (a : Addr), (permK S ws js)[i]? = some kv ∧ w = V.ref a ∧ H' a = some (.tup [kV kv.1, kv.2])) := by
        refine (ev_lc (z := z.add D) (P := (· = js.length)) (it := fun i v => (js.map V.int)[i]? = some v) (φ := fun i w H' => ∃ (kv : Key × V) (a : Addr), (permK S ws js)[i]? = some kv ∧ w = V.ref a ∧ H' a = some (.tup [kV kv.1, kv.2])) ?_ (fun n h => by omega) (by intro _; rfl) fun n i x D2 H4 hn hi hx hD2 r4 rD2 => ?_).imp fun v H' _ ⟨p, us, e, nu, hp, hl, hu⟩ => ⟨p, us, e, nu, hp, by unfold permK; rw [List.length_map, hl], hu⟩
        · have := ei_lst (K := K) (xs := js.map V.int) (ev_var (z := z.add D) (σ := [some (.ref qd), some vk, none, some (.ref c)]) (H := H3) (i := 3) (v := .ref c) (φ := Lst (z.add D) fun us _ => us = js.map V.int) rfl fun H' w => ⟨c, _, rfl, cD, w c _ cD hc3, rfl⟩)
          rw [List.length_map] at this
          exact this
        · rw [List.getElem?_map] at hx
          obtain ⟨j, hj, rfl⟩ := Option.map_eq_some_iff.mp hx
          obtain ⟨ns, e⟩ := tab_in (pj.mem_iff.mp (List.mem_of_getElem? hj))
          obtain ⟨u, hu, du⟩ := kv_get st.da e
          refine (ev_tup (z := (z.add D).add D2) (Φ := fun vs _ => vs = [.int j, u]) (ea_is (ev_is rfl) (ea_is (ev_dget (z := (z.add D).add D2) (j := j) nq (r4.kp qd _ nq stD.at_) (ev_is rfl) (ev_is rfl) hu) ea_nil)) fun vs H' e => by rw [e]; exact (show 2 ≤ 100000 by decide)).imp fun v' H' _ ⟨p, us, e, nu, hp, eu⟩ => ⟨((.inl j : Key), u), p, ?_, e, by rw [hp, eu]; rfl⟩
          unfold permK
          rw [List.getElem?_map, hj]
          show some (_, (valV (kvZ S ws) (.inl j : Key)).getD .non) = _
          rw [hu]
          rfl
      exact (ev_dict (z := z.add D) inner (perm_merge pj gs)).imp fun v' H' _ ⟨q, e, nq', hq⟩ => ⟨q, js, e, fun u => nq' (Or.inl u), pj, hq⟩
  · obtain ⟨p, us, e, nu, hp, hl2, hu⟩ := f5 H6 w6
    match us, hl2 with
    | [u1, u2], _ =>
      obtain ⟨a, ja, rfl, na, pa, ha⟩ := hu 0 u1 rfl
      obtain ⟨b, jb, rfl, nb, pb, hb⟩ := hu 1 u2 rfl
      have w := (r1.tr r5).w.tr w6
      exact ⟨p, _, e, nu, hp, a, b, _, _, _, _, rfl, turn_of pa gs st w na ha, turn_of pb gs st w nb hb⟩

end
end K09

set_option Elab.async false
set_option linter.all false
set_option maxRecDepth 100000
set_option maxHeartbeats 4000000
namespace K09
open PySem PySem.Spec PyProof.Rows L2 FB RZ
section
variable {P : Program} {w : World} {K : PySem.W.Frag} {mg : Str → Option Value} {base : Heap} {rs : Rs} {cs : Cs}
theorem s_forLP {z : Zn} {K : PySem.W.Frag} {σ : L2.St} {H : Hp} {te : TE} {g : TG} {ts : TS} {D : Ends} {Φ : List V → Hp → Prop} (hR : z.R H H) (h : Ev z te σ H (Lst z Φ)) (main : ∀ ws H1, z.R H H1 → Φ ws H1 → ∃ Pv : Nat → L2.St → Hp → Prop, Pv 0 σ H1 ∧ (∀ i σ' H', Pv i σ' H' → z.W H1 H') ∧
      (∀ i x σ' H', ws[i]? = some x → Pv i σ' H' → g x σ' H' fun σ2 H2 => ts { D with nx := Pv (i + 1), ct := Pv (i + 1), bk := D.nx } σ2 H2) ∧ ∀ σ' H', Pv ws.length σ' H' → D.nx σ' H') : tFor (iList K te) g ts D σ H :=
  h H hR _ fun v H1 e f => by
    obtain ⟨p, ws, ev, nu, hp, hΦ⟩ := f H1 .refl
    obtain ⟨Pv, p0, pw, ps, pd⟩ := main ws H1 e hΦ
    exact ⟨p, ev, ⟨ws, .inl (.inl hp)⟩, for_list (K := K) (a := p) (xs := ws) Pv p0 (fun i σ' H' _ q => .inl (.inl (pw i σ' H' q p _ nu hp))) (fun i x σ' H' hx q => ps i x σ' H' hx q) pd⟩
theorem q_forLP {z : Zn} {K : PySem.W.Frag} {σ : L2.St} {H : Hp} {te : TE} {g : TG} {ts tu : TS} {D : Ends} {Φ : List V → Hp → Prop} (hR : z.R H H) (h : Ev z te σ H (Lst z Φ)) (main : ∀ ws H1, z.R H H1 → Φ ws H1 → ∃ Pv : Nat → L2.St → Hp → Prop, Pv 0 σ H1 ∧ (∀ i σ' H', Pv i σ' H' → z.W H1 H') ∧
      (∀ i x σ' H', ws[i]? = some x → Pv i σ' H' → g x σ' H' fun σ2 H2 => ts { D with nx := Pv (i + 1), ct := Pv (i + 1), bk := tu D } σ2 H2) ∧ ∀ σ' H', Pv ws.length σ' H' → tu D σ' H') : tSeq (tFor (iList K te) g ts) tu D σ H :=
  s_forLP (D := { D with nx := tu D }) hR h main
theorem ev_due {z : Zn} {σ : L2.St} {H : Hp} {ta tb : TE} {E : XK} {l : List Tri} {q : Addr} {S : Sto} {ws : List V} (ha : Ev z ta σ H (Dd z (paD l))) (hb : ∀ H1, z.R H H1 → Ev z tb σ H1 (Is (.ref q))) (nq : z.I q = none) (hl : DrawOk 6 l) (gs : GoodS 10 S) (st : Stored z H q S ws) : Ev z (tCall spDue [] E (tCons ta (tCons tb tNil))) σ H (Dd z (dueD S l)) :=
  ev_F (A := fun z H vs d => ∃ l S, LotSto z H vs l S ∧ d = dueD S l) (ea_cons ha fun v H1 r _ => ea_is (hb H1 r) ea_nil) fun vs H1 r ⟨v, rr, e1, hv, er⟩ => ⟨l, S, ⟨v, q, ws, by rw [e1, er], hv, hl, nq, gs, st.go nq r⟩, rfl⟩
theorem ev_turns {z : Zn} {σ : L2.St} {H : Hp} {ta : TE} {E : XK} {q : Addr} {S : Sto} {ws : List V} (ha : Ev z ta σ H (Is (.ref q))) (nq : z.I q = none) (gs : GoodS 10 S) (st : Stored z H q S ws) : Ev z (tCall spTurns [] E (tCons ta tNil)) σ H (Lst z (fun us H3 => ∃ a b Ta wa Tb wb, us = [.ref a, .ref b] ∧ Turn z H3 S ws a Ta wa ∧ Turn z H3 S ws b Tb wb)) :=
  ev_call (ea_is ha ea_nil) fun vs H1 r e Q k => by
    subst e
    exact ⟨z, q, S, ws, rfl, r.dr, nq, gs, st.go nq r, fun v' H' r' f => k v' H' r' f⟩
theorem ev_cellsK {z : Zn} {σ : L2.St} {H : Hp} {ta tb : TE} {E : XK} {l : List Tri} {q : Addr} {S : Sto} {ws : List V} (ha : ∀ H1, z.R H H1 → Ev z ta σ H1 (Dd z (paD l))) (hb : Ev z tb σ H (Is (.ref q))) (nq : z.I q = none) (hl : DrawOk 6 l) (st : Stored z H q S ws) (has : ∀ c ∈ each l, Has S c) :
    Ev z (tCallN 0 2 spCells (fun _ ws => ws.reverse) E tNil (tCons tb (tCons ta tNil))) σ H (Dd z (tuD ((each l).map (cVal S)))) :=
  ev_callN (Φ := fun vs _ => vs = []) (Ψ := fun us H' => ∃ v, us = [.ref q, v] ∧ DU z.U H' v (paD l)) ea_nil (fun vs H1 r _ => (ea_cons (φ := Is (.ref q)) (hb.up r) fun v H2 r2 _ => ea_cons (ha H2 (r.tr r2)) fun v H2 r2 _ => ea_nil).imp fun us H' _ ⟨v, rr, e, ev, v2, rr2, e2, hv, e3⟩ => ⟨v2, by rw [e, e2, e3, show v = _ from ev], hv⟩)
    fun vs zs H1 r e0 ⟨v, e1, hv⟩ => by
      subst e0
      subst e1
      have h36 := draw_le hl
      have h6 := hl.2.1
      exact ⟨rfl, rfl, fun Q k => ⟨z, _, r.dr, ⟨v, q, l, S, ws, rfl, hv, hl.1, by omega, by omega, nq, st.go nq r, has, rfl⟩, fun v' H' r' g => k v' H' r' g⟩⟩
theorem due_eqv (S : Sto) (l : List Tri) : PyData.eqv (dueD S l) (dueD S l) = true := by
  unfold dueD
  split
  · simp [PyData.eqv, PyData.eqvAll]
  · have h := eqv_tu ((each l).map (cVal S))
    simp [PyData.eqv, PyData.eqvAll, h]
theorem due_nd (S : Sto) (l : List Tri) : (dueD S l).hasDict = false := by
  unfold dueD
  split
  · simp [PyData.hasDict, PyData.hasDictAll]
  · have h := nd_tu ((each l).map (cVal S))
    simp [PyData.hasDict, PyData.hasDictAll, h]
theorem due_sh (S : Sto) (l : List Tri) : SeqAt.shaped (dueD S l) = true := by
  unfold dueD
  split
  · simp [SeqAt.shaped, PyData.canLay0, PyData.canLayAll0, PyData.depth, PyData.depthAll]
    exact ⟨by decide +kernel, so_int _⟩
  · have h := lay_int ((each l).map (cVal S))
    have h2 := depth_int ((each l).map (cVal S))
    unfold SeqAt.shaped
    rw [Bool.and_eq_true]
    refine ⟨by simp only [PyData.canLay0, PyData.canLayAll0, tuD, h, Bool.and_true]; decide +kernel, decide_eq_true ?_⟩
    simp only [PyData.depth, PyData.depthAll, tuD]
    omega
theorem kv_self {U : Addr → Prop} {H : Hp} : ∀ {S : Sto} {ws : List V}, DUA U H ws (S.map fun t => tuD t.2) → ∀ p ∈ kvZ S ws, ∃ r, p.2 = .ref r
  | [], _, .nil, p, hp => by cases hp
  | t :: S, w :: ws, .cons h r, p, hp => by
    have hp' : p ∈ ((.inl t.1 : Key), w) :: kvZ S ws := hp
    rcases List.mem_cons.mp hp' with e | hp'
    · obtain ⟨r, er, _⟩ := tu_at h
      rw [e]
      exact ⟨r, er⟩
    · exact kv_self r p hp'
theorem eqv_il (l : List Int) : PyData.eqv (.list (l.map PyData.int)) (.list (l.map PyData.int)) = true := by
  simp only [PyData.eqv]
  exact eqvAll_int l
theorem shaped_il (l : List Int) : SeqAt.shaped (.list (l.map PyData.int)) = true := by
  unfold SeqAt.shaped
  rw [Bool.and_eq_true]
  refine ⟨by simp only [PyData.canLay0]; exact lay_int l, decide_eq_true ?_⟩
  simp only [PyData.depth]
  have := depth_int l
  omega
theorem nd_il (l : List Int) : (PyData.list (l.map PyData.int)).hasDict = false := by
  simp only [PyData.hasDict]
  exact dict_int l
-- slots of _law_right: 0 _law_lot, 1 _law_store_here, 2 _law_kept, 3 _law_due_here, 4 _law_mate, 5 _law_spots
theorem ok_right (T : Tx P K mg rs cs) (d__law_right : Df K mg "_law_right" s__law_right ["_law_lot", "_law_store_here"]) (d__law_due : Df K mg "_law_due" s__law_due ["_law_lot", "_law_store_here"]) (d__law_asked : Df K mg "_law_asked" s__law_asked ["_law_lot", "_law_store_here"]) (d__law_turns : Df K mg "_law_turns" s__law_turns ["_law_store_here"]) (d_cells : Df K mg "cells" s_cells ["parts", "pieces"])
    (kb_cells : KBn K d_cells.fd ["parts", "pieces"] 0 ["pieces", "parts"] (fun _ ws => ws.reverse) (fun _ ws => ws.reverse))
    (G__law_due : FnG P w K mg base CX0 1 d__law_due.f d__law_due.fd ["_law_lot", "_law_store_here"] spDue) (G__law_asked : FnG P w K mg base CX0 5 d__law_asked.f d__law_asked.fd ["_law_lot", "_law_store_here"] spDue) (G__law_turns : FnOk P w K mg base CX0 1 d__law_turns.f d__law_turns.fd ["_law_store_here"] spTurns) (G_cells : FnOk P w K mg base CX0 4 d_cells.f d_cells.fd ["parts", "pieces"] spCells) :
    FnG P w K mg base CX0 6 d__law_right.f d__law_right.fd ["_law_lot", "_law_store_here"] spRight := by
  refine fng_ok d__law_right.F sc__law_right (fun vs H Q E ⟨_, _, _, _, ⟨_, _, _, e, _⟩, _⟩ => by rw [e]; rfl) (fun cdv A outer s H vs Q E hg hr h => ?_)
  obtain ⟨z, l, S, hz, ⟨v, qd, ws, rfl, hv, hl, nq, gs, st⟩, q⟩ := h
  refine ⟨_, (pss_cons (ps_par (i := 2) (j := 3) (by rfl) sc__law_right.nd rfl rfl (by decide) rfl rfl (pa_cons (pe_callTy call_dictD (by rfl) T.dict (by decide +kernel) (pa_cons (pv 1) pa_nil)) (pa_cons (pe_g G__law_due hg (hr.mono (by decide)) (by rfl) d__law_due.g d__law_due.F.kp d__law_due.b .nil pass0 (pa_cons (pv 0) (pa_cons (pv 1) pa_nil))) pa_nil)) (by rfl))
    (pss_cons (ps_if (PW.pt (pw_or (pt_cmpR (k_neD (K := K) hr.units) (pe_g G__law_asked hg (hr.mono (by decide)) (by rfl) d__law_asked.g d__law_asked.F.kp d__law_asked.b .nil pass0 (pa_cons (pv 0) (pa_cons (pv 1) pa_nil))) (pv 3) (nomark _)) (pw_or1 (pt_cmpR (op_neDS (hu64 hr.units)) (pv 1) (pv 2) (nomark _)))))
    (pss_one (ps_ret pe_bl))
    pss_nil)
    (pss_cons (ps_for PassesOwn.never rfl (k_pil (K := K) (pi_list (pe_call G__law_turns (hr.mono (by decide)) (by rfl) d__law_turns.g d__law_turns.F.kp d__law_turns.b .nil pass0 (pa_cons (pv 1) pa_nil)))) (pg_name (i := 4) sc__law_right.nd rfl (Or.inl rfl))
    (pss_cons (ps_set (i := 5) sc__law_right.nd rfl (.inl rfl) (pe_callTy (call_list_dK rfl) (by rfl) T.list (by decide +kernel) (pa_cons (pv 4) pa_nil)))
    (pss_one (ps_if (PW.pt (pw_or (pt_cmpR (k_neD (K := K) hr.units) (pe_g G__law_asked hg (hr.mono (by decide)) (by rfl) d__law_asked.g d__law_asked.F.kp d__law_asked.b .nil pass0 (pa_cons (pv 0) (pa_cons (pv 4) pa_nil))) (pv 3) (nomark _)) (pw_or (pt_cmpR (op_neDS (hu64 hr.units)) (pv 4) (pv 2) (nomark _)) (pw_or1 (pt_cmpR (k_neD (K := K) hr.units) (pe_callTy (call_list_dK rfl) (by rfl) T.list (by decide +kernel) (pa_cons (pv 4) pa_nil)) (pv 5) (nomark _))))))
    (pss_one (ps_ret pe_bl))
    pss_nil))))
    (pss_one (ps_ret (pe_or (pe_cmpR op_ne (pe_ix (k_ixt (K := K)) (pv 3) pe_int (fun _ _ => rfl)) pe_str (nomark _)) (pe_one (pe_and (pe_callB (k_isi (K := K)) (by rfl) T.isinstance (by decide +kernel) (pa_cons (pe_call G_cells (hr.mono (by decide)) (by rfl) d_cells.g d_cells.F.kp d_cells.b .nil pass0 (pa_cons (pv 0) (pa_cons (pv 1) pa_nil))) (pa_cons (pe_bltn (v := .ty "tuple") (by rfl) T.tuple (by decide +kernel) rfl) pa_nil))) (pe_one (pe_cmpR (k_eqD (K := K) hr.units) (pe_kw0 G_cells (hr.mono (by decide)) (by rfl) d_cells.g d_cells.F.kp kb_cells pass0 (pk_cons (pv 1) (pk_cons (pv 0) pk_nil))) (pe_ix (k_ixt (K := K)) (pv 3) pe_int (fun _ _ => rfl)) (nomark _))))))))))), ?_⟩
  refine q_par (z := z) (Φ := fun a b H' => Dic z (kvZ S ws) a H' ∧ DU z.U H' b (dueD S l)) hz ((ea_cons (φ := Dic z (kvZ S ws)) (ev_dictD nq st.at_ (ev_is rfl)) fun _ H1 r1 _ => ea_cons (φ := Dd z (dueD S l)) (ev_due (ev_var rfl fun H' w => (hv.w r1.w).w w) (fun H2 r2 => ev_is rfl) nq hl gs (st.go nq r1)) fun _ H2 r2 _ => ea_nil).imp ?_) fun vk vd H1 r1 f1 => ?_
  · rintro vs H' _ ⟨a, r, rfl, ha, b, r', rfl, hb, rfl⟩
    exact ⟨a, b, rfl, ha, hb⟩
  obtain ⟨⟨k, rfl, nk, hk⟩, hd⟩ := f1 H1 .refl
  have st1 := st.go nq r1
  have hv1 := hv.w r1.w
  have ik : z.I k = none := Zn.inone nk
  have self : ∀ p ∈ kvZ S ws, valV (kvZ S ws) p.1 = some p.2 ∧ ∃ r, p.2 = .ref r := fun p hp => ⟨valV_of (kv_nd st.len gs.nd) hp, kv_self st.da p hp⟩
  refine q_if (z := z) (b := false) r1.dr (et_to (et_or (a := false) (b := false) (et_test (ev_to (ev_neD (d := dueD S l) (e := dueD S l) (ev_due (ev_var rfl fun H' w => hv1.w w) (fun H2 r2 => ev_is rfl) nq hl gs st1) (fun H2 r2 => ev_var rfl fun H' w => (hd.w r2.w).w w) (due_nd S l) (due_nd S l) (due_sh S l) (due_sh S l)) (by rw [due_eqv]; rfl))) fun _ => et_test (ev_neDS nq ik st1.at_ hk (ev_is rfl) (fun H2 r2 => ev_is rfl) rfl self)) rfl) (fun hb => by cases hb) fun _ H2 r2 => ?_
  have st2 := st1.go nq r2
  refine q_forLP (z := z) (Φ := fun us H3 => ∃ a b Ta wa Tb wb, us = [.ref a, .ref b] ∧ Turn z H3 S ws a Ta wa ∧ Turn z H3 S ws b Tb wb) r2.dr (ev_turns (ev_is rfl) nq gs st2) fun us H3 r3 hT => ?_
  have r23 := r2.tr r3
  refine ⟨fun _ σ' H' => z.R H3 H' ∧ ∃ o4 o5, σ' = [some v, some (.ref qd), some (.ref k), some vd, o4, o5], ⟨r3.dr, none, none, rfl⟩, fun _ _ _ hP => hP.1.w, fun i x σ' H5 hx hP => ?_, fun σ' H5 hP => ?_⟩
  · obtain ⟨r5, o4, o5, rfl⟩ := hP
    have one : ∃ a Ta wa, x = .ref a ∧ Turn z H3 S ws a Ta wa := by
      obtain ⟨a, b, Ta, wa, Tb, wb, rfl, ta, tb⟩ := hT
      match i, hx with
      | 0, hx => cases hx; exact ⟨a, _, _, rfl, ta⟩
      | 1, hx => cases hx; exact ⟨b, _, _, rfl, tb⟩
    obtain ⟨m, Tm, wm, rfl, tm⟩ := one
    have im : z.I m = none := Zn.inone tm.nu
    have sm := tm.st.go im r5
    have r25 := r23.tr r5
    have hks : ((kvZ Tm wm).map fun kv => kV kv.1) = (keysS Tm).map V.int := by
      rw [kvz_keys tm.st.len]
      unfold keysS
      rw [List.map_map]
      rfl
    refine q_set (z := z) (φ := Dd z (.list ((keysS Tm).map PyData.int))) r5.dr (il_d ((ev_listK (z := z) im sm.at_ (ev_is rfl)).imp fun v H' _ ⟨p, us, e, nu, hp, eu⟩ => ⟨p, us, e, nu, hp, eu.trans hks⟩)) fun vs H6 r6 f6 => ?_
    have sm6 := sm.go im r6
    have r26 := r25.tr r6
    have hk6 : H6 k = some (.dK (kvZ S ws)) := r26.kp k _ ik hk
    refine s_if0 (z := z) (b := false) r6.dr (et_to (et_or (a := false) (b := false) (et_test (ev_to (ev_neD (d := dueD S l) (e := dueD S l) ?_ (fun H7 r7 => ev_var rfl fun H' w => (hd.w (r26.tr r7).w).w w) (due_nd S l) (due_nd S l) (due_sh S l) (due_sh S l)) (by rw [due_eqv]; rfl))) fun _ => et_or (a := false) (b := false) (et_test (ev_neDS im ik sm6.at_ hk6 (ev_is rfl) (fun H7 r7 => ev_is rfl) ?_ tm.sub)) fun _ => et_test (ev_to (ev_neD (d := .list ((keysS Tm).map PyData.int)) (e := .list ((keysS Tm).map PyData.int)) (il_d ((ev_listK (z := z) im sm6.at_ (ev_is rfl)).imp fun v H' _ ⟨p, us, e, nu, hp, eu⟩ => ⟨p, us, e, nu, hp, eu.trans hks⟩)) (fun H7 r7 => ev_var rfl fun H' w => f6 H' (r7.w.tr w)) (nd_il _) (nd_il _) (shaped_il _) (shaped_il _)) (by rw [eqv_il]; rfl))) rfl) (fun hb => by cases hb) fun _ H7 r7 => ⟨r5.tr (r6.tr r7), _, _, rfl⟩
    · have h := ev_due (E := E0) (z := z) (l := l) (ta := tVar 0) (tb := tVar 4) (σ := [some v, some (.ref qd), some (.ref k), some vd, some (.ref m), some vs]) (ev_var rfl fun H' w => (hv1.w r26.w).w w) (fun H7 r7 => ev_is rfl) im hl tm.good sm6
      rw [due_same tm.same] at h
      exact h
    · rw [kv_len tm.st.len, kv_len st.len, tm.same.1]
  · obtain ⟨r5, o4, o5, rfl⟩ := hP
    have r25 := r23.tr r5
    have hd5 := hd.w r25.w
    have hv5 := hv1.w r25.w
    have st5 := st1.go nq r25
    have h36 := draw_le hl
    have h6 := hl.2.1
    refine s_ret (z := z) (φ := Is (.bl true)) r5.dr ?_ fun v' H6 r6 f6 => ?_
    · cases hf : firstLack S l with
      | some j =>
        rw [due_piece hf] at hd5
        exact ev_to (ev_or (a := true) (b := true) (ev_to (ev_ne (x := .str "piece") ((ev_ixDT (j := 0) (d := .str "piece") (ev_var rfl fun H' w => hd5.w w) (fun H7 r7 => ev_k) rfl).imp fun v H' _ f => DU.strAt f) ev_k rfl) rfl) fun h => by cases h) rfl
      | none =>
        rw [due_told hf] at hd5
        have has := lack_has hl.1 (lack_none hf)
        refine ev_to (ev_or (a := false) (b := true) (ev_to (ev_ne (x := .str "told") ((ev_ixDT (j := 0) (d := .str "told") (ev_var rfl fun H' w => hd5.w w) (fun H7 r7 => ev_k) rfl).imp fun v H' _ f => DU.strAt f) ev_k rfl) rfl) fun _ => ev_to (ev_and (a := true) (b := true) (ev_isi (d := tuD ((each l).map (cVal S))) (ev_cells (ev_var rfl fun H' w => hv5.w w) (fun H7 r7 => ev_is rfl) nq st5 hl.1 (by omega) (by omega) has rfl) (kit_tup _)) fun _ => ev_eqTu (ev_cellsK (fun H7 r7 => ev_var rfl fun H' w => (hv5.w r7.w).w w) (ev_is rfl) nq hl st5 has) fun H7 r7 => ev_ixDT (j := 1) (ev_var rfl fun H' w => (hd5.w r7.w).w w) (fun H8 r8 => ev_k) rfl) rfl) rfl
    · have e := f6 H6 .refl
      subst e
      exact q H6 (r1.tr (r25.tr r6))

end
end K09

set_option Elab.async false
set_option linter.all false
set_option maxRecDepth 100000
set_option maxHeartbeats 4000000
namespace K09
open PySem PySem.Spec PyProof.Rows L2 FB RZ
section
variable {P : Program} {w : World} {K : PySem.W.Frag} {mg : Str → Option Value} {base : Heap} {rs : Rs} {cs : Cs}
/-- a dict being built -/
structure Dl (z : Zn) (p : Addr) (H H' : Hp) (S : Sto) : Prop where
  r : z.R H H'
  w : z.W H H'
  b : ∃ ws, H' p = some (.dK (kvZ S ws)) ∧ DUA (z.add p).U H' ws (S.map fun t => tuD t.2)
section
variable {z : Zn} {K : PySem.W.Frag} {σ : L2.St} {H H' H'' : Hp} {te ta tb to td ty tv tx : TE} {D : Ends} {ts tu : TS} {p d : Addr} {S : Sto} {φ : VP} {kvs : List (Key × V)} {j : Int}
theorem Dl.rz (b : Dl z p H H' S) : (z.add p).R H' H' := by
  obtain ⟨vs, hv, _⟩ := b.b
  exact b.r.dr.up (by rw [hv]; simp) (by rw [hv]; simp)
theorem Dl.go (b : Dl z p H H' S) (hn : H p = none) (hz : z.R H H) (r : (z.add p).R H' H'') : Dl z p H H'' S := by
  obtain ⟨vs, hv, hd⟩ := b.b
  exact ⟨b.r.tr r.dn, b.w.tr r.dn.w, vs, r.kp p _ (hz.ni hn) hv, hd.w r.w⟩
theorem Dl.du (b : Dl z p H H' S) (hn : H p = none) {v : V} {d : PyData} (h : DU z.U H v d) : DU (z.add p).U H' v d := h.add hn b.w
theorem Dl.sto (b : Dl z p H H' S) : ∃ ws, Stored z H' p S ws := by
  obtain ⟨ws, hv, hd⟩ := b.b
  exact ⟨ws, hv, hd.go fun a o n e => ⟨fun u => n (Or.inl u), e⟩⟩
theorem Dl.stp (b : Dl z p H H' S) : ∃ ws, Stored (z.add p) H' p S ws := by
  obtain ⟨ws, hv, hd⟩ := b.b
  exact ⟨ws, hv, hd⟩
/-- d = {} -/
theorem q_newK {i : Nat} (hz : z.R H H) (k : ∀ p, H p = none → Dl z p H (upd H p (.dK [])) [] → tu D (σ.set i (some (.ref p))) (upd H p (.dK []))) : tSeq (tAsg tDNewK (gName i)) tu D σ H := fun p hp => k p hp ⟨hz.new hp, (hz.new hp).w, [], upd_same, .nil⟩
/-- d = dict(e) -/
theorem q_copyK {i : Nat} {ws : List V} (hz : z.R H H) (nd : z.I d = none) (st : Stored z H d S ws) (h : Ev z te σ H (Is (.ref d))) (k : ∀ p H1, H p = none → Dl z p H H1 S → tu D (σ.set i (some (.ref p))) H1) : tSeq (tAsg (tCB (fun xs H Q => ∃ a kvs, xs = [V.ref a] ∧ Rd H a (.dK kvs) ∧ ∀ p, H p = none → Q (.ref p) (upd H p (.dK kvs))) (tCons te tNil)) (gName i)) tu D σ H :=
  h H hz _ fun x H2 e2 f => by
    have hx : x = .ref d := f H2 .refl
    subst hx
    have st2 := st.go nd e2
    refine ⟨d, _, rfl, .inl st2.at_, fun p hp => k p _ (e2.back hp) ⟨e2.tr (e2.dr.new hp), (e2.tr (e2.dr.new hp)).w, ws, upd_same, ?_⟩⟩
    refine st2.da.go fun a o n e => ?_
    have ne : a ≠ p := fun ea => by
      rw [ea, hp] at e
      cases e
    refine ⟨fun u => u.elim n fun ea => ne ea, ?_⟩
    rw [upd_ne ne]
    exact e
theorem Dl.mut {ws : List V} {T : Sto} (b : Dl z p H H' S) (hn : H p = none) (hd : DUA (z.add p).U H' ws (T.map fun t => tuD t.2)) : Dl z p H (upd H' p (.dK (kvZ T ws))) T := by
  have wu : (z.add p).W H' (upd H' p (.dK (kvZ T ws))) := fun a o na ha => by
    rw [upd_ne fun ea => na (Or.inr ea)]
    exact ha
  exact ⟨b.r.mut hn, (b.r.mut hn).w, ws, upd_same, hd.w wu⟩
/-- d[j] = e -/
theorem dl_put (b : Dl z p H H' S) (hn : H p = none) (hz : z.R H H) (hv : Ev (z.add p) tv σ H' (fun v H1 => ∃ ns : List Int, ns.length ≤ 200 ∧ DU (z.add p).U H1 v (tuD ns))) (ho : ∀ H1, (z.add p).R H' H1 → Ev (z.add p) td σ H1 (Is (.ref p))) (hi : ∀ H1, (z.add p).R H' H1 → Ev (z.add p) ty σ H1 (Is (.int j))) (hl : S.length ≤ 1000)
    (k : ∀ (ns : List Int) H'', ns.length ≤ 200 → Dl z p H H'' (putS S j ns) → D.nx σ H'') : sDPut td ty tv D σ H' :=
  hv H' b.rz _ fun v H1 r1 f1 => ho H1 r1 H1 r1.dr _ fun x H2 r2 f2 => hi H2 (r1.tr r2) H2 r2.dr _ fun y H3 r3 f3 => by
    have hx : x = .ref p := f2 H2 .refl
    have hy : y = .int j := f3 H3 .refl
    subst hy
    have b3 := b.go hn hz ((r1.tr r2).tr r3)
    obtain ⟨ns, hns, dv⟩ := f1 H3 (r2.tr r3).w
    obtain ⟨ws, hp, hd⟩ := b3.b
    obtain ⟨ws', e, hd'⟩ := kv_put (j := j) hd dv
    have hlen : ws.length = S.length := by
      have := hd.len
      rwa [List.length_map] at this
    refine ⟨p, _, hx, DPut.k (k := (.inl j : Key)) hp (Nat.lt_of_le_of_lt (show (kvZ S ws).length ≤ 1000 by rw [kv_len hlen]; exact hl) (by decide)), ?_⟩
    rw [e]
    exact k ns _ hns (b3.mut hn hd')
/-- d.pop(j, None) -/
theorem dl_pop (b : Dl z p H H' S) (hn : H p = none) (hz : z.R H H) (ho : Ev (z.add p) td σ H' (Is (.ref p))) (hi : ∀ H1, (z.add p).R H' H1 → Ev (z.add p) ty σ H1 (Is (.int j))) (hx : ∀ H1, (z.add p).R H' H1 → Ev (z.add p) tx σ H1 φ)
    (k : ∀ H'' T, T = S ∨ T = dropS S j → Dl z p H H'' T → D.nx σ H'') : tDrop (tDPop2 td ty tx) D σ H' := by
  obtain ⟨ws, hp, hd⟩ := b.b
  refine s_dpop (z := z.add p) b.rz ho hi hx (hz.ni hn) hp fun H3 r3 h3 => ?_
  have b3 := b.go hn hz r3
  refine ⟨?_, fun _ => k H3 S (.inl rfl) b3⟩
  obtain ⟨ws', e, hd'⟩ := kv_drop (j := j) (hd.w r3.w)
  rw [e]
  exact k _ _ (.inr rfl) (b3.mut hn hd')
/-- range(a, b), a ≤ b -/
theorem q_forR2 {i n : Nat} {a : Int} {tn : TA} (hR : z.R H H) (h : EvA z tn σ H (fun vs _ => vs = [.int a, .int (a + n)])) (ha : -1000 ≤ a ∧ a ≤ 1000) (hn : n ≤ 1000000) (Pv : Nat → L2.St → Hp → Prop) (h0 : ∀ H1, z.R H H1 → Pv 0 σ H1)
    (hs : ∀ (k : Nat) σ' H', k < n → Pv k σ' H' → ts { D with nx := Pv (k + 1), ct := Pv (k + 1), bk := tu D } (σ'.set i (some (.int (a + k)))) H') (hd : ∀ σ' H', Pv n σ' H' → tu D σ' H') : tSeq (tFor (iRng2 tn) (gName i) ts) tu D σ H :=
  h H hR _ fun vs H1 e f => ⟨a, a + n, f H1 .refl, by omega, by
    have en : (a + (n : Int) - a).toNat = n := by omega
    rw [en]
    exact for_range (D := { D with nx := tu D }) (lo := a) (n := n) Pv (h0 H1 e) (fun k σ' H' hk q => hs k σ' H' hk q) hd⟩
/-- [elt for x in source if test], the target of any form -/
theorem ev_lcIfG {wi : TI} {g : TG} {tt : TT} {P : Nat → Prop} {vs : List Nat} {it : Nat → V → Prop} {χ : V → Prop} (hs : EvI z wi σ H P it) (hn : ∀ n, P n → n ≤ 100000)
    (hb : ∀ n i x D H1, P n → i < n → it i x → H D = none → z.R H H1 → (z.add D).R H1 H1 → ∃ σ2 b, (∀ k : L2.St → Hp → Prop, k σ2 H1 → g x (wipe σ vs) H1 k) ∧ wipe σ2 vs = wipe σ vs ∧ EvT (z.add D) tt σ2 H1 (· = b) ∧ ∀ H2, (z.add D).R H1 H2 → Ev (z.add D) te σ2 H2 (fun v _ => χ v)) :
    Ev z (tLc wi g tt te vs) σ H (Lst z fun ws _ => (∃ n, P n ∧ ws.length ≤ n) ∧ ∀ w ∈ ws, χ w) := fun H1 e Q q => by
  refine hs H1 e _ fun J H2 n hP e2 S D hD => ?_
  have hn2 := hn n hP
  have hD0 : H D = none := (e.tr e2).back hD
  have nU : ¬ z.U D := e2.dr.nu hD
  have nI : z.I D = none := e2.dr.ni hD
  refine ⟨fun i m H' => i + m = n ∧ z.R H2 H' ∧ ∃ acc : List V, H' D = some (.lst acc) ∧ acc.length ≤ i ∧ ∀ w ∈ acc, χ w,
    ⟨n, by omega, e2.dr.new hD, [], upd_same, Nat.le_refl _, fun w h => by cases h⟩, fun i m H' hW => ?_⟩
  obtain ⟨em, r, acc, hacc, hl, hφ⟩ := hW
  have w2 : z.W H2 H' := r.w
  by_cases hi : i < n
  · right
    refine ⟨S.go i H' w2 hi, fun H'' => z.R H2 H'' ∧ ∃ acc : List V, H'' D = some (.lst acc) ∧ acc.length ≤ i + 1 ∧ ∀ w ∈ acc, χ w,
      fun H'' h => ⟨m - 1, by omega, by omega, h⟩, fun x H'' hy => ?_⟩
    obtain ⟨rfl, hx⟩ := S.yld i H' x H'' w2 hi hy
    have rD : (z.add D).R H'' H'' := r.dr.up (by rw [hacc]; simp) (by rw [hacc]; simp)
    obtain ⟨σ2, b, hg, hw, ht, hev⟩ := hb n i x D H'' hP hi hx hD0 ((e.tr e2).tr r) rD
    refine hg _ ⟨hw, ht H'' rD _ fun c H3 e3 hc => ?_⟩
    have h3D : H3 D = some (.lst acc) := e3.kp D _ nI hacc
    by_cases hbi : c = true
    · rw [if_pos hbi]
      refine hev H3 e3 H3 e3.dr _ fun y H4 e4 fy => ?_
      have h4D : H4 D = some (.lst acc) := e4.kp D _ nI h3D
      refine ⟨acc, h4D, Nat.lt_of_le_of_lt (show acc.length ≤ 100000 by omega) (by decide), ((r.tr e3.dn).tr e4.dn).mut hD, acc ++ [y], upd_same, by rw [List.length_append]; exact Nat.succ_le_succ hl, fun w hw => ?_⟩
      rcases List.mem_append.mp hw with hw | hw
      · exact hφ w hw
      · rw [List.mem_singleton.mp hw]
        exact fy H4 .refl
    · rw [if_neg hbi]
      exact ⟨r.tr e3.dn, acc, h3D, Nat.le_succ_of_le hl, hφ⟩
  · left
    have ei : i = n := by omega
    subst ei
    exact ⟨S.stop H' w2, q _ H' (e2.tr r) fun H3 w3 => ⟨D, acc, rfl, nU, w3 D _ nU hacc, ⟨i, hP, hl⟩, hφ⟩⟩
/-- tuple(ints), how many and which is not asked -/
theorem ev_tupE {N : Nat} (h : Ev z te σ H (Lst z fun ws _ => ws.length ≤ N ∧ ∀ w ∈ ws, ∃ i : Int, w = .int i)) : Ev z (tCB (fun xs H Q => ∃ p ys, xs = [.ref p] ∧ ((SqL K H p ys ∧ ∀ l, H l = none → Q (.ref l) (upd H l (.tup ys))) ∨ (SqT K H p ys ∧ Q (.ref p) H))) (tCons te tNil)) σ H (fun v H' => ∃ ns : List Int, ns.length ≤ N ∧ DU z.U H' v (tuD ns)) :=
  (ev_tupleL h).imp fun v H' _ ⟨p, ws, e, nu, hp, hl, hw⟩ => by
    have iall : ∀ {ws : List V}, (∀ w ∈ ws, ∃ i : Int, w = .int i) → ∃ ns : List Int, ws = ns.map V.int := fun {ws} => by
      induction ws with
      | nil => exact fun _ => ⟨[], rfl⟩
      | cons w r ih =>
        intro h
        obtain ⟨i, rfl⟩ := h w List.mem_cons_self
        obtain ⟨ns, rfl⟩ := ih fun x hx => h x (List.mem_cons_of_mem _ hx)
        exact ⟨i :: ns, rfl⟩
    obtain ⟨ns, rfl⟩ := iall hw
    rw [List.length_map] at hl
    refine ⟨ns, hl, ?_⟩
    rw [e]
    exact .tup nu hp (ints_dua ns)
end

end
end K09

set_option Elab.async false
set_option linter.all false
set_option maxRecDepth 100000
set_option maxHeartbeats 4000000
namespace K09
open PySem PySem.Spec PyProof.Rows L2 FB RZ
section
variable {P : Program} {w : World} {K : PySem.W.Frag} {mg : Str → Option Value} {base : Heap} {rs : Rs} {cs : Cs}
theorem cut_int9 (ns : List Int) (lo hi : Option Int) : ∃ ms : List Int, cutV (ns.map V.int) lo hi = ms.map V.int ∧ ms.length ≤ ns.length := by
  unfold cutV
  refine ⟨(ns.drop (HT.sIx (ns.map V.int).length 0 lo)).take (HT.sIx (ns.map V.int).length (ns.map V.int).length hi - HT.sIx (ns.map V.int).length 0 lo), by rw [List.map_take, List.map_drop], ?_⟩
  rw [List.length_take, List.length_drop]
  omega
section
variable {z : Zn} {K : PySem.W.Frag} {σ : L2.St} {H H' : Hp} {te ta tb tc th : TE}
theorem ev_slAny {ns : List Int} {n : Nat} (h : Ev z te σ H (Dd z (tuD ns))) (h2 : ∀ H1, z.R H H1 → Ev z th σ H1 (Nn n)) : Ev z (L2.tSl (rSlA K) te tNoPart (tPart th)) σ H (fun v H' => ∃ ms : List Int, ms.length ≤ ns.length ∧ DU z.U H' v (tuD ms)) := fun H1 e Q q =>
  h H1 e _ fun v H2 e2 f => h2 H2 (e.tr e2) H2 e2.dr _ fun y H3 e3 g => by
    obtain ⟨k, ey, hk⟩ := g H3 .refl
    refine ⟨(k : Int), ey, ?_⟩
    obtain ⟨a, rfl, nu, ha⟩ := tu_at (f H3 e3.w)
    obtain ⟨ms, em, hl⟩ := cut_int9 ns none (some (k : Int))
    refine ⟨a, ns.map V.int, rfl, .inl (.inl ha), fun hc => ?_, fun _ p' hp' => ?_⟩
    · exact q _ H3 (e2.tr e3) fun H4 w => ⟨ns, Nat.le_refl _, .tup nu (w a _ nu ha) (ints_dua _)⟩
    · exact q _ _ ((e2.tr e3).tr (e3.dr.new hp')) fun H4 w => ⟨ms, hl, .tup (e3.dr.nu hp') (w p' _ (e3.dr.nu hp') upd_same) (by
        show DUA z.U H4 (cutV (ns.map V.int) none (some (k : Int))) (ms.map PyData.int)
        rw [em]
        exact ints_dua _)⟩
theorem ev_slM1 {ns : List Int} (h : Ev z te σ H (Dd z (tuD ns))) : Ev z (L2.tSl (rSlA K) te tNoPart (tPart (tUn (rU fun i => .int (-i)) (tC (.int 1))))) σ H (fun v H' => ∃ ms : List Int, ms.length ≤ ns.length ∧ DU z.U H' v (tuD ms)) := by
  obtain ⟨ms, em, hl⟩ := cut_int9 ns none (some (-1))
  exact (ev_slT (ev_tupTu h) eo_none (eo_some ev_neg1)).imp fun v H' _ ⟨p, ws, e, nu, hp, ew⟩ => ⟨ms, hl, by rw [e]; exact .tup nu hp (by rw [ew, em]; exact ints_dua _)⟩
theorem ev_pieceOf {l : List Tri} (ha : Ev z ta σ H (Dd z (paD l))) (hb : ∀ H1, z.R H H1 → Ev z tb σ H1 (Nn l.length)) : Ev z (tOp (rIxT K) (tOp (rIxT K) ta tb) (tC (.int 0))) σ H (fun v _ => ∃ j : Int, v = .int j) :=
  ev_op (φ := fun v H' => ∃ t, DU z.U H' v (trD t)) (ψ := Is (.int 0)) (ev_op ha (fun _ H1 r _ => hb H1 r) fun x y H1 r fx ⟨i, ey, hi⟩ Q q => by
    obtain ⟨a, vs, ex, nu, ha, hds⟩ := DU.tupAt fx
    have hlen := hds.len
    rw [List.length_map] at hlen
    have hj : i < vs.length := by omega
    obtain ⟨d', hd', dv⟩ := hds.at (List.getElem?_eq_getElem hj)
    rw [List.getElem?_map] at hd'
    obtain ⟨t, ht, rfl⟩ := Option.map_eq_some_iff.mp hd'
    exact ⟨a, vs, i, _, ex, ey, .inl (.inl ha), atI_nat (List.getElem?_eq_getElem hj), q _ H1 r.dr fun H2 w => ⟨t, dv.w w⟩⟩) (fun _ _ _ _ => ev_k) fun x y H1 r ⟨t, fx⟩ fy Q q => by
    obtain ⟨a, ex, nu, ha⟩ := tr_at fx
    exact ⟨a, _, 0, .int t.1, ex, fy, .inl (.inl ha), atI_nat rfl, q _ H1 r.dr fun _ _ => ⟨t.1, rfl⟩⟩
/-- {k: e} -/
theorem ed_dictS {k : Int} {d : PyData} (h : ∀ (z' : Zn) H1, z.R H H1 → z'.R H1 H1 → (∀ a o, ¬ z.U a → H a = some o → ¬ z'.U a) → Ev z' te σ H1 (Dd z' d)) : Ev z (tDisp [(tC (.int k), te)]) σ H (fun v H' => ∃ q u, v = .ref q ∧ ¬ z.U q ∧ H' q = some (.dK [((.inl k : Key), u)]) ∧ DU z.U H' u d) := fun H1 e Q q => fun p hp => by
  have rn : z.R H1 (upd H1 p (.dK [])) := e.dr.new hp
  have rz : (z.add p).R (upd H1 p (.dK [])) (upd H1 p (.dK [])) := rn.dr.up (by rw [upd_same]; simp) (by rw [upd_same]; simp)
  have nu := e.dr.nu hp
  have hpH : H p = none := e.back hp
  refine h (z.add p) _ (e.tr rn) rz (fun a o n ha u => u.elim n fun ea => ?_) _ rz _ fun v H3 r3 f => ?_
  · have ea' : a = p := ea
    rw [ea', hpH] at ha
    cases ha
  have ni : (z.add p).I p = none := e.dr.ni hp
  refine ⟨r3.kp p _ ni upd_same, [(.inl k, v)], rfl, (show 1 ≤ 15 by decide), q _ _ ((rn.tr r3.dn).mut hp) fun H6 w => ⟨p, v, rfl, nu, w p _ nu upd_same, ?_⟩⟩
  have w1 : (z.add p).W H3 (upd H3 p (.dK [(.inl k, v)])) := fun a o n e => by
    rw [upd_ne (fun q => n (Or.inr q))]
    exact e
  exact DU.sub (f _ (w1.tr w.dn))
/-- cells(parts, a store just made) -/
theorem ev_cellsN {E : XK} {l : List Tri} {S : Sto} (ha : Ev z ta σ H (Dd z (paD l))) (hb : ∀ H1, z.R H H1 → Ev z tb σ H1 (fun v H' => ∃ q ws, v = .ref q ∧ ¬ z.U q ∧ Stored z H' q S ws)) (ho : okL l) (hl : l.length ≤ 2000) (hle : (each l).length ≤ 2000) (has : ∀ c ∈ each l, Has S c) :
    Ev z (tCall spCells [] E (tCons ta (tCons tb tNil))) σ H (Dd z (tuD ((each l).map (cVal S)))) :=
  ev_F (A := fun z H vs d => ∃ v q l T ws, vs = [v, .ref q] ∧ DU z.U H v (paD l) ∧ okL l ∧ l.length ≤ 2000 ∧ (each l).length ≤ 2000 ∧ z.I q = none ∧ Stored z H q T ws ∧ (∀ c ∈ each l, Has T c) ∧ d = tuD ((each l).map (cVal T)))
    (ea_cons ha fun v H1 r _ => ea_cons (hb H1 r) fun v H1 r _ => ea_nil) fun vs H1 r ⟨v, rr, e1, hv, v2, rr2, e2, ⟨q, ws, e3, nu, st⟩, er⟩ => ⟨v, q, l, S, ws, by rw [e1, e2, er, e3], hv, ho, hl, hle, Zn.inone nu, st, has, rfl⟩
end
-- slots of _law_store: 0 _law_purse_here, 1 _law_lot, 2 _law_store_here, 3 _law_piece, 4 _law_most, 5 _law_one, 6 _law_first, 7 _law_size, 8 _law_turn
theorem ok_store (T : Tx P K mg rs cs) (d__law_store : Df K mg "_law_store" s__law_store ["_law_purse_here", "_law_lot"]) (d__law_take : Df K mg "_law_take" s__law_take ["_law_purse_here", "_law_span"])
    (G__law_take : FnOk P w K mg base CX0 1 d__law_take.f d__law_take.fd ["_law_purse_here", "_law_span"] spTake) : FnOk P w K mg base CX0 2 d__law_store.f d__law_store.fd ["_law_purse_here", "_law_lot"] spStore := by
  refine d__law_store.F.ok sc__law_store (fun vs H Q E ⟨_, _, _, _, e, _⟩ => by rw [e]; rfl) (fun cdv A outer s H vs Q E hr h => ?_)
  obtain ⟨z, u, v, l, rfl, hz, hu, hv, hl, q⟩ := h
  refine ⟨_, (pss_cons (ps_set (i := 2) sc__law_store.nd rfl (.inl rfl) pe_dnewK)
    (pss_cons (ps_for PassesOwn.never rfl (pi_range2 (by rfl) T.range (pa_cons pe_int (pa_cons pe_int pa_nil))) (pg_name (i := 3) sc__law_store.nd rfl (Or.inr rfl))
    (pss_cons (ps_set (i := 4) sc__law_store.nd rfl (.inl rfl) (pe_op op_add (pe_callB (k_max (K := K)) (by rfl) T.max (by decide +kernel) (pa_cons (pe_op op_cat (pe_lc (own := [("_law_one", 5), ("_law_first", 6), ("_law_size", 7)]) (g := gTup K 3 (gCons (gName 5) (gCons (gName 6) (gCons (gName 7) gNil)))) rfl sc__law_store.nd  (k_pit (K := K) (pi_tup (pv 1))) (blkOk_by (own := [("_law_one", 5), ("_law_first", 6), ("_law_size", 7)]) (N := ["_law_purse_here", "_law_lot", "_law_store_here", "_law_piece", "_law_most", "_law_one", "_law_first", "_law_size", "_law_turn"]) (sc := defScope s__law_store) (by decide +kernel)) (fun _ _ _ _ _ => (k_pgt (K := K) (n := 3) (pgs_cons (pg_name (i := 5) sc__law_store.nd rfl (Or.inl rfl)) (pgs_cons (pg_name (i := 6) sc__law_store.nd rfl (Or.inl rfl)) (pgs_cons (pg_name (i := 7) sc__law_store.nd rfl (Or.inl rfl)) pgs_nil))))) (fun _ _ _ _ _ => (pts_one (pt_cmpR op_eq (pv 5) (pv 3) (nomark _)))) (fun _ _ _ _ _ => (pe_op op_add (pv 6) (pv 7)))) (pe_lst (pa_cons pe_int pa_nil))) pa_nil)) (pe_call G__law_take (hr.mono (by decide)) (by rfl) d__law_take.g d__law_take.F.kp d__law_take.b .nil pass0 (pa_cons (pv 0) (pa_cons pe_int pa_nil)))))
    (pss_one (ps_dput (lt1 hr.units) (pv 2) (pv 3) (pe_callTy (k_tuple (K := K)) (by rfl) T.tuple (by decide +kernel) (pa_cons (pe_lc (own := [("_law_turn", 8)]) (g := gName 8) rfl sc__law_store.nd  (pi_range1 (by rfl) T.range (pa_cons (pv 4) pa_nil)) (blkOk_by (own := [("_law_turn", 8)]) (N := ["_law_purse_here", "_law_lot", "_law_store_here", "_law_piece", "_law_most", "_law_one", "_law_first", "_law_size", "_law_turn"]) (sc := defScope s__law_store) (by decide +kernel)) (fun _ _ _ _ _ => (pg_name (i := 8) sc__law_store.nd rfl (Or.inl rfl))) (fun _ _ _ _ _ => pts_nil) (fun _ _ _ _ _ => (pe_ix (k_ixl (K := K)) (pe_lst (pa_cons pe_int (pa_cons pe_int (pa_cons pe_int (pa_cons (pe_un un_neg pe_int) (pa_cons pe_int (pa_cons (pe_op op_pow pe_int pe_int) (pa_cons (pv 3) pa_nil)))))))) (pe_call G__law_take (hr.mono (by decide)) (by rfl) d__law_take.g d__law_take.F.kp d__law_take.b .nil pass0 (pa_cons (pv 0) (pa_cons pe_int pa_nil))) (fun _ _ => rfl)))) pa_nil)) (by rfl)))))
    (pss_one (ps_ret (pv 2))))), ?_⟩
  have hsz := hl.2.2
  have hl6 := hl.2.1
  have ho := hl.1
  obtain ⟨a, vs, rfl, nu, ha, hds⟩ := hv.tupAt
  have hlen := hds.len
  rw [List.length_map] at hlen
  refine q_newK (z := z) hz fun p hn b0 => ?_
  have hu' : (z.add p).I u = some IsPur := hu
  have nap : ¬ (z.add p).U a := fun ux => ux.elim nu fun e => by
    have e' : a = p := e
    rw [e', hn] at ha
    cases ha
  refine q_forR2 (z := z.add p) (a := 1) (n := 4) b0.rz ((ea_is ev_k (ea_is ev_k ea_nil)).imp fun vs H' _ e => by rw [e]; rfl) (by decide) (by decide)
    (fun k σ' H' => ∃ S o3 o4, Dl z p H H' S ∧ GoodS k S ∧ σ' = [some (.ref u), some (.ref a), some (.ref p), o3, o4, none, none, none, none])
    (fun H1 r1 => ⟨[], none, none, b0.go hn hz r1, .nil, rfl⟩) (fun k σ' H' hk hP => ?_) (fun σ' H' hP => ?_)
  · obtain ⟨S, o3, o4, b, g, rfl⟩ := hP
    have ha' := b.w a _ nu ha
    refine q_set (z := z.add p) (i := 4) (φ := fun v _ => ∃ m : Nat, m ≤ 60 ∧ v = .int (m : Int)) b.rz (ev_op (φ := fun v _ => ∃ m : Int, (0 ≤ m ∧ m ≤ 40) ∧ v = .int m) (ψ := Nn 3) (ev_maxL (P := fun m => 0 ≤ m ∧ m ≤ 40) (ev_catP (Φ1 := fun ws _ => (∃ n, n = vs.length ∧ ws.length ≤ n) ∧ ∀ w ∈ ws, ∃ m : Int, (0 ≤ m ∧ m ≤ 40) ∧ w = .int m) (Φ2 := fun ws _ => ws = [.int 0]) (ev_lcIfG (P := (· = vs.length)) (χ := fun w => ∃ m : Int, (0 ≤ m ∧ m ≤ 40) ∧ w = .int m) (ei_tup (xs := vs) (ev_tupv rfl nap ha')) (fun n h => by omega) fun n i x D H2 hn' hi hx hD r2 rD => ?_) (fun H2 r2 => ev_lst (ea_is ev_k ea_nil) fun vs H' e => by rw [e]; exact (show 1 ≤ 100000 by decide)) ?_ fun ws _ _ _ h => h)) (fun x H1 r _ => ev_take hu' (ev_is rfl) ev_k (by decide) (by decide)) fun x y H1 r ⟨m, hm, ex⟩ ⟨k, ey, hk⟩ Q q => ?_) fun vm H1 r1 f1 => ?_
    · obtain ⟨d', hd, dv⟩ := hds.at hx
      rw [List.getElem?_map] at hd
      obtain ⟨t, ht, rfl⟩ := Option.map_eq_some_iff.mp hd
      have hm := List.mem_of_getElem? ht
      have okt := ho t hm
      have hz3 := hsz t hm
      have dv2 := (b.du hn dv).add hD r2.w
      refine ⟨_, decide (V.int t.1 = .int (1 + (k : Int))), fun k hk => g_tri (z := (z.add p).add D) dv2 hk, rfl, et_test (ev_eq (ev_is rfl) (ev_is rfl) rfl), fun H3 r3 => (ev_i0 (g := fun i j => .int (i + j)) (i := t.2.1) (j := t.2.2) (ev_is rfl) (ev_is rfl)).imp fun v H' _ e => ⟨t.2.1 + t.2.2, ⟨?_, ?_⟩, e⟩⟩
      · have := okt.2.1
        have := okt.2.2
        omega
      · have := hz3.2.2
        omega
    · rintro x y H' ⟨⟨n, rfl, hxl⟩, hx⟩ rfl
      have iall : ∀ {ws : List V}, (∀ w ∈ ws, ∃ m : Int, (0 ≤ m ∧ m ≤ 40) ∧ w = .int m) → ∃ ns : List Int, ws = ns.map V.int ∧ ∀ n ∈ ns, 0 ≤ n ∧ n ≤ 40 := fun {ws} => by
        induction ws with
        | nil => exact fun _ => ⟨[], rfl, fun n h => by cases h⟩
        | cons w r ih =>
          intro h
          obtain ⟨i, hi, rfl⟩ := h w List.mem_cons_self
          obtain ⟨ns, rfl, hn⟩ := ih fun x hx => h x (List.mem_cons_of_mem _ hx)
          exact ⟨i :: ns, rfl, fun n hm => (List.mem_cons.mp hm).elim (fun e => by rw [e]; exact hi) (hn n)⟩
      obtain ⟨ns, rfl, hns⟩ := iall hx
      refine ⟨⟨ns ++ [0], by rw [List.map_append]; rfl, by rw [List.length_append]; exact Nat.succ_pos _, fun n hm => ?_⟩, ?_⟩
      · rcases List.mem_append.mp hm with hm | hm
        · exact hns n hm
        · rw [List.mem_singleton.mp hm]
          decide
      · show _ + 1 ≤ 100000
        omega
    · subst ex
      subst ey
      exact ⟨m, (k : Int), rfl, rfl, q _ H1 r.dr fun _ _ => ⟨(m + k).toNat, by omega, by rw [Int.toNat_of_nonneg (by omega)]⟩⟩
    obtain ⟨m, hm, rfl⟩ := f1 H1 .refl
    have b1 := b.go hn hz r1
    refine dl_put (z := z) (j := 1 + (k : Int)) b1 hn hz ?_ (fun H2 r2 => ev_is rfl) (fun H2 r2 => ev_is rfl) (by have := g.le; omega) fun ns H2 hns b2 => ⟨_, _, _, b2, g.put hns, rfl⟩
    refine ev_tupE (N := 200) ((ev_lc (P := (· = m)) (φ := fun _ v _ => ∃ i : Int, v = .int i) (ei_range (n := m) (ea_is (ev_is rfl) ea_nil) (by omega)) (fun n h => by omega) (by intro _; rfl) fun n i x D H3 hn' hi hx hD r3 rD => ?_).imp fun v H' _ ⟨p, ws, e, nu, hp, h1, h2⟩ => ⟨p, ws, e, nu, hp, by omega, fun w hw => by
      obtain ⟨i, hi⟩ := List.getElem?_of_mem hw
      exact h2 i w hi⟩)
    refine ev_menuV (ws := [.int 0, .int 1, .int 7, .int (-1), .int 900, .int (10 ^ 20), .int (1 + (k : Int))]) (n := 7) (ev_lst (ea_is ev_k (ea_is ev_k (ea_is ev_k (ea_is ev_neg1 (ea_is ev_k (ea_is (ev_i (C := CPow) (g := fun i j => .int (i ^ j.toNat)) (i := 10) (j := 20) ev_k ev_k ⟨by decide, by decide, by decide⟩) (ea_is (ev_is rfl) ea_nil))))))) fun vs H' e => by rw [e]; exact (show 7 ≤ 100000 by decide)) (fun x H2 r2 => ev_take (z := (z.add p).add D) hu' (ev_is rfl) ev_k (by decide) (by decide)) rfl fun Hb w _ hw => ?_
    simp only [List.mem_cons, List.not_mem_nil, or_false] at hw
    rcases hw with rfl | rfl | rfl | rfl | rfl | rfl | rfl <;> exact ⟨_, rfl⟩
  · obtain ⟨S, o3, o4, b, g, rfl⟩ := hP
    obtain ⟨ws, stw⟩ := b.sto
    have nup := hz.nu hn
    exact s_ret (z := z) (φ := StoV z 4) b.r.dr (ev_var rfl fun H'' w => ⟨p, S, ws, rfl, nup, g, stw.up nup w⟩) fun v' H5 r5 f => q v' H5 (b.r.tr r5) (f H5 .refl)

end
end K09

set_option Elab.async false
set_option linter.all false
set_option maxRecDepth 100000
set_option maxHeartbeats 4000000
namespace K09
open PySem PySem.Spec PyProof.Rows L2 FB RZ
section
variable {P : Program} {w : World} {K : PySem.W.Frag} {mg : Str → Option Value} {base : Heap} {rs : Rs} {cs : Cs}
-- slots of _law_less: 0 _law_purse_here, 1 _law_lot, 2 _law_store_here, 3 _law_found, 4 _law_turn, 5 _law_piece, 6 _law_row, 7 _law_way
theorem ok_less (T : Tx P K mg rs cs) (d__law_less : Df K mg "_law_less" s__law_less ["_law_purse_here", "_law_lot", "_law_store_here"]) (d__law_take : Df K mg "_law_take" s__law_take ["_law_purse_here", "_law_span"])
    (G__law_take : FnOk P w K mg base CX0 1 d__law_take.f d__law_take.fd ["_law_purse_here", "_law_span"] spTake) : FnOk P w K mg base CX0 2 d__law_less.f d__law_less.fd ["_law_purse_here", "_law_lot", "_law_store_here"] spLess := by
  refine d__law_less.F.ok sc__law_less (fun vs H Q E ⟨_, _, _, _, _, _, _, e, _⟩ => by rw [e]; rfl) (fun cdv A outer s H vs Q E hr h => ?_)
  obtain ⟨z, u, v, qd, l, S, ws, rfl, hz, hu, hv, hl, nq, gs, st, q⟩ := h
  refine ⟨_, (pss_cons (ps_set (i := 3) sc__law_less.nd rfl (.inl rfl) (pe_callTy call_dictD (by rfl) T.dict (by decide +kernel) (pa_cons (pv 2) pa_nil)))
    (pss_cons (ps_for PassesOwn.never rfl (pi_range1 (by rfl) T.range (pa_cons (pe_op op_add pe_int (pe_call G__law_take (hr.mono (by decide)) (by rfl) d__law_take.g d__law_take.F.kp d__law_take.b .nil pass0 (pa_cons (pv 0) (pa_cons pe_int pa_nil)))) pa_nil)) (pg_name (i := 4) sc__law_less.nd rfl (Or.inl rfl))
    (pss_cons (ps_set (i := 5) sc__law_less.nd rfl (.inl rfl) (pe_op op_add pe_int (pe_call G__law_take (hr.mono (by decide)) (by rfl) d__law_take.g d__law_take.F.kp d__law_take.b .nil pass0 (pa_cons (pv 0) (pa_cons pe_int pa_nil)))))
    (pss_cons (ps_if (PW.pt (pw_and (pt_cmpR (k_neD (K := K) hr.units) (pv 1) (pe_tup pa_nil) (nomark _)) (pw_and1 (pt_cmpR op_gt (pe_call G__law_take (hr.mono (by decide)) (by rfl) d__law_take.g d__law_take.F.kp d__law_take.b .nil pass0 (pa_cons (pv 0) (pa_cons pe_int pa_nil))) pe_int (nomark _)))))
    (pss_one (ps_set (i := 5) sc__law_less.nd rfl (.inl rfl) (pe_ix (k_ixt (K := K)) (pe_ix (k_ixt (K := K)) (pv 1) (pe_call G__law_take (hr.mono (by decide)) (by rfl) d__law_take.g d__law_take.F.kp d__law_take.b .nil pass0 (pa_cons (pv 0) (pa_cons (pe_callB (k_len (K := K)) (by rfl) T.len PySem.boot_len (pa_cons (pv 1) pa_nil)) pa_nil))) (fun _ _ => rfl)) pe_int (fun _ _ => rfl))))
    pss_nil)
    (pss_cons (ps_par (i := 6) (j := 7) (by rfl) sc__law_less.nd rfl rfl (by decide) rfl rfl (pa_cons (pe_dget2 (lt1 hr.units) (pv 3) (pv 5) (pe_tup pa_nil) ⟨rfl, rfl, rfl, rfl⟩) (pa_cons (pe_call G__law_take (hr.mono (by decide)) (by rfl) d__law_take.g d__law_take.F.kp d__law_take.b .nil pass0 (pa_cons (pv 0) (pa_cons pe_int pa_nil))) pa_nil)) (by rfl))
    (pss_one (ps_if (pt_cmpR op_eq (pv 7) pe_int (nomark _))
    (pss_one (ps_expr (pe_dpop2 (pv 3) (pv 5) pe_non ⟨rfl, rfl, rfl, rfl⟩)))
    (pss_one (ps_dput (lt1 hr.units) (pv 3) (pv 5) (pe_ix (k_ixl (K := K)) (pe_lst (pa_cons (pe_slice (k_slt (K := K)) (pv 6) po_none (po_some (pe_un un_neg pe_int))) (pa_cons (pe_slice (k_slt (K := K)) (pv 6) po_none (po_some (pe_call G__law_take (hr.mono (by decide)) (by rfl) d__law_take.g d__law_take.F.kp d__law_take.b .nil pass0 (pa_cons (pv 0) (pa_cons (pe_op op_add (pe_callB (k_len (K := K)) (by rfl) T.len PySem.boot_len (pa_cons (pv 6) pa_nil)) pe_int) pa_nil))))) pa_nil))) (pe_op op_sub (pv 7) pe_int) (fun _ _ => rfl)) (by rfl)))))))))
    (pss_one (ps_ret (pv 3))))), ?_⟩
  have hl6 := hl.2.1
  refine q_copyK (z := z) hz nq st (ev_is rfl) fun p H1 hn b0 => ?_
  have hu' : (z.add p).I u = some IsPur := hu
  have nip : (z.add p).I p = none := hz.ni hn
  refine q_forRD (z := z.add p) (N := 3) b0.rz ((ea_cons (ev_iN (g := fun i j => .int (i + j)) (a := 1) (n := 2) ev_k fun H2 r2 => ev_take (z := z.add p) hu' (ev_is rfl) ev_k (by decide) (by decide)) fun v H2 r2 _ => ea_nil).imp ?_) (by decide)
    (fun i σ' H' => ∃ T o4 o5 o6 o7, Dl z p H H' T ∧ GoodS (4 + i) T ∧ σ' = [some (.ref u), some v, some (.ref qd), some (.ref p), o4, o5, o6, o7])
    (fun H2 r2 => ⟨S, none, none, none, none, b0.go hn hz r2, gs, rfl⟩) (fun i σ' H' hi hP => ?_) (fun n σ' H' hn3 hP => ?_)
  · rintro vs H' _ ⟨x, r, rfl, ⟨k, hk, rfl⟩, rfl⟩
    exact ⟨1 + k, by push_cast; rfl, by omega⟩
  · obtain ⟨T, o4, o5, o6, o7, b, g, rfl⟩ := hP
    refine q_set (z := z.add p) (i := 5) (φ := fun v _ => ∃ j : Int, v = .int j) b.rz ((ev_iN (g := fun i j => .int (i + j)) (a := 1) (n := 4) ev_k fun H2 r2 => ev_take (z := z.add p) hu' (ev_is rfl) ev_k (by decide) (by decide)).imp fun v H' _ ⟨k, hk, e⟩ => ⟨_, e⟩) fun v5 H2 r2 f2 => ?_
    obtain ⟨j0, rfl⟩ := f2 H2 .refl
    have b2 := b.go hn hz r2
    have dl : ∀ {H' : Hp} {T' : Sto}, Dl z p H H' T' → DU (z.add p).U H' v (paD l) := fun b => b.du hn hv
    -- what comes behind the piece
    have rest : ∀ {H5 : Hp} {j : Int} {tu : TS} {D : Ends}, Dl z p H H5 T → (∀ o5 o6 o7 H6 T', Dl z p H H6 T' → GoodS (4 + (i + 1)) T' → D.nx [some (.ref u), some v, some (.ref qd), some (.ref p), some (.int (i : Int)), o5, o6, o7] H6) →
        tSeq (tPar 6 7 (tCons (tDGet2 (tVar 3) (tVar 5) (tTup tNil)) (tCons (tCall spTake [] E0 (tCons (tVar 0) (tCons (tC (.int 3)) tNil))) tNil))) (tIfS (tTest (tOp rEq (tVar 7) (tC (.int 0)))) (tDrop (tDPop2 (tVar 3) (tVar 5) (tC .non))) (sDPut (tVar 3) (tVar 5) (tOp (rIxL K) (tLst (tCons (L2.tSl (rSlA K) (tVar 6) tNoPart (tPart (tUn (rU fun i => .int (-i)) (tC (.int 1))))) (tCons (L2.tSl (rSlA K) (tVar 6) tNoPart (tPart (tCall spTake [] E0 (tCons (tVar 0) (tCons (tOp (rI0 fun i j => .int (i + j)) (tCB (fun xs H Q => ∃ y n, xs = [y] ∧ LenV K y H n ∧ Q (.int n) H) (tCons (tVar 6) tNil)) (tC (.int 1))) tNil))))) tNil))) (tOp (rI0 fun i j => .int (i - j)) (tVar 7) (tC (.int 1)))))) D [some (.ref u), some v, some (.ref qd), some (.ref p), some (.int (i : Int)), some (.int j), o6, o7] H5 := fun {H5 j tu D} b5 k => by
      obtain ⟨wt, stt⟩ := b5.stp
      refine q_par (z := z.add p) (Φ := fun a b H' => (∃ ns : List Int, ns.length ≤ 200 ∧ DU (z.add p).U H' a (tuD ns)) ∧ Nn 3 b H') b5.rz ((ea_cons (φ := fun a H' => ∃ ns : List Int, ns.length ≤ 200 ∧ DU (z.add p).U H' a (tuD ns)) (ev_dget2 (z := z.add p) (j := j) nip stt.at_ (ev_is rfl) (fun H6 r6 => ev_is rfl) (fun H6 r6 => ed_tup (ds := []) ed_nil (by decide)) (fun x hx H6 w6 => ?_) fun _ x H6 f => ⟨[], Nat.zero_le _, f⟩) fun _ H6 r6 _ => ea_cons (φ := Nn 3) (ev_take (z := z.add p) hu' (ev_is rfl) ev_k (by decide) (by decide)) fun _ H7 r7 _ => ea_nil).imp ?_) fun v6 v7 H6 r6 f6 => ?_
      · have hw := stt.len
        have hkey : ∃ ns, tabG T j = some ns := by
          cases e : tabG T j with
          | some ns => exact ⟨ns, rfl⟩
          | none => rw [kv_none e] at hx; cases hx
        obtain ⟨ns, e⟩ := hkey
        obtain ⟨x', hx', dx⟩ := kv_get stt.da e
        rw [hx] at hx'
        cases hx'
        exact ⟨ns, g.get e, dx.w w6⟩
      · rintro vs H' _ ⟨a, r, rfl, ha, b, r', rfl, hb, rfl⟩
        exact ⟨a, b, rfl, ha, hb⟩
      obtain ⟨⟨ns, hns, d6⟩, ⟨way, rfl, hway⟩⟩ := f6 H6 .refl
      have b6 := b5.go hn hz r6
      refine s_if (z := z.add p) b6.rz (et_test (ev_eq (ev_is rfl) ev_k rfl)) (fun hb H7 r7 => ?_) (fun hb H7 r7 => ?_)
      · refine dl_pop (z := z) (j := j) (b6.go hn hz r7) hn hz (ev_is rfl) (fun H8 r8 => ev_is rfl) (fun H8 r8 => ev_k) fun H8 T' hT b8 => k _ _ _ H8 T' b8 ?_
        rcases hT with rfl | rfl
        · exact g.up (by omega)
        · exact (g.drop j).up (by omega)
      · have hw0 : way ≠ 0 := fun e => by
          subst e
          exact absurd hb (by decide)
        have d7 := d6.w r7.w
        refine dl_put (z := z) (j := j) (b6.go hn hz r7) hn hz (ev_ixl (Φ := fun ws H' => ws.length = 2 ∧ ∀ w ∈ ws, ∃ ms : List Int, ms.length ≤ 200 ∧ DU (z.add p).U H' w (tuD ms)) (ψ := Is (.int ((way : Int) - 1))) ((ev_lst (ea_cons (ev_slM1 (ns := ns) (ev_var rfl fun H' w => d7.w w)) fun _ H8 r8 _ => ea_cons (ev_slAny (ns := ns) (n := ns.length + 1) (ev_var rfl fun H' w => (d7.w r8.w).w w) fun H9 r9 => ev_take (z := z.add p) hu' (ev_is rfl) (ev_to (ev_i0 (g := fun i j => .int (i + j)) (ev_lenT (ev_tupTu (ev_var rfl fun H' w => (d7.w (r8.tr r9).w).w w))) ev_k) (by rw [List.length_map]; push_cast; rfl)) (by omega) (by omega)) fun _ H9 r9 _ => ea_nil) ?_).imp ?_) (fun x H8 r8 => ev_i0 (g := fun i j => .int (i - j)) (ev_is rfl) ev_k) fun ws y H8 r8 hws ey => ?_) (fun H8 r8 => ev_is rfl) (fun H8 r8 => ev_is rfl) (by have := g.le; omega) fun ms H8 hms b8 => k _ _ _ H8 _ b8 ((g.put hms).up (by omega))
        · rintro vs H' ⟨a, r, rfl, _, b, r', rfl, _, rfl⟩
          exact (show 2 ≤ 100000 by decide)
        · rintro x H' _ ⟨p', ws, e, nu, hp, a, r, rfl, ⟨ma, hma, da⟩, b, r', rfl, ⟨mb, hmb, db⟩, rfl⟩
          refine ⟨p', _, e, nu, hp, rfl, fun w hw => ?_⟩
          simp only [List.mem_cons, List.not_mem_nil, or_false] at hw
          rcases hw with rfl | rfl
          · exact ⟨ma, by omega, da⟩
          · exact ⟨mb, by omega, db⟩
        · obtain ⟨h2, hall⟩ := hws
          have hi2 : way - 1 < ws.length := by omega
          refine ⟨way - 1, ws[way - 1], ?_, List.getElem?_eq_getElem hi2, fun H9 w9 => ?_⟩
          · have ey' : y = .int ((way : Int) - 1) := ey
            rw [ey']
            congr 1
            omega
          · obtain ⟨ms, hms, dm⟩ := hall _ (List.getElem_mem hi2)
            exact ⟨ms, hms, dm.w w9⟩
    have t1 : EvT (z.add p) (tTest (tOp (rNeD K) (tVar 1) (tTup tNil))) [some (.ref u), some v, some (.ref qd), some (.ref p), some (.int (i : Int)), some (.int j0), o6, o7] H2 (fun b => b = true → l ≠ []) := fun H3 e Q q => (et_test (ev_neD (d := paD l) (e := .tuple []) (ev_var rfl fun H' w => (dl b2).w w) (fun H3 r3 => ed_tup (ds := []) ed_nil (by decide)) (nd_pa l) rfl (shaped_pa l) (by decide))) H3 e Q fun b H4 r4 eb => q b H4 r4 fun hb el => by
      rw [eb, el] at hb
      revert hb
      simp [paD, PyData.eqv, PyData.eqvAll]
    have t2 : EvT (z.add p) (tTest (tOp (rI0 fun i j => .bl (decide (j < i))) (tCall spTake [] E0 (tCons (tVar 0) (tCons (tC (.int 4)) tNil))) (tC (.int 0)))) [some (.ref u), some v, some (.ref qd), some (.ref p), some (.int (i : Int)), some (.int j0), o6, o7] H2 (fun _ => True) := fun H3 e Q q => (ev_op (φ := Nn 4) (ψ := Is (.int 0)) (χ := fun v _ => ∃ b, v = .bl b) (ev_take (z := z.add p) hu' (ev_is rfl) ev_k (by decide) (by decide)) (fun _ _ _ _ => ev_k) fun x y H4 r ⟨k, ex, hk⟩ ey Q q => by
      have ey' : y = .int 0 := ey
      subst ex
      subst ey'
      exact ⟨_, _, rfl, rfl, q _ H4 r.dr fun _ _ => ⟨_, rfl⟩⟩) H3 e _ fun v H4 r4 f4 => by
        obtain ⟨b, eb⟩ := f4 H4 .refl
        exact ⟨b, eb, q b H4 r4 trivial⟩
    refine q_ifP (z := z.add p) (Pb := fun b => b = true → l ≠ []) b2.rz (et_andP t1 (fun _ => t2) (fun h hb => h hb) fun b h _ hb => h rfl) (fun hne H3 r3 => ?_) (fun _ H3 r3 => ?_)
    · have b3 := b2.go hn hz r3
      have hpos : 0 < l.length := List.length_pos_iff.mpr (hne rfl)
      refine s_set (z := z.add p) (φ := fun v _ => ∃ j : Int, v = .int j) b3.rz (ev_pieceOf (l := l) (ev_var rfl fun H' w => (dl b3).w w) fun H4 r4 => ev_take (z := z.add p) hu' (ev_is rfl) (ev_to (ev_lenDT (ds := l.map trD) (ev_var rfl fun H' w => ((dl b3).w r4.w).w w)) (by rw [List.length_map])) hpos (by omega)) fun v' H4 r4 f4 => ?_
      obtain ⟨j, rfl⟩ := f4 H4 .refl
      exact rest (tu := tNext) (b3.go hn hz r4) fun o5 o6 o7 H6 T' b6 g6 => ⟨T', _, _, _, _, b6, g6, rfl⟩
    · exact rest (tu := tNext) (b2.go hn hz r3) fun o5 o6 o7 H6 T' b6 g6 => ⟨T', _, _, _, _, b6, g6, rfl⟩
  · obtain ⟨T, o4, o5, o6, o7, b, g, rfl⟩ := hP
    obtain ⟨wt, stw⟩ := b.sto
    have nup := hz.nu hn
    exact s_ret (z := z) (φ := StoV z 6) b.r.dr (ev_var rfl fun H'' w => ⟨p, T, wt, rfl, nup, g.up (by omega), stw.up nup w⟩) fun v' H5 r5 f => q v' H5 (b.r.tr r5) (f H5 .refl)

end
end K09

set_option Elab.async false
set_option linter.all false
set_option maxRecDepth 100000
set_option maxHeartbeats 4000000
namespace K09
open PySem PySem.Spec PyProof.Rows L2 FB RZ
section
variable {P : Program} {w : World} {K : PySem.W.Frag} {mg : Str → Option Value} {base : Heap} {rs : Rs} {cs : Cs}
def lotL : List Tri := (List.range 1200).map fun k : Nat => ((5 : Int), 1199 - (k : Int), (1 : Int))
def nsL : List Int := (List.range 1200).map fun k : Nat => 7 * (k : Int)
def stoL : Sto := [(5, nsL)]
theorem lotL_len : lotL.length = 1200 := by
  unfold lotL
  rw [List.length_map, List.length_range]
theorem lotL_ok : okL lotL := fun t ht => by
  obtain ⟨k, hk, rfl⟩ := List.mem_map.mp ht
  have := List.mem_range.mp hk
  exact ⟨(by show (1 : Int) ≤ 5; decide), (by show 0 ≤ 1199 - (k : Int); omega), (by show (1 : Int) ≤ 1; decide)⟩
theorem nsL_len : nsL.length = 1200 := by
  unfold nsL
  rw [List.length_map, List.length_range]
theorem lotL_has : ∀ c ∈ each lotL, Has stoL c := lack_has lotL_ok fun t ht => by
  obtain ⟨k, hk, rfl⟩ := List.mem_map.mp ht
  have := List.mem_range.mp hk
  show decide ((nsL.length : Int) < 1199 - (k : Int) + 1) = false
  rw [nsL_len]
  exact decide_eq_false (by omega)
theorem each_le1 : ∀ {l : List Tri}, (∀ t ∈ l, t.2.2 = 1) → (each l).length = l.length
  | [], _ => rfl
  | t :: r, h => by
    have h1 := each_le1 fun x hx => h x (List.mem_cons_of_mem _ hx)
    have h2 := h t List.mem_cons_self
    show (eachT t ++ each r).length = r.length + 1
    rw [List.length_append, eachT_len, h1, h2]
    show 1 + r.length = _
    omega
theorem lotL_each : (each lotL).length = 1200 := by
  rw [each_le1 fun t ht => (by obtain ⟨k, hk, rfl⟩ := List.mem_map.mp ht; rfl), lotL_len]
theorem lotL_cells : (each lotL).map (cVal stoL) = nsL.reverse := by decide +kernel
section
variable {z : Zn} {K : PySem.W.Frag} {σ : L2.St} {H H' : Hp} {te ta tb : TE} {th : TO}
theorem ev_revInts {ns : List Int} (h : Ev z te σ H (Dd z (tuD ns))) (h2 : EvO z th σ H (· = none)) : Ev z (tRevT K te th) σ H (Dd z (tuD ns.reverse)) := fun H1 e Q q =>
  h H1 e _ fun v H2 e2 f => h2 H2 (e.tr e2) _ fun o H3 e3 p2 => by
    subst p2
    obtain ⟨a, rfl, nu, ha⟩ := tu_at (f H3 e3.w)
    refine ⟨a, _, rfl, .inl (.inl ha), fun j h => (by cases h), fun p' hp' => q _ _ ((e2.tr e3).tr (e3.dr.new hp')) fun H4 w => .tup (e3.dr.nu hp') (w p' _ (e3.dr.nu hp') upd_same) ?_⟩
    have er : revV (ns.map V.int) none = ns.reverse.map V.int := by
      simp [revV, rvN, List.map_reverse]
    rw [er]
    exact ints_dua _
end
-- slots of _law_long_right: 0 _law_row, 1 _law_k
def spLong : Sp := fun vs H Q _ => ∃ z : Zn, vs = [] ∧ z.R H H ∧ ∀ H2, z.R H H2 → Q (.bl true) H2
theorem ok_long (T : Tx P K mg rs cs) (d__law_long_right : Df K mg "_law_long_right" s__law_long_right []) (d_cells : Df K mg "cells" s_cells ["parts", "pieces"])
    (G_cells : FnOk P w K mg base CX0 4 d_cells.f d_cells.fd ["parts", "pieces"] spCells) : FnOk P w K mg base CX0 5 d__law_long_right.f d__law_long_right.fd [] spLong := by
  refine d__law_long_right.F.ok sc__law_long_right (fun vs H Q E ⟨_, e, _⟩ => by rw [e]; rfl) (fun cdv A outer s H vs Q E hr h => ?_)
  obtain ⟨z, rfl, hz, q⟩ := h
  refine ⟨_, (pss_cons (ps_set (i := 0) sc__law_long_right.nd rfl (.inl rfl) (pe_callTy (k_tuple (K := K)) (by rfl) T.tuple (by decide +kernel) (pa_cons (pe_lc (own := [("_law_k", 1)]) (g := gName 1) rfl sc__law_long_right.nd  (pi_range1 (by rfl) T.range (pa_cons pe_int pa_nil)) (blkOk_by (own := [("_law_k", 1)]) (N := ["_law_row", "_law_k"]) (sc := defScope s__law_long_right) (by decide +kernel)) (fun _ _ _ _ _ => (pg_name (i := 1) sc__law_long_right.nd rfl (Or.inl rfl))) (fun _ _ _ _ _ => pts_nil) (fun _ _ _ _ _ => (pe_op op_mul pe_int (pv 1)))) pa_nil)))
    (pss_one (ps_ret (pe_cmpR (k_eqD (K := K) hr.units) (pe_call G_cells (hr.mono (by decide)) (by rfl) d_cells.g d_cells.F.kp d_cells.b .nil pass0 (pa_cons (pe_callTy (k_tuple (K := K)) (by rfl) T.tuple (by decide +kernel) (pa_cons (pe_lc (own := [("_law_k", 1)]) (g := gName 1) rfl sc__law_long_right.nd  (pi_range1 (by rfl) T.range (pa_cons pe_int pa_nil)) (blkOk_by (own := [("_law_k", 1)]) (N := ["_law_row", "_law_k"]) (sc := defScope s__law_long_right) (by decide +kernel)) (fun _ _ _ _ _ => (pg_name (i := 1) sc__law_long_right.nd rfl (Or.inl rfl))) (fun _ _ _ _ _ => pts_nil) (fun _ _ _ _ _ => (pe_tup (pa_cons pe_int (pa_cons (pe_op op_sub pe_int (pv 1)) (pa_cons pe_int pa_nil)))))) pa_nil)) (pa_cons (pe_disp (pps_cons pe_int (pv 0) pps_nil) (by rfl) (by rfl) (fun z => by cases z) (by decide)) pa_nil))) (pe_revT (K := K) (pv 0) po_none) (nomark _))))), ?_⟩
  refine q_set (z := z) (φ := Dd z (tuD nsL)) hz (ev_tupD (lst_ints (n := 1200) (f := fun k : Nat => 7 * (k : Int)) (ev_lc (P := (· = 1200)) (φ := fun k => Is (.int (7 * (k : Int)))) (ei_range (n := 1200) (ea_is ev_k ea_nil) (by decide)) (fun n h => by omega) (by intro _; rfl) fun n i x D H2 _ hi hx hD r2 rD => ?_))) fun v1 H1 r1 f1 => ?_
  · subst hx
    exact ev_i (C := CMul) (g := fun i j => .int (i * j)) ev_k (ev_is rfl) (.inl ⟨by decide, by decide⟩)
  obtain ⟨a1, e1, nu1, ha1⟩ := tu_at (f1 H1 .refl)
  subst e1
  refine s_ret (z := z) (φ := Is (.bl true)) r1.dr (ev_eqTu (l := nsL.reverse) ?_ fun H2 r2 => ev_revInts (ev_var rfl fun H' w => f1 H' (r2.w.tr w)) eo_none) fun v' H5 r5 f => ?_
  · have h := ev_cellsN (z := z) (E := E0) (σ := [some (.ref a1), none]) (H := H1) (l := lotL) (S := stoL) (ta := tCB (fun xs H Q => ∃ p ys, xs = [.ref p] ∧ ((SqL K H p ys ∧ ∀ l, H l = none → Q (.ref l) (upd H l (.tup ys))) ∨ (SqT K H p ys ∧ Q (.ref p) H))) (tCons (tLc (iRng1 (tCons (tC (.int 1200)) tNil)) (gName 1) tYes (tTup (tCons (tC (.int 5)) (tCons (tOp (rI0 fun i j => .int (i - j)) (tC (.int 1199)) (tVar 1)) (tCons (tC (.int 1)) tNil)))) [1]) tNil)) (tb := tDisp [(tC (.int 5), tVar 0)]) ?_ (fun H2 r2 => ?_) lotL_ok (by rw [lotL_len]; decide) (by rw [lotL_each]; decide) lotL_has
    · rw [lotL_cells] at h
      exact h
    · refine ev_tupD (ds := lotL.map trD) ((ev_lc (P := (· = 1200)) (φ := fun k => Dd z (trD (5, 1199 - (k : Int), 1))) (ei_range (n := 1200) (ea_is ev_k ea_nil) (by decide)) (fun n h => by omega) (by intro _; rfl) fun n i x D H2 _ hi hx hD r2 rD => ?_).imp ?_)
      · subst hx
        exact (ev_tri (z := z.add D) (a := 5) (b := 1199 - (i : Int)) (c := 1) ev_k (ev_i0 (g := fun i j => .int (i - j)) ev_k (ev_is rfl)) ev_k).imp fun v H' _ h => DU.sub h
      · rintro v H' _ ⟨p, ws, e, nu, hp, h1, h2⟩
        rw [e]
        refine .lst nu hp (dua_of (by rw [lotL_len]; exact h1) fun i w t hw ht => ?_)
        have h3 := h2 i w hw
        unfold lotL at ht
        rw [List.getElem?_map] at ht
        obtain ⟨j, hj, rfl⟩ := Option.map_eq_some_iff.mp ht
        have hij : i < 1200 := by
          have := (List.getElem?_eq_some_iff.mp hj).1
          rwa [List.length_range] at this
        rw [List.getElem?_range hij] at hj
        cases hj
        exact h3
    · refine (ed_dictS (z := z) (k := 5) (d := tuD nsL) fun z' H3 r3 rz' hnu => ev_var rfl fun H' w => ?_).imp fun v H' _ ⟨q, u, e, nu, hq, du⟩ => ⟨q, [u], e, nu, hq, .one du⟩
      have ha2 := r2.w a1 _ nu1 ha1
      have nz := hnu a1 _ nu1 ha2
      exact .tup nz (w a1 _ nz (r3.w a1 _ nu1 ha2)) (ints_dua nsL)
  · have e := f H5 .refl
    subst e
    exact q H5 (r1.tr r5)

end
end K09

set_option Elab.async false
set_option linter.all false
set_option maxRecDepth 100000
set_option maxHeartbeats 4000000
namespace K09
open PySem PySem.Spec PyProof.Rows L2 FB RZ
section
variable {P : Program} {w : World} {K : PySem.W.Frag} {mg : Str → Option Value} {base : Heap} {rs : Rs} {cs : Cs}
def spLaw (K : PySem.W.Frag) : Sp := fun vs H Q _ => ∃ (a : Addr) (ns : List Int), vs = [.ref a] ∧ SqL K H a (ns.map V.int) ∧ ns.length ≤ 63 ∧ ∀ H', Q (.bl true) H'
theorem et_andF {z : Zn} {σ : L2.St} {H : Hp} {t u : TT} (h1 : EvT z t σ H (fun _ => True)) (h2 : EvT z u σ H (· = false)) : EvT z (tAnd t u) σ H (· = false) := fun H1 e Q q => h1 H1 e _ fun c H2 e2 _ => by
  cases c with
  | true => exact h2 H2 (e.tr e2) Q fun d H3 e3 p => q d H3 (e2.tr e3) p
  | false => exact q false H2 e2 rfl
theorem ev_right {z : Zn} {σ : L2.St} {H : Hp} {ta tb : TE} {E : XK} {l : List Tri} {n : Nat} (hn : n ≤ 10) (ha : Ev z ta σ H (Dd z (paD l))) (hl : DrawOk 6 l) (hb : ∀ H1, z.R H H1 → Ev z tb σ H1 (StoV z n)) : Ev z (tCall spRight [] E (tCons ta (tCons tb tNil))) σ H (Is (.bl true)) :=
  ev_call (ea_cons ha fun v H1 r _ => ea_cons (hb H1 r) fun v2 H2 r2 _ => ea_nil) fun vs H1 r ⟨v, rr, e, hv, v2, r2, e2, ⟨q, S, ws, e3, nu, g, st⟩, er⟩ Q k => ⟨z, l, S, r.dr, ⟨v, q, ws, by rw [e, e2, er, e3]; rfl, hv, hl, Zn.inone nu, g.up hn, st⟩, fun H' r' => k _ H' r' fun _ _ => rfl⟩
theorem ev_dnewS {z : Zn} {σ : L2.St} {H : Hp} : Ev z tDNewK σ H (StoV z 0) := fun H1 e Q q => fun p hp => q _ _ (e.dr.new hp) fun H3 w => ⟨p, [], [], rfl, e.dr.nu hp, .nil, w p _ (e.dr.nu hp) upd_same, .nil⟩
theorem draw_nil : DrawOk 6 [] := ⟨fun t ht => (by cases ht), Nat.zero_le _, fun t ht => (by cases ht)⟩
-- slots of law: 0 _law_script, 1 _law_k, 2 _law_purse_here, 3 _law_lot, 4 _law_store_here, 5 _law_turn
theorem ok_law (T : Tx P K mg rs cs) (d_law : Df K mg "law" s_law ["_law_script"]) (d__law_purse : Df K mg "_law_purse" s__law_purse ["_law_script", "_law_k"]) (d__law_take : Df K mg "_law_take" s__law_take ["_law_purse_here", "_law_span"]) (d__law_long_right : Df K mg "_law_long_right" s__law_long_right []) (d__law_parts : Df K mg "_law_parts" s__law_parts ["_law_purse_here", "_law_most"])
    (d__law_store : Df K mg "_law_store" s__law_store ["_law_purse_here", "_law_lot"]) (d__law_right : Df K mg "_law_right" s__law_right ["_law_lot", "_law_store_here"]) (d__law_less : Df K mg "_law_less" s__law_less ["_law_purse_here", "_law_lot", "_law_store_here"])
    (G__law_purse : FnOk P w K mg base CX0 1 d__law_purse.f d__law_purse.fd ["_law_script", "_law_k"] (spPurse K)) (G__law_take : FnOk P w K mg base CX0 1 d__law_take.f d__law_take.fd ["_law_purse_here", "_law_span"] spTake) (G__law_long_right : FnOk P w K mg base CX0 5 d__law_long_right.f d__law_long_right.fd [] spLong)
    (G__law_parts : FnOk P w K mg base CX0 2 d__law_parts.f d__law_parts.fd ["_law_purse_here", "_law_most"] spDrawN) (G__law_store : FnOk P w K mg base CX0 2 d__law_store.f d__law_store.fd ["_law_purse_here", "_law_lot"] spStore) (G__law_less : FnOk P w K mg base CX0 2 d__law_less.f d__law_less.fd ["_law_purse_here", "_law_lot", "_law_store_here"] spLess)
    (G__law_right : FnG P w K mg base CX0 6 d__law_right.f d__law_right.fd ["_law_lot", "_law_store_here"] spRight) : FnG P w K mg base CX0 7 d_law.f d_law.fd ["_law_script"] (spLaw K) := by
  refine fng_ok d_law.F sc_law (fun vs H Q E ⟨_, _, e, _⟩ => by rw [e]; rfl) (fun cdv A outer s H vs Q E hg hr h => ?_)
  obtain ⟨a, ns, rfl, hS, hl, q⟩ := h
  refine ⟨_, (pss_cons (ps_for PassesOwn.never rfl (pi_range1 (by rfl) T.range (pa_cons (pe_callB (call_max2 rfl) (by rfl) T.max (by decide +kernel) (pa_cons pe_int (pa_cons (pe_callB (call_min2 rfl) (by rfl) T.min (by decide +kernel) (pa_cons pe_int (pa_cons (pe_callB (k_len (K := K)) (by rfl) T.len PySem.boot_len (pa_cons (pv 0) pa_nil)) pa_nil))) pa_nil))) pa_nil)) (pg_name (i := 1) sc_law.nd rfl (Or.inl rfl))
    (pss_cons (ps_set (i := 2) sc_law.nd rfl (.inl rfl) (pe_call G__law_purse (hr.mono (by decide)) (by rfl) d__law_purse.g d__law_purse.F.kp d__law_purse.b .nil pass0 (pa_cons (pv 0) (pa_cons (pv 1) pa_nil))))
    (pss_cons (ps_if (PW.pt (pw_and (pt_cmpR op_eq (pv 1) pe_int (nomark _)) (pw_and (pt_cmpR op_eq (pe_call G__law_take (hr.mono (by decide)) (by rfl) d__law_take.g d__law_take.F.kp d__law_take.b .nil pass0 (pa_cons (pv 2) (pa_cons pe_int pa_nil))) pe_int (nomark _)) (pw_and1 (pt_not (pt_val (pe_call0 G__law_long_right (hr.mono (by decide)) (by rfl) d__law_long_right.g d__law_long_right.F.kp d__law_long_right.b .nil pass0)))))))
    (pss_one (ps_ret pe_bl))
    pss_nil)
    (pss_cons (ps_set (i := 3) sc_law.nd rfl (.inl rfl) (pe_call G__law_parts (hr.mono (by decide)) (by rfl) d__law_parts.g d__law_parts.F.kp d__law_parts.b .nil pass0 (pa_cons (pv 2) (pa_cons pe_int pa_nil))))
    (pss_cons (ps_set (i := 4) sc_law.nd rfl (.inl rfl) (pe_call G__law_store (hr.mono (by decide)) (by rfl) d__law_store.g d__law_store.F.kp d__law_store.b .nil pass0 (pa_cons (pv 2) (pa_cons (pv 3) pa_nil))))
    (pss_cons (ps_if (PW.pt (pw_or (pt_not (pt_val (pe_g G__law_right hg (hr.mono (by decide)) (by rfl) d__law_right.g d__law_right.F.kp d__law_right.b .nil pass0 (pa_cons (pv 3) (pa_cons (pv 4) pa_nil))))) (pw_or (pt_not (pt_val (pe_g G__law_right hg (hr.mono (by decide)) (by rfl) d__law_right.g d__law_right.F.kp d__law_right.b .nil pass0 (pa_cons (pe_tup pa_nil) (pa_cons pe_dnewK pa_nil))))) (pw_or1 (pt_not (pt_val (pe_g G__law_right hg (hr.mono (by decide)) (by rfl) d__law_right.g d__law_right.F.kp d__law_right.b .nil pass0 (pa_cons (pv 3) (pa_cons pe_dnewK pa_nil)))))))))
    (pss_one (ps_ret pe_bl))
    pss_nil)
    (pss_one (ps_for PassesOwn.never rfl (pi_range1 (by rfl) T.range (pa_cons pe_int pa_nil)) (pg_name (i := 5) sc_law.nd rfl (Or.inl rfl))
    (pss_one (ps_if (PW.pt (pw_or (pt_not (pt_val (pe_g G__law_right hg (hr.mono (by decide)) (by rfl) d__law_right.g d__law_right.F.kp d__law_right.b .nil pass0 (pa_cons (pv 3) (pa_cons (pe_call G__law_less (hr.mono (by decide)) (by rfl) d__law_less.g d__law_less.F.kp d__law_less.b .nil pass0 (pa_cons (pv 2) (pa_cons (pv 3) (pa_cons (pv 4) pa_nil)))) pa_nil))))) (pw_or1 (pt_not (pt_val (pe_g G__law_right hg (hr.mono (by decide)) (by rfl) d__law_right.g d__law_right.F.kp d__law_right.b .nil pass0 (pa_cons (pv 3) (pa_cons (pv 4) pa_nil))))))))
    (pss_one (ps_ret pe_bl))
    pss_nil))))))))))
    (pss_one (ps_ret pe_bl))), ?_⟩
  have hS2 : ∀ {H' : Hp}, z0.R H H' → SqL K H' a (ns.map V.int) := fun r => sql_z0 hS r
  obtain ⟨N, hN⟩ : ∃ N, N = (if (if (6 : Int) > ((ns.map V.int).length : Int) then ((ns.map V.int).length : Int) else (6 : Int)) > 2 then (if (6 : Int) > ((ns.map V.int).length : Int) then ((ns.map V.int).length : Int) else (6 : Int)) else 2) := ⟨_, rfl⟩
  have hn : 0 ≤ N ∧ N ≤ 6 := by
    rw [hN]
    split <;> (try split) <;> omega
  refine q_forR (z := z0) (n := N) z0r (ea_is (ev_to (ev_max ev_k (ev_min ev_k (ev_lenQ (ev_is rfl) fun H1 r => hS2 r))) (by rw [← hN])) ea_nil) (by omega) (fun i σ' H' => z0.R H H' ∧ ∃ o1 o2 o3 o4 o5, σ' = [some (.ref a), o1, o2, o3, o4, o5])
    (fun H3 r3 => ⟨r3, none, none, none, none, none, rfl⟩) (fun k σ' H' hk hP => ?_) (fun σ' H' hP => ?_)
  · obtain ⟨r3, o1, o2, o3, o4, o5, rfl⟩ := hP
    refine q_purse (z := z0) (a := a) (ns := ns) (k := k) z0r (ev_is rfl) (ev_is rfl) (fun H1 r => hS2 (r3.tr r)) (by omega) (by omega) fun p o H3 H4 rx r4 hp4 _ hpo hpur => ?_
    have ru := zu_r hpo hpur
    refine q_if (z := zu p) (b := false) ru (et_andF ((et_test (ev_eq (ev_is rfl) ev_k rfl)).imp fun _ _ => trivial) (et_andF (et_any (ev_drawEq (ev_take zu_i (ev_is rfl) ev_k (by decide) (by decide)))) ((et_not (b := true) (et_B (ev_call ea_nil fun vs H1 r e Q0 q0 => by
      subst e
      exact ⟨zu p, rfl, r.dr, fun H' r' => q0 _ H' r' fun _ _ => rfl⟩))).imp fun b e => e))) (fun hb => by cases hb) fun _ H5 r5 => ?_
    refine q_set (z := zu p) (φ := Ds (zu p) fun d => ∃ l, d = paD l ∧ DrawOk 6 l) r5.dr (ev_drawN (n := 6) zu_i (ev_is rfl) ev_k (by decide)) fun v3 H6 r6 f6 => ?_
    obtain ⟨_, ⟨l, rfl, sl⟩, dl⟩ := f6 H6 .refl
    have lot : ∀ {H' : Hp} {σ : L2.St}, (zu p).R H6 H' → σ[3]? = some (some v3) → Ev (zu p) (tVar 3) σ H' (Dd (zu p) (paD l)) := fun r e => ev_var e fun H'' w => (dl.w r.w).w w
    refine q_set (z := zu p) (φ := StoV (zu p) 4) r6.dr (ev_call (ea_cons (φ := Is (.ref p)) (ev_is rfl) fun _ H7 r7 _ => ea_cons (lot r7 rfl) fun _ H8 r8 _ => ea_nil) fun vs H1 r1 ⟨v0, rr0, e0, ev0, v, rr1, e1, hv, er⟩ Q0 q0 => ⟨zu p, p, v, l, by rw [e0, e1, er, show v0 = _ from ev0]; rfl, r1.dr, zu_i, hv, sl, fun v' H' r' f => q0 v' H' r' fun H3 w => f.up w⟩) fun v4 H7 r7 f7 => ?_
    obtain ⟨qs, S, ws, rfl, nus, gs, st⟩ := f7 H7 .refl
    have sto : ∀ {H' : Hp} {σ : L2.St}, (zu p).R H7 H' → σ[4]? = some (some (.ref qs)) → Ev (zu p) (tVar 4) σ H' (StoV (zu p) 4) := fun r e => ev_var e fun H'' w => ⟨qs, S, ws, rfl, nus, gs, (st.up nus r.w).up nus w⟩
    refine q_if (z := zu p) (b := false) r7.dr (et_to (et_or (a := false) (b := false) (et_not (et_B (ev_right (by decide) (lot r7 rfl) sl fun H8 r8 => sto r8 rfl))) fun _ => et_or (a := false) (b := false) (et_not (et_B (ev_right (l := []) (n := 0) (by decide) ev_paNil draw_nil fun H8 r8 => ev_dnewS))) fun _ => et_not (et_B (ev_right (n := 0) (by decide) (lot r7 rfl) sl fun H8 r8 => ev_dnewS))) rfl) (fun hb => by cases hb) fun _ H8 r8 => ?_
    have less : ∀ {H' : Hp} {σ : L2.St}, (zu p).R H7 H' → σ[2]? = some (some (.ref p)) → σ[3]? = some (some v3) → σ[4]? = some (some (.ref qs)) → Ev (zu p) (tCall spLess [] E0 (tCons (tVar 2) (tCons (tVar 3) (tCons (tVar 4) tNil)))) σ H' (StoV (zu p) 6) := fun r e2 e3 e4 =>
      ev_call (ea_cons (φ := Is (.ref p)) (ev_is e2) fun _ H1 r1 _ => ea_cons (lot (r7.tr (r.tr r1)) e3) fun _ H2 r2 _ => ea_is (ev_is e4) ea_nil) fun vs H1 r1 ⟨v0, rr0, e0, ev0, v, rr1, e1, hv, er⟩ Q0 q0 => ⟨zu p, p, v, qs, l, S, ws, by rw [e0, e1, er, show v0 = _ from ev0]; rfl, r1.dr, zu_i, hv, sl, Zn.inone nus, gs, st.up nus (r.tr r1).w, fun v' H' r' f => q0 v' H' r' fun H3 w => f.up w⟩
    refine s_forR (z := zu p) (n := 4) r8.dr (ea_is ev_k ea_nil) (by decide) (fun i σ' H' => (zu p).R H8 H' ∧ ∃ o5, σ' = [some (.ref a), some (.int (k : Int)), some (.ref p), some v3, some (.ref qs), o5])
      (fun Ha ra => ⟨ra, _, rfl⟩) (fun j σ' Ha hj hP => ?_) (fun σ' Ha hP => ?_)
    · obtain ⟨ra, o5', rfl⟩ := hP
      have r7a := r8.tr ra
      exact s_if0 (z := zu p) (b := false) ra.dr (et_to (et_or (a := false) (b := false) (et_not (et_B (ev_right (n := 6) (by decide) (lot (r7.tr r7a) rfl) sl fun Hb rb => less (r7a.tr rb) rfl rfl rfl))) fun _ => et_not (et_B (ev_right (n := 4) (by decide) (lot (r7.tr r7a) rfl) sl fun Hb rb => sto (r7a.tr rb) rfl))) rfl) (fun hb => by cases hb) fun _ Hc rc => ⟨ra.tr rc, _, rfl⟩
    · obtain ⟨ra, o5', rfl⟩ := hP
      exact ⟨(r3.tr rx).tr (zu_z0 r4 hp4 ((r5.tr r6).tr ((r7.tr r8).tr ra))), _, _, _, _, _, rfl⟩
  · obtain ⟨r3, o1, o2, o3, o4, o5, rfl⟩ := hP
    refine s_ret (z := z0) z0r ev_k fun v H5 r5 f => ?_
    have e := f H5 .refl
    subst e
    exact q H5

end
end K09

set_option Elab.async false
set_option linter.all false
set_option maxRecDepth 100000
set_option maxHeartbeats 4000000
namespace K09
open PySem PySem.Spec PyProof.Rows L2 FB RZ
section
variable {K : PySem.W.Frag} {mg : Str → Option Value}
theorem vals_rev : ∀ {vs : List V} {us : List Value}, Vals vs us → Vals vs.reverse us.reverse
  | [], [], _ => .nil
  | v :: vs, u :: us, .cons h t => by
    rw [List.reverse_cons, List.reverse_cons]
    exact (vals_rev t).append (.cons h .nil)
theorem kb_of {x : Str} {st : Stmt} {ps ks : List Str} {n : Nat} {g : List Value → List Value → List Value} {gV : List V → List V → List V} (d : Df K mg x st ps)
    (h : ∀ (kV doc pm : Value) (an : Option Addr) (cdv ct : Value) (us ws : List Value), us.length = n → ws.length = ks.length → bindArgs (PySem.W.fnOf x x (defArgs st) (defBody st) (defScope st) .none kV doc pm an cdv ct) ⟨us, ks.zip ws⟩ = pure (ps.zip (g us ws)))
    (hr : ∀ {vs zs : List V} {us ws : List Value}, Vals vs us → Vals zs ws → Vals (gV vs zs) (g us ws)) : KBn K d.fd ps n ks g gV := by
  obtain ⟨oc, od, kV, doc, pm, an, cdv, ct, osl, hfd, lk, hcd⟩ := d.F.ex
  refine ⟨fun s us ws _ h1 h2 => ?_, fun r r2 => hr r r2⟩
  rw [hfd]
  exact .of_eq (h kV doc pm an cdv ct us ws h1 h2)
end
end K09

set_option Elab.async false
set_option linter.all false
set_option maxRecDepth 100000
set_option maxHeartbeats 4000000
namespace K09
open PySem PySem.W PySem.Calls PyProof.Rows PySem.HandSPX FB
theorem kit_mk {K : Frag} {P C : Addr} {b : Bool} (h0 : (Value.ref P == Value.ref C) = false) (h2 : (clsIn K C).isSome = true) (h3 : typeIn K (.ref C) = some (.type "type")) (h4 : subIn K (.ref P) (.ref C) = some b) : kitOne K (.ref P) (.ref C) = some b := by
  have e2 : ((clsIn K C).isSome && typeIn K (.ref C) == some (.type "type")) = true := by rw [h2, h3]; simp
  unfold kitOne kitCls
  rw [h0, if_neg (by decide)]
  show (if ((clsIn K C).isSome && typeIn K (.ref C) == some (.type "type")) = true then subIn K (.ref P) (.ref C) else none) = some b
  rw [if_pos e2, h4]
theorem kitto {K : Frag} {h : Heap} {mg : Str → Option Value} (X : K.In h) (G : h.Ns mainGlobals mg) {nm : Str} {P C : Addr} {b : Bool} {oc : Value} {od : Option Addr} {cd : ClassData} {os : Array (Option Value)} (m1 : nsIn K mainGlobals nm = some (some (.ref C))) (h0 : (Value.ref P == Value.ref C) = false) (h1 : K.lookup C = some ⟨oc, od, .cls cd, os⟩) (h3 : typeIn K (.ref C) = some (.type "type")) (h4 : subIn K (.ref P) (.ref C) = some b) : KitTo K mg nm P C b :=
  ⟨mg_of X G m1, kit_mk h0 (by unfold clsIn; rw [h1] <;> rfl) h3 h4⟩
theorem kit_self {K : Frag} {C : Addr} (h : (Value.ref C == Value.ref C) = true) : kitOne K (.ref C) (.ref C) = some true := by
  unfold kitOne
  rw [if_pos h]
theorem kit_ty {K : Frag} {C : Addr} {T : String} {b : Bool} (h0 : (Value.ref C == Value.type T) = false) (hm : kitMeta T = true) (h : subIn K (.ref C) (.type T) = some b) : kitOne K (.ref C) (.type T) = some b := by
  unfold kitOne kitCls
  rw [h0, if_neg (by decide)]
  show (if kitMeta T = true then subIn K (.ref C) (.type T) else none) = some b
  rw [if_pos hm, h]
theorem kit_le {K : Frag} {C : Addr} (h : subIn K (.ref C) (.type "LookupError") = some false) : kitOne K (.ref C) (.type "LookupError") = some false := kit_ty rfl (by decide +kernel) h
theorem kit_ve {prog : Program} {K : Frag} {mg : Str → Option Value} {nm f msg : Str} {C fI cc cda : Addr} (R : RefTxt prog K mg nm f msg C fI cc cda) : kitOne K (.ref C) (.type "ValueError") = some true := kit_ty rfl (by decide +kernel) R.veC
theorem kitc {prog : Program} {K : Frag} {mg : Str → Option Value} {nm f msg : Str} {C fI cc cda : Addr} (R : RefTxt prog K mg nm f msg C fI cc cda) (x1 : findIn K (.ref C) "__class__" = some (some (.builtin "object.__class__"))) (x2 : specialIn K (.builtin "object.__class__") "__get__" = some (some (.builtin "getset_descriptor.__get__"))) (x3 : takesIn K (.builtin "object.__class__") = some true)
    (x4 : mroIn K C (.type "object") = some true) : KitC K C := by
  obtain ⟨nm', q, N, bs, bm, sn, sub, ab, col, dd, k0, k1, k2, k3, k5, hC, _⟩ := R.cls
  exact ⟨by unfold clsIn; rw [hC] <;> rfl, R.ga, R.gg, R.exC, x1, x2, x3, x4⟩
end K09
namespace K09
open PySem PySem.Spec PyProof.Rows L2 FB RZ
theorem all_mk {l : PySem.W.OpenLaw} {w : World} {K : PySem.W.Frag} {h : Heap} {mg : Str → Option Value} {fa f_is_whole f_is_parts f_cells f_gathered f__is_part f__law_purse f__law_take f__law_sort f__law_parts f__law_store f__law_due f__law_asked f__law_turns f__law_right f__law_less f__law_long_right f_law : Addr} (X : K.In h) (G : h.Ns mainGlobals mg) (hfa : mg "law" = some (.ref fa))
    {od_is_whole an_is_whole : Option Addr} {sl_is_whole : Array (Option Value)} {oc_is_whole kV_is_whole dc_is_whole pm_is_whole cd_is_whole ct_is_whole : Value}
    {od_is_parts an_is_parts : Option Addr} {sl_is_parts : Array (Option Value)} {oc_is_parts kV_is_parts dc_is_parts pm_is_parts cd_is_parts ct_is_parts : Value}
    {od_cells an_cells : Option Addr} {sl_cells : Array (Option Value)} {oc_cells kV_cells dc_cells pm_cells cd_cells ct_cells : Value}
    {od_gathered an_gathered : Option Addr} {sl_gathered : Array (Option Value)} {oc_gathered kV_gathered dc_gathered pm_gathered cd_gathered ct_gathered : Value}
    {od__is_part an__is_part : Option Addr} {sl__is_part : Array (Option Value)} {oc__is_part kV__is_part dc__is_part pm__is_part cd__is_part ct__is_part : Value}
    {od__law_purse an__law_purse : Option Addr} {sl__law_purse : Array (Option Value)} {oc__law_purse kV__law_purse dc__law_purse pm__law_purse cd__law_purse ct__law_purse : Value}
    {od__law_take an__law_take : Option Addr} {sl__law_take : Array (Option Value)} {oc__law_take kV__law_take dc__law_take pm__law_take cd__law_take ct__law_take : Value}
    {od__law_sort an__law_sort : Option Addr} {sl__law_sort : Array (Option Value)} {oc__law_sort kV__law_sort dc__law_sort pm__law_sort cd__law_sort ct__law_sort : Value}
    {od__law_parts an__law_parts : Option Addr} {sl__law_parts : Array (Option Value)} {oc__law_parts kV__law_parts dc__law_parts pm__law_parts cd__law_parts ct__law_parts : Value}
    {od__law_store an__law_store : Option Addr} {sl__law_store : Array (Option Value)} {oc__law_store kV__law_store dc__law_store pm__law_store cd__law_store ct__law_store : Value}
    {od__law_due an__law_due : Option Addr} {sl__law_due : Array (Option Value)} {oc__law_due kV__law_due dc__law_due pm__law_due cd__law_due ct__law_due : Value}
    {od__law_asked an__law_asked : Option Addr} {sl__law_asked : Array (Option Value)} {oc__law_asked kV__law_asked dc__law_asked pm__law_asked cd__law_asked ct__law_asked : Value}
    {od__law_turns an__law_turns : Option Addr} {sl__law_turns : Array (Option Value)} {oc__law_turns kV__law_turns dc__law_turns pm__law_turns cd__law_turns ct__law_turns : Value}
    {od__law_right an__law_right : Option Addr} {sl__law_right : Array (Option Value)} {oc__law_right kV__law_right dc__law_right pm__law_right cd__law_right ct__law_right : Value}
    {od__law_less an__law_less : Option Addr} {sl__law_less : Array (Option Value)} {oc__law_less kV__law_less dc__law_less pm__law_less cd__law_less ct__law_less : Value}
    {od__law_long_right an__law_long_right : Option Addr} {sl__law_long_right : Array (Option Value)} {oc__law_long_right kV__law_long_right dc__law_long_right pm__law_long_right cd__law_long_right ct__law_long_right : Value}
    {od_law an_law : Option Addr} {sl_law : Array (Option Value)} {oc_law kV_law dc_law pm_law cd_law ct_law : Value}
    {C fI cc cda : Addr} {C_Busy : Addr} {oc_Busy : Value} {od2_Busy : Option Addr} {cd2_Busy : ClassData} {os_Busy : Array (Option Value)} {C_Down : Addr} {oc_Down : Value} {od2_Down : Option Addr} {cd2_Down : ClassData} {os_Down : Array (Option Value)} {C_HouseError : Addr} {oc_HouseError : Value} {od2_HouseError : Option Addr} {cd2_HouseError : ClassData} {os_HouseError : Array (Option Value)} {C_IsGone : Addr} {oc_IsGone : Value} {od2_IsGone : Option Addr} {cd2_IsGone : ClassData} {os_IsGone : Array (Option Value)} {C_NoAsker : Addr} {oc_NoAsker : Value} {od2_NoAsker : Option Addr} {cd2_NoAsker : ClassData} {os_NoAsker : Array (Option Value)} {C_NoDeed : Addr} {oc_NoDeed : Value} {od2_NoDeed : Option Addr} {cd2_NoDeed : ClassData} {os_NoDeed : Array (Option Value)} {C_NoGroups : Addr} {oc_NoGroups : Value} {od2_NoGroups : Option Addr} {cd2_NoGroups : ClassData} {os_NoGroups : Array (Option Value)} {C_NoHouse : Addr} {oc_NoHouse : Value} {od2_NoHouse : Option Addr} {cd2_NoHouse : ClassData} {os_NoHouse : Array (Option Value)} {C_NoLetter : Addr} {oc_NoLetter : Value} {od2_NoLetter : Option Addr} {cd2_NoLetter : ClassData} {os_NoLetter : Array (Option Value)} {C_NoMany : Addr} {oc_NoMany : Value} {od2_NoMany : Option Addr} {cd2_NoMany : ClassData} {os_NoMany : Array (Option Value)} {C_NoOrder : Addr} {oc_NoOrder : Value} {od2_NoOrder : Option Addr} {cd2_NoOrder : ClassData} {os_NoOrder : Array (Option Value)} {C_NoQuestion : Addr} {oc_NoQuestion : Value} {od2_NoQuestion : Option Addr} {cd2_NoQuestion : ClassData} {os_NoQuestion : Array (Option Value)} {C_NoRights : Addr} {oc_NoRights : Value} {od2_NoRights : Option Addr} {cd2_NoRights : ClassData} {os_NoRights : Array (Option Value)} {C_NoRow : Addr} {oc_NoRow : Value} {od2_NoRow : Option Addr} {cd2_NoRow : ClassData} {os_NoRow : Array (Option Value)} {C_NoRows : Addr} {oc_NoRows : Value} {od2_NoRows : Option Addr} {cd2_NoRows : ClassData} {os_NoRows : Array (Option Value)} {C_NoSign : Addr} {oc_NoSign : Value} {od2_NoSign : Option Addr} {cd2_NoSign : ClassData} {os_NoSign : Array (Option Value)} {C_NoTick : Addr} {oc_NoTick : Value} {od2_NoTick : Option Addr} {cd2_NoTick : ClassData} {os_NoTick : Array (Option Value)} {C_NoUsers : Addr} {oc_NoUsers : Value} {od2_NoUsers : Option Addr} {cd2_NoUsers : ClassData} {os_NoUsers : Array (Option Value)} {C_NoWord : Addr} {oc_NoWord : Value} {od2_NoWord : Option Addr} {cd2_NoWord : ClassData} {os_NoWord : Array (Option Value)} {C_Up : Addr} {oc_Up : Value} {od2_Up : Option Addr} {cd2_Up : ClassData} {os_Up : Array (Option Value)} {C_NoParts : Addr} {oc_NoParts : Value} {od2_NoParts : Option Addr} {cd2_NoParts : ClassData} {os_NoParts : Array (Option Value)} {C_NoPlace : Addr} {oc_NoPlace : Value} {od2_NoPlace : Option Addr} {cd2_NoPlace : ClassData} {os_NoPlace : Array (Option Value)} {C_FarError : Addr} {oc_FarError : Value} {od2_FarError : Option Addr} {cd2_FarError : ClassData} {os_FarError : Array (Option Value)}
    (a_is_whole : PySem.W.nsIn K mainGlobals "is_whole" = some (some (.ref f_is_whole))) (l_is_whole : K.lookup f_is_whole = some ⟨oc_is_whole, od_is_whole, .func (PySem.W.fnOf "is_whole" "is_whole" (defArgs s_is_whole) (defBody s_is_whole) (defScope s_is_whole) .none kV_is_whole dc_is_whole pm_is_whole an_is_whole cd_is_whole ct_is_whole), sl_is_whole⟩) (c_is_whole : PySem.W.codeIn K cd_is_whole "is_whole" = true) (k_is_whole : PySem.W.keepIn K (.ref f_is_whole) = true)
    (a_is_parts : PySem.W.nsIn K mainGlobals "is_parts" = some (some (.ref f_is_parts))) (l_is_parts : K.lookup f_is_parts = some ⟨oc_is_parts, od_is_parts, .func (PySem.W.fnOf "is_parts" "is_parts" (defArgs s_is_parts) (defBody s_is_parts) (defScope s_is_parts) .none kV_is_parts dc_is_parts pm_is_parts an_is_parts cd_is_parts ct_is_parts), sl_is_parts⟩) (c_is_parts : PySem.W.codeIn K cd_is_parts "is_parts" = true) (k_is_parts : PySem.W.keepIn K (.ref f_is_parts) = true)
    (a_cells : PySem.W.nsIn K mainGlobals "cells" = some (some (.ref f_cells))) (l_cells : K.lookup f_cells = some ⟨oc_cells, od_cells, .func (PySem.W.fnOf "cells" "cells" (defArgs s_cells) (defBody s_cells) (defScope s_cells) .none kV_cells dc_cells pm_cells an_cells cd_cells ct_cells), sl_cells⟩) (c_cells : PySem.W.codeIn K cd_cells "cells" = true) (k_cells : PySem.W.keepIn K (.ref f_cells) = true)
    (a_gathered : PySem.W.nsIn K mainGlobals "gathered" = some (some (.ref f_gathered))) (l_gathered : K.lookup f_gathered = some ⟨oc_gathered, od_gathered, .func (PySem.W.fnOf "gathered" "gathered" (defArgs s_gathered) (defBody s_gathered) (defScope s_gathered) .none kV_gathered dc_gathered pm_gathered an_gathered cd_gathered ct_gathered), sl_gathered⟩) (c_gathered : PySem.W.codeIn K cd_gathered "gathered" = true) (k_gathered : PySem.W.keepIn K (.ref f_gathered) = true)
    (a__is_part : PySem.W.nsIn K mainGlobals "_is_part" = some (some (.ref f__is_part))) (l__is_part : K.lookup f__is_part = some ⟨oc__is_part, od__is_part, .func (PySem.W.fnOf "_is_part" "_is_part" (defArgs s__is_part) (defBody s__is_part) (defScope s__is_part) .none kV__is_part dc__is_part pm__is_part an__is_part cd__is_part ct__is_part), sl__is_part⟩) (c__is_part : PySem.W.codeIn K cd__is_part "_is_part" = true) (k__is_part : PySem.W.keepIn K (.ref f__is_part) = true)
    (a__law_purse : PySem.W.nsIn K mainGlobals "_law_purse" = some (some (.ref f__law_purse))) (l__law_purse : K.lookup f__law_purse = some ⟨oc__law_purse, od__law_purse, .func (PySem.W.fnOf "_law_purse" "_law_purse" (defArgs s__law_purse) (defBody s__law_purse) (defScope s__law_purse) .none kV__law_purse dc__law_purse pm__law_purse an__law_purse cd__law_purse ct__law_purse), sl__law_purse⟩) (c__law_purse : PySem.W.codeIn K cd__law_purse "_law_purse" = true) (k__law_purse : PySem.W.keepIn K (.ref f__law_purse) = true)
    (a__law_take : PySem.W.nsIn K mainGlobals "_law_take" = some (some (.ref f__law_take))) (l__law_take : K.lookup f__law_take = some ⟨oc__law_take, od__law_take, .func (PySem.W.fnOf "_law_take" "_law_take" (defArgs s__law_take) (defBody s__law_take) (defScope s__law_take) .none kV__law_take dc__law_take pm__law_take an__law_take cd__law_take ct__law_take), sl__law_take⟩) (c__law_take : PySem.W.codeIn K cd__law_take "_law_take" = true) (k__law_take : PySem.W.keepIn K (.ref f__law_take) = true)
    (a__law_sort : PySem.W.nsIn K mainGlobals "_law_sort" = some (some (.ref f__law_sort))) (l__law_sort : K.lookup f__law_sort = some ⟨oc__law_sort, od__law_sort, .func (PySem.W.fnOf "_law_sort" "_law_sort" (defArgs s__law_sort) (defBody s__law_sort) (defScope s__law_sort) .none kV__law_sort dc__law_sort pm__law_sort an__law_sort cd__law_sort ct__law_sort), sl__law_sort⟩) (c__law_sort : PySem.W.codeIn K cd__law_sort "_law_sort" = true) (k__law_sort : PySem.W.keepIn K (.ref f__law_sort) = true)
    (a__law_parts : PySem.W.nsIn K mainGlobals "_law_parts" = some (some (.ref f__law_parts))) (l__law_parts : K.lookup f__law_parts = some ⟨oc__law_parts, od__law_parts, .func (PySem.W.fnOf "_law_parts" "_law_parts" (defArgs s__law_parts) (defBody s__law_parts) (defScope s__law_parts) .none kV__law_parts dc__law_parts pm__law_parts an__law_parts cd__law_parts ct__law_parts), sl__law_parts⟩) (c__law_parts : PySem.W.codeIn K cd__law_parts "_law_parts" = true) (k__law_parts : PySem.W.keepIn K (.ref f__law_parts) = true)
    (a__law_store : PySem.W.nsIn K mainGlobals "_law_store" = some (some (.ref f__law_store))) (l__law_store : K.lookup f__law_store = some ⟨oc__law_store, od__law_store, .func (PySem.W.fnOf "_law_store" "_law_store" (defArgs s__law_store) (defBody s__law_store) (defScope s__law_store) .none kV__law_store dc__law_store pm__law_store an__law_store cd__law_store ct__law_store), sl__law_store⟩) (c__law_store : PySem.W.codeIn K cd__law_store "_law_store" = true) (k__law_store : PySem.W.keepIn K (.ref f__law_store) = true)
    (a__law_due : PySem.W.nsIn K mainGlobals "_law_due" = some (some (.ref f__law_due))) (l__law_due : K.lookup f__law_due = some ⟨oc__law_due, od__law_due, .func (PySem.W.fnOf "_law_due" "_law_due" (defArgs s__law_due) (defBody s__law_due) (defScope s__law_due) .none kV__law_due dc__law_due pm__law_due an__law_due cd__law_due ct__law_due), sl__law_due⟩) (c__law_due : PySem.W.codeIn K cd__law_due "_law_due" = true) (k__law_due : PySem.W.keepIn K (.ref f__law_due) = true)
    (a__law_asked : PySem.W.nsIn K mainGlobals "_law_asked" = some (some (.ref f__law_asked))) (l__law_asked : K.lookup f__law_asked = some ⟨oc__law_asked, od__law_asked, .func (PySem.W.fnOf "_law_asked" "_law_asked" (defArgs s__law_asked) (defBody s__law_asked) (defScope s__law_asked) .none kV__law_asked dc__law_asked pm__law_asked an__law_asked cd__law_asked ct__law_asked), sl__law_asked⟩) (c__law_asked : PySem.W.codeIn K cd__law_asked "_law_asked" = true) (k__law_asked : PySem.W.keepIn K (.ref f__law_asked) = true)
    (a__law_turns : PySem.W.nsIn K mainGlobals "_law_turns" = some (some (.ref f__law_turns))) (l__law_turns : K.lookup f__law_turns = some ⟨oc__law_turns, od__law_turns, .func (PySem.W.fnOf "_law_turns" "_law_turns" (defArgs s__law_turns) (defBody s__law_turns) (defScope s__law_turns) .none kV__law_turns dc__law_turns pm__law_turns an__law_turns cd__law_turns ct__law_turns), sl__law_turns⟩) (c__law_turns : PySem.W.codeIn K cd__law_turns "_law_turns" = true) (k__law_turns : PySem.W.keepIn K (.ref f__law_turns) = true)
    (a__law_right : PySem.W.nsIn K mainGlobals "_law_right" = some (some (.ref f__law_right))) (l__law_right : K.lookup f__law_right = some ⟨oc__law_right, od__law_right, .func (PySem.W.fnOf "_law_right" "_law_right" (defArgs s__law_right) (defBody s__law_right) (defScope s__law_right) .none kV__law_right dc__law_right pm__law_right an__law_right cd__law_right ct__law_right), sl__law_right⟩) (c__law_right : PySem.W.codeIn K cd__law_right "_law_right" = true) (k__law_right : PySem.W.keepIn K (.ref f__law_right) = true)
    (a__law_less : PySem.W.nsIn K mainGlobals "_law_less" = some (some (.ref f__law_less))) (l__law_less : K.lookup f__law_less = some ⟨oc__law_less, od__law_less, .func (PySem.W.fnOf "_law_less" "_law_less" (defArgs s__law_less) (defBody s__law_less) (defScope s__law_less) .none kV__law_less dc__law_less pm__law_less an__law_less cd__law_less ct__law_less), sl__law_less⟩) (c__law_less : PySem.W.codeIn K cd__law_less "_law_less" = true) (k__law_less : PySem.W.keepIn K (.ref f__law_less) = true)
    (a__law_long_right : PySem.W.nsIn K mainGlobals "_law_long_right" = some (some (.ref f__law_long_right))) (l__law_long_right : K.lookup f__law_long_right = some ⟨oc__law_long_right, od__law_long_right, .func (PySem.W.fnOf "_law_long_right" "_law_long_right" (defArgs s__law_long_right) (defBody s__law_long_right) (defScope s__law_long_right) .none kV__law_long_right dc__law_long_right pm__law_long_right an__law_long_right cd__law_long_right ct__law_long_right), sl__law_long_right⟩) (c__law_long_right : PySem.W.codeIn K cd__law_long_right "_law_long_right" = true) (k__law_long_right : PySem.W.keepIn K (.ref f__law_long_right) = true)
    (a_law : PySem.W.nsIn K mainGlobals "law" = some (some (.ref f_law))) (l_law : K.lookup f_law = some ⟨oc_law, od_law, .func (PySem.W.fnOf "law" "law" (defArgs s_law) (defBody s_law) (defScope s_law) .none kV_law dc_law pm_law an_law cd_law ct_law), sl_law⟩) (c_law : PySem.W.codeIn K cd_law "law" = true) (k_law : PySem.W.keepIn K (.ref f_law) = true)
    (z_len : PySem.W.nsIn K mainGlobals "len" = some none)
    (z_all : PySem.W.nsIn K mainGlobals "all" = some none)
    (z_isinstance : PySem.W.nsIn K mainGlobals "isinstance" = some none)
    (z_repr : PySem.W.nsIn K mainGlobals "repr" = some none)
    (z_str : PySem.W.nsIn K mainGlobals "str" = some none)
    (z_tuple : PySem.W.nsIn K mainGlobals "tuple" = some none)
    (z_bool : PySem.W.nsIn K mainGlobals "bool" = some none)
    (z_int : PySem.W.nsIn K mainGlobals "int" = some none)
    (z_list : PySem.W.nsIn K mainGlobals "list" = some none)
    (z_max : PySem.W.nsIn K mainGlobals "max" = some none)
    (z_min : PySem.W.nsIn K mainGlobals "min" = some none)
    (z_range : PySem.W.nsIn K mainGlobals "range" = some none)
    (z_sum : PySem.W.nsIn K mainGlobals "sum" = some none)
    (z_dict : PySem.W.nsIn K mainGlobals "dict" = some none)
    (z_LookupError : PySem.W.nsIn K mainGlobals "LookupError" = some none)
    (z_ValueError : PySem.W.nsIn K mainGlobals "ValueError" = some none)
    (R : RefTxt l.prog K mg "NoPiece" "piece" "the cells of this piece aren't there" C fI cc cda)
    (u_self : (Value.ref C == Value.ref C) = true)
    (x1 : PySem.W.findIn K (.ref C) "__class__" = some (some (.builtin "object.__class__")))
    (x2 : PySem.W.specialIn K (.builtin "object.__class__") "__get__" = some (some (.builtin "getset_descriptor.__get__")))
    (x3 : PySem.W.takesIn K (.builtin "object.__class__") = some true)
    (x4 : PySem.W.mroIn K C (.type "object") = some true)
    (x5 : PySem.W.subIn K (.ref C) (.type "LookupError") = some false)
    (g_Busy : PySem.W.nsIn K mainGlobals "Busy" = some (some (.ref C_Busy))) (h_Busy : K.lookup C_Busy = some ⟨oc_Busy, od2_Busy, .cls cd2_Busy, os_Busy⟩) (t_Busy : PySem.W.typeIn K (.ref C_Busy) = some (.type "type")) (s_Busy : PySem.W.subIn K (.ref C) (.ref C_Busy) = some false) (n_Busy : (Value.ref C == Value.ref C_Busy) = false)
    (g_Down : PySem.W.nsIn K mainGlobals "Down" = some (some (.ref C_Down))) (h_Down : K.lookup C_Down = some ⟨oc_Down, od2_Down, .cls cd2_Down, os_Down⟩) (t_Down : PySem.W.typeIn K (.ref C_Down) = some (.type "type")) (s_Down : PySem.W.subIn K (.ref C) (.ref C_Down) = some false) (n_Down : (Value.ref C == Value.ref C_Down) = false)
    (g_HouseError : PySem.W.nsIn K mainGlobals "HouseError" = some (some (.ref C_HouseError))) (h_HouseError : K.lookup C_HouseError = some ⟨oc_HouseError, od2_HouseError, .cls cd2_HouseError, os_HouseError⟩) (t_HouseError : PySem.W.typeIn K (.ref C_HouseError) = some (.type "type")) (s_HouseError : PySem.W.subIn K (.ref C) (.ref C_HouseError) = some false) (n_HouseError : (Value.ref C == Value.ref C_HouseError) = false)
    (g_IsGone : PySem.W.nsIn K mainGlobals "IsGone" = some (some (.ref C_IsGone))) (h_IsGone : K.lookup C_IsGone = some ⟨oc_IsGone, od2_IsGone, .cls cd2_IsGone, os_IsGone⟩) (t_IsGone : PySem.W.typeIn K (.ref C_IsGone) = some (.type "type")) (s_IsGone : PySem.W.subIn K (.ref C) (.ref C_IsGone) = some false) (n_IsGone : (Value.ref C == Value.ref C_IsGone) = false)
    (g_NoAsker : PySem.W.nsIn K mainGlobals "NoAsker" = some (some (.ref C_NoAsker))) (h_NoAsker : K.lookup C_NoAsker = some ⟨oc_NoAsker, od2_NoAsker, .cls cd2_NoAsker, os_NoAsker⟩) (t_NoAsker : PySem.W.typeIn K (.ref C_NoAsker) = some (.type "type")) (s_NoAsker : PySem.W.subIn K (.ref C) (.ref C_NoAsker) = some false) (n_NoAsker : (Value.ref C == Value.ref C_NoAsker) = false)
    (g_NoDeed : PySem.W.nsIn K mainGlobals "NoDeed" = some (some (.ref C_NoDeed))) (h_NoDeed : K.lookup C_NoDeed = some ⟨oc_NoDeed, od2_NoDeed, .cls cd2_NoDeed, os_NoDeed⟩) (t_NoDeed : PySem.W.typeIn K (.ref C_NoDeed) = some (.type "type")) (s_NoDeed : PySem.W.subIn K (.ref C) (.ref C_NoDeed) = some false) (n_NoDeed : (Value.ref C == Value.ref C_NoDeed) = false)
    (g_NoGroups : PySem.W.nsIn K mainGlobals "NoGroups" = some (some (.ref C_NoGroups))) (h_NoGroups : K.lookup C_NoGroups = some ⟨oc_NoGroups, od2_NoGroups, .cls cd2_NoGroups, os_NoGroups⟩) (t_NoGroups : PySem.W.typeIn K (.ref C_NoGroups) = some (.type "type")) (s_NoGroups : PySem.W.subIn K (.ref C) (.ref C_NoGroups) = some false) (n_NoGroups : (Value.ref C == Value.ref C_NoGroups) = false)
    (g_NoHouse : PySem.W.nsIn K mainGlobals "NoHouse" = some (some (.ref C_NoHouse))) (h_NoHouse : K.lookup C_NoHouse = some ⟨oc_NoHouse, od2_NoHouse, .cls cd2_NoHouse, os_NoHouse⟩) (t_NoHouse : PySem.W.typeIn K (.ref C_NoHouse) = some (.type "type")) (s_NoHouse : PySem.W.subIn K (.ref C) (.ref C_NoHouse) = some false) (n_NoHouse : (Value.ref C == Value.ref C_NoHouse) = false)
    (g_NoLetter : PySem.W.nsIn K mainGlobals "NoLetter" = some (some (.ref C_NoLetter))) (h_NoLetter : K.lookup C_NoLetter = some ⟨oc_NoLetter, od2_NoLetter, .cls cd2_NoLetter, os_NoLetter⟩) (t_NoLetter : PySem.W.typeIn K (.ref C_NoLetter) = some (.type "type")) (s_NoLetter : PySem.W.subIn K (.ref C) (.ref C_NoLetter) = some false) (n_NoLetter : (Value.ref C == Value.ref C_NoLetter) = false)
    (g_NoMany : PySem.W.nsIn K mainGlobals "NoMany" = some (some (.ref C_NoMany))) (h_NoMany : K.lookup C_NoMany = some ⟨oc_NoMany, od2_NoMany, .cls cd2_NoMany, os_NoMany⟩) (t_NoMany : PySem.W.typeIn K (.ref C_NoMany) = some (.type "type")) (s_NoMany : PySem.W.subIn K (.ref C) (.ref C_NoMany) = some false) (n_NoMany : (Value.ref C == Value.ref C_NoMany) = false)
    (g_NoOrder : PySem.W.nsIn K mainGlobals "NoOrder" = some (some (.ref C_NoOrder))) (h_NoOrder : K.lookup C_NoOrder = some ⟨oc_NoOrder, od2_NoOrder, .cls cd2_NoOrder, os_NoOrder⟩) (t_NoOrder : PySem.W.typeIn K (.ref C_NoOrder) = some (.type "type")) (s_NoOrder : PySem.W.subIn K (.ref C) (.ref C_NoOrder) = some false) (n_NoOrder : (Value.ref C == Value.ref C_NoOrder) = false)
    (g_NoQuestion : PySem.W.nsIn K mainGlobals "NoQuestion" = some (some (.ref C_NoQuestion))) (h_NoQuestion : K.lookup C_NoQuestion = some ⟨oc_NoQuestion, od2_NoQuestion, .cls cd2_NoQuestion, os_NoQuestion⟩) (t_NoQuestion : PySem.W.typeIn K (.ref C_NoQuestion) = some (.type "type")) (s_NoQuestion : PySem.W.subIn K (.ref C) (.ref C_NoQuestion) = some false) (n_NoQuestion : (Value.ref C == Value.ref C_NoQuestion) = false)
    (g_NoRights : PySem.W.nsIn K mainGlobals "NoRights" = some (some (.ref C_NoRights))) (h_NoRights : K.lookup C_NoRights = some ⟨oc_NoRights, od2_NoRights, .cls cd2_NoRights, os_NoRights⟩) (t_NoRights : PySem.W.typeIn K (.ref C_NoRights) = some (.type "type")) (s_NoRights : PySem.W.subIn K (.ref C) (.ref C_NoRights) = some false) (n_NoRights : (Value.ref C == Value.ref C_NoRights) = false)
    (g_NoRow : PySem.W.nsIn K mainGlobals "NoRow" = some (some (.ref C_NoRow))) (h_NoRow : K.lookup C_NoRow = some ⟨oc_NoRow, od2_NoRow, .cls cd2_NoRow, os_NoRow⟩) (t_NoRow : PySem.W.typeIn K (.ref C_NoRow) = some (.type "type")) (s_NoRow : PySem.W.subIn K (.ref C) (.ref C_NoRow) = some false) (n_NoRow : (Value.ref C == Value.ref C_NoRow) = false)
    (g_NoRows : PySem.W.nsIn K mainGlobals "NoRows" = some (some (.ref C_NoRows))) (h_NoRows : K.lookup C_NoRows = some ⟨oc_NoRows, od2_NoRows, .cls cd2_NoRows, os_NoRows⟩) (t_NoRows : PySem.W.typeIn K (.ref C_NoRows) = some (.type "type")) (s_NoRows : PySem.W.subIn K (.ref C) (.ref C_NoRows) = some false) (n_NoRows : (Value.ref C == Value.ref C_NoRows) = false)
    (g_NoSign : PySem.W.nsIn K mainGlobals "NoSign" = some (some (.ref C_NoSign))) (h_NoSign : K.lookup C_NoSign = some ⟨oc_NoSign, od2_NoSign, .cls cd2_NoSign, os_NoSign⟩) (t_NoSign : PySem.W.typeIn K (.ref C_NoSign) = some (.type "type")) (s_NoSign : PySem.W.subIn K (.ref C) (.ref C_NoSign) = some false) (n_NoSign : (Value.ref C == Value.ref C_NoSign) = false)
    (g_NoTick : PySem.W.nsIn K mainGlobals "NoTick" = some (some (.ref C_NoTick))) (h_NoTick : K.lookup C_NoTick = some ⟨oc_NoTick, od2_NoTick, .cls cd2_NoTick, os_NoTick⟩) (t_NoTick : PySem.W.typeIn K (.ref C_NoTick) = some (.type "type")) (s_NoTick : PySem.W.subIn K (.ref C) (.ref C_NoTick) = some false) (n_NoTick : (Value.ref C == Value.ref C_NoTick) = false)
    (g_NoUsers : PySem.W.nsIn K mainGlobals "NoUsers" = some (some (.ref C_NoUsers))) (h_NoUsers : K.lookup C_NoUsers = some ⟨oc_NoUsers, od2_NoUsers, .cls cd2_NoUsers, os_NoUsers⟩) (t_NoUsers : PySem.W.typeIn K (.ref C_NoUsers) = some (.type "type")) (s_NoUsers : PySem.W.subIn K (.ref C) (.ref C_NoUsers) = some false) (n_NoUsers : (Value.ref C == Value.ref C_NoUsers) = false)
    (g_NoWord : PySem.W.nsIn K mainGlobals "NoWord" = some (some (.ref C_NoWord))) (h_NoWord : K.lookup C_NoWord = some ⟨oc_NoWord, od2_NoWord, .cls cd2_NoWord, os_NoWord⟩) (t_NoWord : PySem.W.typeIn K (.ref C_NoWord) = some (.type "type")) (s_NoWord : PySem.W.subIn K (.ref C) (.ref C_NoWord) = some false) (n_NoWord : (Value.ref C == Value.ref C_NoWord) = false)
    (g_Up : PySem.W.nsIn K mainGlobals "Up" = some (some (.ref C_Up))) (h_Up : K.lookup C_Up = some ⟨oc_Up, od2_Up, .cls cd2_Up, os_Up⟩) (t_Up : PySem.W.typeIn K (.ref C_Up) = some (.type "type")) (s_Up : PySem.W.subIn K (.ref C) (.ref C_Up) = some false) (n_Up : (Value.ref C == Value.ref C_Up) = false)
    (g_NoParts : PySem.W.nsIn K mainGlobals "NoParts" = some (some (.ref C_NoParts))) (h_NoParts : K.lookup C_NoParts = some ⟨oc_NoParts, od2_NoParts, .cls cd2_NoParts, os_NoParts⟩) (t_NoParts : PySem.W.typeIn K (.ref C_NoParts) = some (.type "type")) (s_NoParts : PySem.W.subIn K (.ref C) (.ref C_NoParts) = some false) (n_NoParts : (Value.ref C == Value.ref C_NoParts) = false)
    (g_NoPlace : PySem.W.nsIn K mainGlobals "NoPlace" = some (some (.ref C_NoPlace))) (h_NoPlace : K.lookup C_NoPlace = some ⟨oc_NoPlace, od2_NoPlace, .cls cd2_NoPlace, os_NoPlace⟩) (t_NoPlace : PySem.W.typeIn K (.ref C_NoPlace) = some (.type "type")) (s_NoPlace : PySem.W.subIn K (.ref C) (.ref C_NoPlace) = some false) (n_NoPlace : (Value.ref C == Value.ref C_NoPlace) = false)
    (g_FarError : PySem.W.nsIn K mainGlobals "FarError" = some (some (.ref C_FarError))) (h_FarError : K.lookup C_FarError = some ⟨oc_FarError, od2_FarError, .cls cd2_FarError, os_FarError⟩) (t_FarError : PySem.W.typeIn K (.ref C_FarError) = some (.type "type")) (s_FarError : PySem.W.subIn K (.ref C) (.ref C_FarError) = some true) (n_FarError : (Value.ref C == Value.ref C_FarError) = false) :
    ∃ fd : FuncData, (∀ (s : Shared) (v : Value), BindsTo s fd ⟨[v], []⟩ [("_law_script", v)]) ∧ ∀ base : Heap, K.In base → base.Ns mainGlobals mg → FnG l.prog w K mg base CX0 7 fa fd ["_law_script"] (spLaw K) := by
  have e := hfa.symm.trans (PySem.W.mg_of X G a_law)
  cases e
  let d_is_whole : Df K mg "is_whole" s_is_whole ["thing"] := ⟨f_is_whole, _, fun_mk (st := s_is_whole) l_is_whole c_is_whole k_is_whole, PySem.W.mg_of X G a_is_whole, (fun_mk (st := s_is_whole) l_is_whole c_is_whole k_is_whole).binds (ps := ["thing"]) fun _ _ _ _ _ _ us hl => match us, hl with | [_], _ => rfl⟩
  let d_is_parts : Df K mg "is_parts" s_is_parts ["thing"] := ⟨f_is_parts, _, fun_mk (st := s_is_parts) l_is_parts c_is_parts k_is_parts, PySem.W.mg_of X G a_is_parts, (fun_mk (st := s_is_parts) l_is_parts c_is_parts k_is_parts).binds (ps := ["thing"]) fun _ _ _ _ _ _ us hl => match us, hl with | [_], _ => rfl⟩
  let d_cells : Df K mg "cells" s_cells ["parts", "pieces"] := ⟨f_cells, _, fun_mk (st := s_cells) l_cells c_cells k_cells, PySem.W.mg_of X G a_cells, (fun_mk (st := s_cells) l_cells c_cells k_cells).binds (ps := ["parts", "pieces"]) fun _ _ _ _ _ _ us hl => match us, hl with | [_, _], _ => rfl⟩
  let d_gathered : Df K mg "gathered" s_gathered ["parts", "pieces"] := ⟨f_gathered, _, fun_mk (st := s_gathered) l_gathered c_gathered k_gathered, PySem.W.mg_of X G a_gathered, (fun_mk (st := s_gathered) l_gathered c_gathered k_gathered).binds (ps := ["parts", "pieces"]) fun _ _ _ _ _ _ us hl => match us, hl with | [_, _], _ => rfl⟩
  let d__is_part : Df K mg "_is_part" s__is_part ["thing"] := ⟨f__is_part, _, fun_mk (st := s__is_part) l__is_part c__is_part k__is_part, PySem.W.mg_of X G a__is_part, (fun_mk (st := s__is_part) l__is_part c__is_part k__is_part).binds (ps := ["thing"]) fun _ _ _ _ _ _ us hl => match us, hl with | [_], _ => rfl⟩
  let d__law_purse : Df K mg "_law_purse" s__law_purse ["_law_script", "_law_k"] := ⟨f__law_purse, _, fun_mk (st := s__law_purse) l__law_purse c__law_purse k__law_purse, PySem.W.mg_of X G a__law_purse, (fun_mk (st := s__law_purse) l__law_purse c__law_purse k__law_purse).binds (ps := ["_law_script", "_law_k"]) fun _ _ _ _ _ _ us hl => match us, hl with | [_, _], _ => rfl⟩
  let d__law_take : Df K mg "_law_take" s__law_take ["_law_purse_here", "_law_span"] := ⟨f__law_take, _, fun_mk (st := s__law_take) l__law_take c__law_take k__law_take, PySem.W.mg_of X G a__law_take, (fun_mk (st := s__law_take) l__law_take c__law_take k__law_take).binds (ps := ["_law_purse_here", "_law_span"]) fun _ _ _ _ _ _ us hl => match us, hl with | [_, _], _ => rfl⟩
  let d__law_sort : Df K mg "_law_sort" s__law_sort ["_law_e"] := ⟨f__law_sort, _, fun_mk (st := s__law_sort) l__law_sort c__law_sort k__law_sort, PySem.W.mg_of X G a__law_sort, (fun_mk (st := s__law_sort) l__law_sort c__law_sort k__law_sort).binds (ps := ["_law_e"]) fun _ _ _ _ _ _ us hl => match us, hl with | [_], _ => rfl⟩
  let d__law_parts : Df K mg "_law_parts" s__law_parts ["_law_purse_here", "_law_most"] := ⟨f__law_parts, _, fun_mk (st := s__law_parts) l__law_parts c__law_parts k__law_parts, PySem.W.mg_of X G a__law_parts, (fun_mk (st := s__law_parts) l__law_parts c__law_parts k__law_parts).binds (ps := ["_law_purse_here", "_law_most"]) fun _ _ _ _ _ _ us hl => match us, hl with | [_, _], _ => rfl⟩
  let d__law_store : Df K mg "_law_store" s__law_store ["_law_purse_here", "_law_lot"] := ⟨f__law_store, _, fun_mk (st := s__law_store) l__law_store c__law_store k__law_store, PySem.W.mg_of X G a__law_store, (fun_mk (st := s__law_store) l__law_store c__law_store k__law_store).binds (ps := ["_law_purse_here", "_law_lot"]) fun _ _ _ _ _ _ us hl => match us, hl with | [_, _], _ => rfl⟩
  let d__law_due : Df K mg "_law_due" s__law_due ["_law_lot", "_law_store_here"] := ⟨f__law_due, _, fun_mk (st := s__law_due) l__law_due c__law_due k__law_due, PySem.W.mg_of X G a__law_due, (fun_mk (st := s__law_due) l__law_due c__law_due k__law_due).binds (ps := ["_law_lot", "_law_store_here"]) fun _ _ _ _ _ _ us hl => match us, hl with | [_, _], _ => rfl⟩
  let d__law_asked : Df K mg "_law_asked" s__law_asked ["_law_lot", "_law_store_here"] := ⟨f__law_asked, _, fun_mk (st := s__law_asked) l__law_asked c__law_asked k__law_asked, PySem.W.mg_of X G a__law_asked, (fun_mk (st := s__law_asked) l__law_asked c__law_asked k__law_asked).binds (ps := ["_law_lot", "_law_store_here"]) fun _ _ _ _ _ _ us hl => match us, hl with | [_, _], _ => rfl⟩
  let d__law_turns : Df K mg "_law_turns" s__law_turns ["_law_store_here"] := ⟨f__law_turns, _, fun_mk (st := s__law_turns) l__law_turns c__law_turns k__law_turns, PySem.W.mg_of X G a__law_turns, (fun_mk (st := s__law_turns) l__law_turns c__law_turns k__law_turns).binds (ps := ["_law_store_here"]) fun _ _ _ _ _ _ us hl => match us, hl with | [_], _ => rfl⟩
  let d__law_right : Df K mg "_law_right" s__law_right ["_law_lot", "_law_store_here"] := ⟨f__law_right, _, fun_mk (st := s__law_right) l__law_right c__law_right k__law_right, PySem.W.mg_of X G a__law_right, (fun_mk (st := s__law_right) l__law_right c__law_right k__law_right).binds (ps := ["_law_lot", "_law_store_here"]) fun _ _ _ _ _ _ us hl => match us, hl with | [_, _], _ => rfl⟩
  let d__law_less : Df K mg "_law_less" s__law_less ["_law_purse_here", "_law_lot", "_law_store_here"] := ⟨f__law_less, _, fun_mk (st := s__law_less) l__law_less c__law_less k__law_less, PySem.W.mg_of X G a__law_less, (fun_mk (st := s__law_less) l__law_less c__law_less k__law_less).binds (ps := ["_law_purse_here", "_law_lot", "_law_store_here"]) fun _ _ _ _ _ _ us hl => match us, hl with | [_, _, _], _ => rfl⟩
  let d__law_long_right : Df K mg "_law_long_right" s__law_long_right [] := ⟨f__law_long_right, _, fun_mk (st := s__law_long_right) l__law_long_right c__law_long_right k__law_long_right, PySem.W.mg_of X G a__law_long_right, (fun_mk (st := s__law_long_right) l__law_long_right c__law_long_right k__law_long_right).binds (ps := []) fun _ _ _ _ _ _ us hl => match us, hl with | [], _ => rfl⟩
  let d_law : Df K mg "law" s_law ["_law_script"] := ⟨fa, _, fun_mk (st := s_law) l_law c_law k_law, PySem.W.mg_of X G a_law, (fun_mk (st := s_law) l_law c_law k_law).binds (ps := ["_law_script"]) fun _ _ _ _ _ _ us hl => match us, hl with | [_], _ => rfl⟩
  have T : Tx l.prog K mg ⟨C, fI, cc, cda⟩ ⟨C_Busy, C_Down, C_HouseError, C_IsGone, C_NoAsker, C_NoDeed, C_NoGroups, C_NoHouse, C_NoLetter, C_NoMany, C_NoOrder, C_NoQuestion, C_NoRights, C_NoRow, C_NoRows, C_NoSign, C_NoTick, C_NoUsers, C_NoWord, C_Up, C_NoParts, C_NoPlace, C, C_FarError⟩ := ⟨PySem.W.mg_none_of X G z_len, PySem.W.mg_none_of X G z_all, PySem.W.mg_none_of X G z_isinstance, PySem.W.mg_none_of X G z_repr, PySem.W.mg_none_of X G z_str, PySem.W.mg_none_of X G z_tuple, PySem.W.mg_none_of X G z_bool, PySem.W.mg_none_of X G z_int, PySem.W.mg_none_of X G z_list, PySem.W.mg_none_of X G z_max, PySem.W.mg_none_of X G z_min, PySem.W.mg_none_of X G z_range, PySem.W.mg_none_of X G z_sum, PySem.W.mg_none_of X G z_dict, PySem.W.mg_none_of X G z_LookupError, PySem.W.mg_none_of X G z_ValueError, R, kitc R x1 x2 x3 x4, kit_le x5, kit_ve R, kitto X G g_Busy n_Busy h_Busy t_Busy s_Busy, kitto X G g_Down n_Down h_Down t_Down s_Down, kitto X G g_HouseError n_HouseError h_HouseError t_HouseError s_HouseError, kitto X G g_IsGone n_IsGone h_IsGone t_IsGone s_IsGone, kitto X G g_NoAsker n_NoAsker h_NoAsker t_NoAsker s_NoAsker, kitto X G g_NoDeed n_NoDeed h_NoDeed t_NoDeed s_NoDeed, kitto X G g_NoGroups n_NoGroups h_NoGroups t_NoGroups s_NoGroups, kitto X G g_NoHouse n_NoHouse h_NoHouse t_NoHouse s_NoHouse, kitto X G g_NoLetter n_NoLetter h_NoLetter t_NoLetter s_NoLetter, kitto X G g_NoMany n_NoMany h_NoMany t_NoMany s_NoMany, kitto X G g_NoOrder n_NoOrder h_NoOrder t_NoOrder s_NoOrder, kitto X G g_NoQuestion n_NoQuestion h_NoQuestion t_NoQuestion s_NoQuestion, kitto X G g_NoRights n_NoRights h_NoRights t_NoRights s_NoRights, kitto X G g_NoRow n_NoRow h_NoRow t_NoRow s_NoRow, kitto X G g_NoRows n_NoRows h_NoRows t_NoRows s_NoRows, kitto X G g_NoSign n_NoSign h_NoSign t_NoSign s_NoSign, kitto X G g_NoTick n_NoTick h_NoTick t_NoTick s_NoTick, kitto X G g_NoUsers n_NoUsers h_NoUsers t_NoUsers s_NoUsers, kitto X G g_NoWord n_NoWord h_NoWord t_NoWord s_NoWord, kitto X G g_Up n_Up h_Up t_Up s_Up, kitto X G g_NoParts n_NoParts h_NoParts t_NoParts s_NoParts, kitto X G g_NoPlace n_NoPlace h_NoPlace t_NoPlace s_NoPlace, ⟨R.gC, kit_self u_self⟩, kitto X G g_FarError n_FarError h_FarError t_FarError s_FarError⟩
  refine ⟨d_law.fd, fun s v => .of_eq rfl, fun base _ _ => ?_⟩
  have G_take := ok_take (P := l.prog) (w := w) (base := base) T d__law_take
  have G_purse := ok_purse (P := l.prog) (w := w) (base := base) T d__law_purse
  have G_whole := ok_is_whole (P := l.prog) (w := w) (base := base) T d_is_whole
  have G_part := ok_is_part T d__is_part d_is_whole G_whole
  have G_parts := ok_is_parts T d_is_parts d__is_part G_part
  have G_gathered := ok_gathered (P := l.prog) (w := w) (base := base) T d_gathered
  have G_cells := ok_cells T d_cells d_is_parts d_gathered G_parts G_gathered
  have GX_cells := FB.FnOk.or (ok_cellsG T d_cells d_is_parts d_gathered G_parts G_gathered) (ok_cellsX T d_cells d_is_parts d_gathered G_parts G_gathered)
  have kb_cells : KBn K d_cells.fd ["parts", "pieces"] 0 ["pieces", "parts"] (fun _ ws => ws.reverse) (fun _ ws => ws.reverse) := kb_of d_cells (fun _ _ _ _ _ _ us ws h1 h2 => match us, ws, h1, h2 with | [], [_, _], _, _ => rfl) fun _ r2 => vals_rev r2
  have G_lparts := ok_parts T d__law_parts d__law_take G_take
  have G_sort := ok_sort (P := l.prog) (w := w) (base := base) T d__law_sort
  have G_due := ok_due (P := l.prog) (w := w) (base := base) T d__law_due
  have G_asked := ok_asked T d__law_asked d_cells d__law_sort GX_cells G_sort
  have G_turns := ok_turns (P := l.prog) (w := w) (base := base) T d__law_turns
  have G_right := ok_right T d__law_right d__law_due d__law_asked d__law_turns d_cells kb_cells G_due G_asked G_turns G_cells
  have G_store := ok_store T d__law_store d__law_take G_take
  have G_less := ok_less T d__law_less d__law_take G_take
  have G_long := ok_long T d__law_long_right d_cells G_cells
  exact ok_law T d_law d__law_purse d__law_take d__law_long_right d__law_parts d__law_store d__law_right d__law_less G_purse G_take G_long G_lparts G_store G_less G_right
end K09
open PySem PySem.W PyProof.Rows
set_option maxRecDepth 100000 in
set_option maxHeartbeats 8000000 in
theorem PySem.Challenge.cw_farfiles_k09_cells_of_parts_holds : PySem.Challenge.rw_farfiles_k09_cells_of_parts.Holds := by
  w_on; o_law; k_head; (case hw => w_witness2)
  k_fill
  refine FB.walk_g (l := PySem.Challenge.rw_farfiles_k09_cells_of_parts) (n := 63) (k := 7) (x := "_law_script") (sp := fun w => K09.spLaw _) rfl (by decide) rfl ⟨rfl, by decide, by decide⟩ (fun w h Y => PySem.W.kIn_of Y) ?F (fun _ _ a ns hl _ hS => ⟨a, ns, rfl, hS, hl, fun _ => rfl⟩)
  case F =>
    intro w mg fa h KX G hmg
    refine' (fun R1 => ?main) (FB.mk_ref (prog := PySem.Challenge.rw_farfiles_k09_cells_of_parts.prog) (nm := "NoPiece") (f := "piece") (msg := "the cells of this piece aren't there") KX G ?m1 ?m2 ?m3 ?m4 ?m5 ?m6 ?m7 ?m8 ?m9 ?n1 ?n2 ?n3 ?n4 ?n5 ?n6 ?n7 ?n8 ?n0 ?o1 ?o2 ?o3 ?o4 ?o5 ?o6 ?o7 ?o8 ?o9 ?r1 ?r2)
    case m1 => k_is
    case m2 => k_is
    case m3 => k_is
    case n1 => k_is
    case o8 => k_is
    case o3 => k_is
    case o2 => k_is
    case m4 => decide +kernel
    case m5 => ks_is
    case m6 => k_is
    case m7 => k_is
    case m8 => k_is
    case m9 => k_is
    case n2 => k_is
    case n3 => k_is
    case n4 => k_is
    case n5 => k_is
    case n6 => k_is
    case n7 => k_is
    case n8 => k_is
    case n0 => k_is
    case o1 => k_is
    case o4 => rfl
    case o5 => decide +kernel
    case o6 => decide +kernel
    case o7 => decide
    case o9 => k_is
    case r1 => rfl
    case r2 => exact fun s x v => .of_eq rfl
    case main =>
      refine' K09.all_mk KX G hmg ?a_is_whole ?l_is_whole ?c_is_whole ?k_is_whole ?a_is_parts ?l_is_parts ?c_is_parts ?k_is_parts ?a_cells ?l_cells ?c_cells ?k_cells ?a_gathered ?l_gathered ?c_gathered ?k_gathered ?a__is_part ?l__is_part ?c__is_part ?k__is_part ?a__law_purse ?l__law_purse ?c__law_purse ?k__law_purse ?a__law_take ?l__law_take ?c__law_take ?k__law_take ?a__law_sort ?l__law_sort ?c__law_sort ?k__law_sort ?a__law_parts ?l__law_parts ?c__law_parts ?k__law_parts ?a__law_store ?l__law_store ?c__law_store ?k__law_store ?a__law_due ?l__law_due ?c__law_due ?k__law_due ?a__law_asked ?l__law_asked ?c__law_asked ?k__law_asked ?a__law_turns ?l__law_turns ?c__law_turns ?k__law_turns ?a__law_right ?l__law_right ?c__law_right ?k__law_right ?a__law_less ?l__law_less ?c__law_less ?k__law_less ?a__law_long_right ?l__law_long_right ?c__law_long_right ?k__law_long_right ?a_law ?l_law ?c_law ?k_law ?z_len ?z_all ?z_isinstance ?z_repr ?z_str ?z_tuple ?z_bool ?z_int ?z_list ?z_max ?z_min ?z_range ?z_sum ?z_dict ?z_LookupError ?z_ValueError ?R ?u_self ?x1 ?x2 ?x3 ?x4 ?x5 ?g_Busy ?h_Busy ?t_Busy ?s_Busy ?n_Busy ?g_Down ?h_Down ?t_Down ?s_Down ?n_Down ?g_HouseError ?h_HouseError ?t_HouseError ?s_HouseError ?n_HouseError ?g_IsGone ?h_IsGone ?t_IsGone ?s_IsGone ?n_IsGone ?g_NoAsker ?h_NoAsker ?t_NoAsker ?s_NoAsker ?n_NoAsker ?g_NoDeed ?h_NoDeed ?t_NoDeed ?s_NoDeed ?n_NoDeed ?g_NoGroups ?h_NoGroups ?t_NoGroups ?s_NoGroups ?n_NoGroups ?g_NoHouse ?h_NoHouse ?t_NoHouse ?s_NoHouse ?n_NoHouse ?g_NoLetter ?h_NoLetter ?t_NoLetter ?s_NoLetter ?n_NoLetter ?g_NoMany ?h_NoMany ?t_NoMany ?s_NoMany ?n_NoMany ?g_NoOrder ?h_NoOrder ?t_NoOrder ?s_NoOrder ?n_NoOrder ?g_NoQuestion ?h_NoQuestion ?t_NoQuestion ?s_NoQuestion ?n_NoQuestion ?g_NoRights ?h_NoRights ?t_NoRights ?s_NoRights ?n_NoRights ?g_NoRow ?h_NoRow ?t_NoRow ?s_NoRow ?n_NoRow ?g_NoRows ?h_NoRows ?t_NoRows ?s_NoRows ?n_NoRows ?g_NoSign ?h_NoSign ?t_NoSign ?s_NoSign ?n_NoSign ?g_NoTick ?h_NoTick ?t_NoTick ?s_NoTick ?n_NoTick ?g_NoUsers ?h_NoUsers ?t_NoUsers ?s_NoUsers ?n_NoUsers ?g_NoWord ?h_NoWord ?t_NoWord ?s_NoWord ?n_NoWord ?g_Up ?h_Up ?t_Up ?s_Up ?n_Up ?g_NoParts ?h_NoParts ?t_NoParts ?s_NoParts ?n_NoParts ?g_NoPlace ?h_NoPlace ?t_NoPlace ?s_NoPlace ?n_NoPlace ?g_FarError ?h_FarError ?t_FarError ?s_FarError ?n_FarError
      case a_is_whole => k_is
      case l_is_whole => k_is
      case c_is_whole => k_is
      case k_is_whole => k_is
      case a_is_parts => k_is
      case l_is_parts => k_is
      case c_is_parts => k_is
      case k_is_parts => k_is
      case a_cells => k_is
      case l_cells => k_is
      case c_cells => k_is
      case k_cells => k_is
      case a_gathered => k_is
      case l_gathered => k_is
      case c_gathered => k_is
      case k_gathered => k_is
      case a__is_part => k_is
      case l__is_part => k_is
      case c__is_part => k_is
      case k__is_part => k_is
      case a__law_purse => k_is
      case l__law_purse => k_is
      case c__law_purse => k_is
      case k__law_purse => k_is
      case a__law_take => k_is
      case l__law_take => k_is
      case c__law_take => k_is
      case k__law_take => k_is
      case a__law_sort => k_is
      case l__law_sort => k_is
      case c__law_sort => k_is
      case k__law_sort => k_is
      case a__law_parts => k_is
      case l__law_parts => k_is
      case c__law_parts => k_is
      case k__law_parts => k_is
      case a__law_store => k_is
      case l__law_store => k_is
      case c__law_store => k_is
      case k__law_store => k_is
      case a__law_due => k_is
      case l__law_due => k_is
      case c__law_due => k_is
      case k__law_due => k_is
      case a__law_asked => k_is
      case l__law_asked => k_is
      case c__law_asked => k_is
      case k__law_asked => k_is
      case a__law_turns => k_is
      case l__law_turns => k_is
      case c__law_turns => k_is
      case k__law_turns => k_is
      case a__law_right => k_is
      case l__law_right => k_is
      case c__law_right => k_is
      case k__law_right => k_is
      case a__law_less => k_is
      case l__law_less => k_is
      case c__law_less => k_is
      case k__law_less => k_is
      case a__law_long_right => k_is
      case l__law_long_right => k_is
      case c__law_long_right => k_is
      case k__law_long_right => k_is
      case a_law => k_is
      case l_law => k_is
      case c_law => k_is
      case k_law => k_is
      case z_len => k_is
      case z_all => k_is
      case z_isinstance => k_is
      case z_repr => k_is
      case z_str => k_is
      case z_tuple => k_is
      case z_bool => k_is
      case z_int => k_is
      case z_list => k_is
      case z_max => k_is
      case z_min => k_is
      case z_range => k_is
      case z_sum => k_is
      case z_dict => k_is
      case z_LookupError => k_is
      case z_ValueError => k_is
      case R => exact R1
      case u_self => decide +kernel
      case x1 => k_is
      case x2 => k_is
      case x3 => k_is
      case x4 => k_is
      case x5 => k_is
      case g_Busy => k_is
      case h_Busy => k_is
      case t_Busy => k_is
      case s_Busy => k_is
      case n_Busy => decide +kernel
      case g_Down => k_is
      case h_Down => k_is
      case t_Down => k_is
      case s_Down => k_is
      case n_Down => decide +kernel
      case g_HouseError => k_is
      case h_HouseError => k_is
      case t_HouseError => k_is
      case s_HouseError => k_is
      case n_HouseError => decide +kernel
      case g_IsGone => k_is
      case h_IsGone => k_is
      case t_IsGone => k_is
      case s_IsGone => k_is
      case n_IsGone => decide +kernel
      case g_NoAsker => k_is
      case h_NoAsker => k_is
      case t_NoAsker => k_is
      case s_NoAsker => k_is
      case n_NoAsker => decide +kernel
      case g_NoDeed => k_is
      case h_NoDeed => k_is
      case t_NoDeed => k_is
      case s_NoDeed => k_is
      case n_NoDeed => decide +kernel
      case g_NoGroups => k_is
      case h_NoGroups => k_is
      case t_NoGroups => k_is
      case s_NoGroups => k_is
      case n_NoGroups => decide +kernel
      case g_NoHouse => k_is
      case h_NoHouse => k_is
      case t_NoHouse => k_is
      case s_NoHouse => k_is
      case n_NoHouse => decide +kernel
      case g_NoLetter => k_is
      case h_NoLetter => k_is
      case t_NoLetter => k_is
      case s_NoLetter => k_is
      case n_NoLetter => decide +kernel
      case g_NoMany => k_is
      case h_NoMany => k_is
      case t_NoMany => k_is
      case s_NoMany => k_is
      case n_NoMany => decide +kernel
      case g_NoOrder => k_is
      case h_NoOrder => k_is
      case t_NoOrder => k_is
      case s_NoOrder => k_is
      case n_NoOrder => decide +kernel
      case g_NoQuestion => k_is
      case h_NoQuestion => k_is
      case t_NoQuestion => k_is
      case s_NoQuestion => k_is
      case n_NoQuestion => decide +kernel
      case g_NoRights => k_is
      case h_NoRights => k_is
      case t_NoRights => k_is
      case s_NoRights => k_is
      case n_NoRights => decide +kernel
      case g_NoRow => k_is
      case h_NoRow => k_is
      case t_NoRow => k_is
      case s_NoRow => k_is
      case n_NoRow => decide +kernel
      case g_NoRows => k_is
      case h_NoRows => k_is
      case t_NoRows => k_is
      case s_NoRows => k_is
      case n_NoRows => decide +kernel
      case g_NoSign => k_is
      case h_NoSign => k_is
      case t_NoSign => k_is
      case s_NoSign => k_is
      case n_NoSign => decide +kernel
      case g_NoTick => k_is
      case h_NoTick => k_is
      case t_NoTick => k_is
      case s_NoTick => k_is
      case n_NoTick => decide +kernel
      case g_NoUsers => k_is
      case h_NoUsers => k_is
      case t_NoUsers => k_is
      case s_NoUsers => k_is
      case n_NoUsers => decide +kernel
      case g_NoWord => k_is
      case h_NoWord => k_is
      case t_NoWord => k_is
      case s_NoWord => k_is
      case n_NoWord => decide +kernel
      case g_Up => k_is
      case h_Up => k_is
      case t_Up => k_is
      case s_Up => k_is
      case n_Up => decide +kernel
      case g_NoParts => k_is
      case h_NoParts => k_is
      case t_NoParts => k_is
      case s_NoParts => k_is
      case n_NoParts => decide +kernel
      case g_NoPlace => k_is
      case h_NoPlace => k_is
      case t_NoPlace => k_is
      case s_NoPlace => k_is
      case n_NoPlace => decide +kernel
      case g_FarError => k_is
      case h_FarError => k_is
      case t_FarError => k_is
      case s_FarError => k_is
      case n_FarError => decide +kernel

