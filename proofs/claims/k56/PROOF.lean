import PyProof.Rows.All
import Wide.All
import OpenK.AllK
import Wide.FinOn
import HandS.ForMost
import HandS.IsInst
import HandS.TupAny
import HandS.TupMul
import HandS.Wide
import PyProof.ReprRoads
import KE.GoesEnum
import PyProof.EqKinds
import HandS.FStrTup
import PyProof.FitsInt
import HandS.Walk
import PyProof.NeKinds
import HandS.ListItems
import KE.KItemsList
import PyProof.ZipIter
import KE.KDictPairs
import HandS.Style
import HandS.Sort
import HandS.SortRule
import HandS.Deep
import HandS.SortInts
import HandS.More
import HandS.DictComp
import HandS.Dict
import PyProof.Rows.SortKeyStr
import PyProof.P3In
import KE.KDictZip
import HandS.DictTup
import HandS.Conv
import HandS.Small
import KE.SortData
import KE.DatumOrd
import HandS.Iter
import KE.KDictList
import HandS.Comp
import HandS.Exc
import HandS.ExcIs
import HandS.ExcOwn
import HandS.WordsExc
import HandS.Flow
import HandS.WordsDict
import HandS.DeepEq
import HandS.Zip
import PySem.Challenge.RW_heldapart_k56_whole_long_arrows_opened
set_option Elab.async false
set_option linter.all false
set_option maxRecDepth 100000
set_option maxHeartbeats 4000000
/-! Calls that carry the word «no repr is under way», so that repr of data is known. -/
namespace L2.Hx
open PySem PySem.Spec PyProof.Rows

/-- FnOk, for callers around whom no guard stands -/
structure FnG (P : Program) (w : World) (K : PySem.W.Frag) (mg : Str → Option Value) (base : Heap) (CX : CXT) (k : Nat) (f : Addr) (fd : FuncData) (ps : List Str) (sp : Sp) : Prop where
  ln : ∀ vs H Q E, sp vs H Q E → vs.length = ps.length
  go : ∀ (A : Around) (outer : List Env) (s : Shared) (H : Hp) (args : Args) (us : List Value) (vs : List V) (Q : VK) (E : XK), A.guards = some [] → Room k A → Env0 P w K mg base A outer s H →
    BindsTo s fd args (ps.zip us) → Vals vs us → sp vs H Q E → codeAny (model P w) A (.call (.ref f) args) (CR CX outer P w H s Q E) s

section
variable {P : Program} {w : World} {K : PySem.W.Frag} {mg : Str → Option Value} {base : Heap} {CX : CXT} {f : Addr} {fd : FuncData} {ps : List Str} {sp : Sp} {k : Nat}
theorem FnG.ofOk (F : FnOk P w K mg base CX k f fd ps sp) : FnG P w K mg base CX k f fd ps sp :=
  ⟨F.len, fun A outer s H args us vs Q E _ hr e b r h => F.run A outer s H args us vs Q E hr e b r h⟩
theorem FnG.mono {j : Nat} (F : FnG P w K mg base CX j f fd ps sp) (h : j ≤ k) : FnG P w K mg base CX k f fd ps sp :=
  ⟨F.ln, fun A outer s H args us vs Q E hg hr => F.go A outer s H args us vs Q E hg (hr.mono h)⟩
theorem FnG.imp {sp' : Sp} (F : FnG P w K mg base CX k f fd ps sp) (h : ∀ vs H Q E, sp' vs H Q E → sp vs H Q E) : FnG P w K mg base CX k f fd ps sp' :=
  ⟨fun vs H Q E q => F.ln vs H Q E (h _ _ _ _ q), fun A outer s H args us vs Q E hg hr e b r q => F.go A outer s H args us vs Q E hg hr e b r (h _ _ _ _ q)⟩
/-- a def by its body -/
theorem fng_of {name qual : Str} {params : Arguments} {body : List Stmt} {scope : Scope} {dV kV doc pm cdv ct oc : Value} {an od : Option Addr} {osl : Array (Option Value)} {N : List Str}
    (lk : K.lookup f = some ⟨oc, od, .func (PySem.W.fnOf name qual params body scope dV kV doc pm an cdv ct), osl⟩) (hcd : PySem.W.codeIn K cdv qual = true) (S : FnScope N ps scope)
    (hn : ∀ vs H Q E, sp vs H Q E → vs.length = ps.length)
    (hbody : ∀ (A : Around) (outer : List Env) (s : Shared) (H : Hp) (vs : List V) (Q : VK) (E : XK), A.guards = some [] → Room k (A.deeper (envOfC qual scope s.heap.objs.size f cdv)) → sp vs H Q E →
      ∃ t, PSs (cxOf CX P w K mg base N qual scope f cdv A outer s H E) body t ∧ t { nx := fun _ H' => Q .non H', rt := Q } (start N vs) H) :
    FnG P w K mg base CX (k + 1) f (PySem.W.fnOf name qual params body scope dV kV doc pm an cdv ct) ps sp := by
  refine ⟨hn, fun A outer s H args us vs Q E hgd hr en hbd rv hsp => ?_⟩
  have hlen := hn _ _ _ _ hsp
  have kin : K.In s.heap := en.mod.kin.keeps fun b o q => (en.bs b o q).1
  have nol : s.heap.NoLimit := en.mod.nolimit.keeps fun b o q => (en.bs b o q).1
  have kinds : ∀ y ∈ ps.zip us, scope.names.lookup y.1 = some .local ∨ (scope.names.lookup y.1 = some .cell ∧ ((cellsFrom (s.heap.objs.size + 1) scope.names []).lookup y.1).isSome = true) := fun ⟨n, v⟩ hy =>
    (S.par n (List.of_mem_zip hy).1).elim (fun z => .inl z) fun z => .inr ⟨z, PySem.W.cellsFrom_some _ _ _ (.inl z)⟩
  refine codeAny_call_function hr.depth (kin _ _ lk) rfl S.co S.gen rfl (PySem.W.codeRec_of kin hcd) (hbd _ _ _ _ ?_)
  refine wpAny_newFunctionEnv_cells S.kind kinds fun env he s1 x => ?_
  subst he
  refine ⟨nol.keeps x.toInCall.keep, codeAny_func ?_⟩
  obtain ⟨t, ht, hq⟩ := hbody A outer s H vs Q E hgd (hr.deeper _) hsp
  have J0 := inv_start (CX := CX) (P := P) (w := w) (K := K) (mg := mg) (base := base) (E := E) S hr.hd en hlen rv x
  refine wpAny_mono (ht.run [] s1 (start N vs) H _ J0 hq) (fun fl s2 hs => ?_) fun e s2 hs => hs
  cases fl with
  | ret u => obtain ⟨v, σ', H', J, r, q⟩ := hs; exact ⟨v, H', J.os, J.bare, J.base, J.hok, r, q⟩
  | next => obtain ⟨σ', H', J, q⟩ := hs; exact ⟨V.non, H', J.os, J.bare, J.base, J.hok, rfl, q⟩
  | brk => obtain ⟨_, _, _, q⟩ := hs; exact q.elim
  | cont => obtain ⟨_, _, _, q⟩ := hs; exact q.elim
/-- a def of the text that lets nothing out -/
theorem okG {x qual : Str} {st : Stmt} {N : List Str} (F : Fun K x qual st f fd) (S : FnScope N ps (defScope st)) (hn : ∀ vs H Q E, sp vs H Q E → vs.length = ps.length)
    (hbody : ∀ (cdv : Value) (A : Around) (outer : List Env) (s : Shared) (H : Hp) (vs : List V) (Q : VK) (E : XK), (A.deeper (envOfC qual (defScope st) s.heap.objs.size f cdv)).guards = some [] → Room k (A.deeper (envOfC qual (defScope st) s.heap.objs.size f cdv)) → sp vs H Q E →
      ∃ t, PSs (cxOf CX0 P w K mg base N qual (defScope st) f cdv A outer s H E).nox (defBody st) t ∧ t { nx := fun _ H' => Q .non H', rt := Q } (start N vs) H) :
    FnG P w K mg base CX0 (k + 1) f fd ps sp := by
  obtain ⟨oc, od, kV, doc, pm, an, cdv, ct, osl, rfl, lk, hcd⟩ := F.ex
  refine fng_of lk hcd S hn fun A outer s H vs Q E hgd hr hsp => ?_
  obtain ⟨t, h, q⟩ := hbody cdv A outer s H vs Q E hgd hr hsp
  exact ⟨t, h.nox, q⟩
end

section
variable {X : Cx} {CX : CXT} {k : Nat} {f : Addr} {fd : FuncData} {ps ks : List Str} {sp : Sp} {dvs : List V} {ds : List Value} {E : XK} {x : Str} {p pos : Pos} {e : Expr} {es : List Expr} {kws : List Keyword} {t tk : TA}
/-- the callee runs -/
theorem run_g {pins : List (Addr × Obj)} {σ : St} {H : Hp} {s : Shared} {Q : VK} {us : List Value} {vs : List V} (F : FnG X.prog X.w X.K X.mg X.base CX k f fd ps sp) (hgd : X.A.guards = some []) (hr : Room k X.A) (hb : Binds X.K fd ps ds) (hd : Vals dvs ds) (hx : Passes CX X E)
    (I : Inv X pins σ H s) (r : Vals vs us) (h : sp (vs ++ dvs) H Q E) : wpAny (model X.prog X.w) X.A (call (.ref f) us) (EP X pins σ Q) X.xe s := by
  have rd : Vals (vs ++ dvs) (us ++ ds) := r.append hd
  have hlen : (us ++ ds).length = ps.length := rd.length.symm.trans (F.ln _ _ _ _ h)
  refine wpAny_call (codeAny_mono (F.go X.A X.stack s H ⟨us, []⟩ (us ++ ds) (vs ++ dvs) Q E hgd hr I.env0 (hb s us I.kIn hlen) rd h) fun z s2 hq => ?_)
  cases z with
  | error er => exact hx pins σ H s er s2 I hq
  | ok fl =>
    cases fl with
    | ret u => exact I.after hq
    | next => exact hq.elim
    | brk => exact hq.elim
    | cont => exact hq.elim
theorem pe_g (F : FnG X.prog X.w X.K X.mg X.base CX k f fd ps sp) (hgd : X.A.guards = some []) (hr : Room k X.A) (hg : Gl X x) (hm : X.mg x = some (.ref f)) (hk : PySem.W.keepIn X.K (.ref f) = true) (hb : Binds X.K fd ps ds) (hd : Vals dvs ds) (hx : Passes CX X E)
    (ha : PA X (e :: es) t) (hdb : (x == ("__debug__" : Str)) = false := by decide) (he : starEach (e :: es) X.env = (false, eval e X.env) :: starEach es X.env := by rfl) (hpl : (backTo pos (starEach es X.env)).any (·.1) = false := by rfl) :
    PE X (.Call (.Name x p) (e :: es) [] pos) (tCall sp dvs E t) := ⟨fun pins s σ H Q I h =>
  wpAny_Call_Name_kw (ld_glob I hg hm (PySem.W.callWith_K (h₀ := X.base) I.ok.mod.kin hk (thn (ha.run pos pins s σ H _ I h) fun us s1 ⟨vs, H1, I1, r, q⟩ => ⟨I1.kIn, run_g F hgd hr hb hd hx I1 r q⟩) he hpl) hdb)⟩
theorem pe_g0 (F : FnG X.prog X.w X.K X.mg X.base CX k f fd ps sp) (hgd : X.A.guards = some []) (hr : Room k X.A) (hg : Gl X x) (hm : X.mg x = some (.ref f)) (hk : PySem.W.keepIn X.K (.ref f) = true) (hb : Binds X.K fd ps ds) (hd : Vals dvs ds) (hx : Passes CX X E)
    (hdb : (x == ("__debug__" : Str)) = false := by decide) : PE X (.Call (.Name x p) [] [] pos) (tCall sp dvs E tNil) := ⟨fun pins s σ H Q I h =>
  wpAny_Call_Name_kw (ld_glob I hg hm (PySem.W.callWith_K0 I.kIn hk (run_g (us := []) F hgd hr hb hd hx I .nil h)) hdb)⟩
/-- f(k = v, ..) by names alone: hb puts the values in the parameters' order -/
def KwBinds (K : PySem.W.Frag) (fd : FuncData) (ps ks : List Str) (g : {α : Type} → List α → List α) : Prop :=
  ∀ (s : Shared) (ws : List Value), K.In s.heap → ws.length = ps.length → BindsTo s fd ⟨[], ks.zip ws⟩ (ps.zip (g ws))
def tKw (sp : Sp) (g : {α : Type} → List α → List α) (n : Nat) (E : XK) (tk : TA) : TE := fun σ H Q => tk σ H fun zs H2 => zs.length = n ∧ sp (g zs) H2 Q E
theorem pe_kw {g : {α : Type} → List α → List α} (F : FnG X.prog X.w X.K X.mg X.base CX k f fd ps sp) (hgd : X.A.guards = some []) (hr : Room k X.A) (hg : Gl X x) (hm : X.mg x = some (.ref f)) (hk : PySem.W.keepIn X.K (.ref f) = true) (hb : KwBinds X.K fd ps ks g) (hx : Passes CX X E)
    (hkw : PK X kws tk) (hrel : ∀ {zs : List V} {ws : List Value}, Vals zs ws → Vals (g zs) (g ws)) (hall : (backToKw pos (keywordEach kws X.env)).all (·.1.isSome) = true := by rfl) (hks : (backToKw pos (keywordEach kws X.env)).filterMap (·.1) = ks := by rfl) (hdb : (x == ("__debug__" : Str)) = false := by decide)
    (hpl : ((backTo pos (starEach [] X.env)).any (·.1) || (backToKw pos (keywordEach kws X.env)).any (·.1.isNone)) = false := by rfl) :
    PE X (.Call (.Name x p) [] kws pos) (tKw sp g ps.length E tk) := by
  refine ⟨fun pins s σ H Q I h => wpAny_Call_Name_kw (ld_glob I hg hm ?_ hdb)⟩
  refine PySem.W.callWith_KW0 (h₀ := X.base) I.ok.mod.kin hk hall ?_ hpl
  refine thn (hkw.run pos pins s σ H _ I h) fun ws s2 ⟨zs, H2, I2, rz, hz, q2⟩ => ⟨I2.kIn, ?_⟩
  rw [hks]
  have rg := hrel rz
  refine wpAny_call (codeAny_mono (F.go X.A X.stack s2 H2 ⟨[], ks.zip ws⟩ (g ws) (g zs) Q E hgd hr I2.env0 (hb s2 ws I2.kIn (rz.length.symm.trans hz)) rg q2) fun z s3 hq => ?_)
  cases z with
  | error er => exact hx pins σ H2 s2 er s3 I2 hq
  | ok fl =>
    cases fl with
    | ret u => exact I2.after hq
    | next => exact hq.elim
    | brk => exact hq.elim
    | cont => exact hq.elim
end
end L2.Hx

/-! Data of any depth, dicts too, over a part G of the tracked heap; repr of data. -/
namespace L2.Hx
open PySem PySem.Spec PyProof.Rows

def keyD : Key → PyData
  | .inl i => .int i
  | .inr x => .str x
mutual
inductive Da (K : PySem.W.Frag) (G : Hp) : V → PyData → Prop
  | non : Da K G .non .none
  | bl (b : Bool) : Da K G (.bl b) (.bool b)
  | int (i : Int) : Da K G (.int i) (.int i)
  | str (x : Str) : Da K G (.str x) (.str x)
  | lst {a : Addr} {xs : List V} {ds : List PyData} : G a = some (.lst xs) → DaAll K G xs ds → Da K G (.ref a) (.list ds)
  | tup {a : Addr} {xs : List V} {ds : List PyData} : SqT K G a xs → DaAll K G xs ds → Da K G (.ref a) (.tuple ds)
  | dct {a : Addr} {kvs : List (Key × V)} {ds : List PyData} : G a = some (.dK kvs) → DaAll K G (kvs.map (·.2)) ds → Da K G (.ref a) (.dict ((kvs.map fun p => keyD p.1).zip ds))
inductive DaAll (K : PySem.W.Frag) (G : Hp) : List V → List PyData → Prop
  | nil : DaAll K G [] []
  | cons {v : V} {vs : List V} {d : PyData} {ds : List PyData} : Da K G v d → DaAll K G vs ds → DaAll K G (v :: vs) (d :: ds)
end
section
variable {K : PySem.W.Frag} {G G' : Hp}
theorem DaAll.length : ∀ {vs : List V} {ds : List PyData}, DaAll K G vs ds → vs.length = ds.length
  | _, _, .nil => rfl
  | _, _, .cons _ t => by rw [List.length_cons, List.length_cons, DaAll.length t]
theorem sameT {a : Addr} {xs : List V} (e : Same G G') (h : SqT K G a xs) : SqT K G' a xs := by
  rcases h with (q | ⟨o, q⟩) | q
  · exact .inl (.inl (e _ _ q))
  · exact .inl (.inr ⟨o, e _ _ q⟩)
  · exact .inr q
mutual
theorem Da.mono (e : Same G G') : ∀ {v : V} {d : PyData}, Da K G v d → Da K G' v d
  | _, _, .non => .non
  | _, _, .bl b => .bl b
  | _, _, .int i => .int i
  | _, _, .str x => .str x
  | _, _, .lst h t => .lst (e _ _ h) (DaAll.mono e t)
  | _, _, .tup h t => .tup (sameT e h) (DaAll.mono e t)
  | _, _, .dct h t => .dct (e _ _ h) (DaAll.mono e t)
theorem DaAll.mono (e : Same G G') : ∀ {vs : List V} {ds : List PyData}, DaAll K G vs ds → DaAll K G' vs ds
  | _, _, .nil => .nil
  | _, _, .cons h t => .cons (Da.mono e h) (DaAll.mono e t)
end
theorem DaAll.append : ∀ {vs ws : List V} {ds es : List PyData}, DaAll K G vs ds → DaAll K G ws es → DaAll K G (vs ++ ws) (ds ++ es)
  | _, _, _, _, .nil, s => s
  | _, _, _, _, .cons h t, s => .cons h (DaAll.append t s)
theorem DaAll.get : ∀ {vs : List V} {ds : List PyData} {i : Nat} {v : V}, DaAll K G vs ds → vs[i]? = some v → ∃ d, ds[i]? = some d ∧ Da K G v d
  | _, _, 0, _, .cons h t, e => by
    rw [List.getElem?_cons_zero] at e
    cases e
    exact ⟨_, rfl, h⟩
  | _, _, i + 1, v, .cons h t, e => by
    rw [List.getElem?_cons_succ] at e ⊢
    exact DaAll.get t e
theorem DaAll.mem {vs : List V} {ds : List PyData} {v : V} (h : DaAll K G vs ds) (m : v ∈ vs) : ∃ d, d ∈ ds ∧ Da K G v d := by
  obtain ⟨i, e⟩ := List.mem_iff_getElem?.mp m
  obtain ⟨d, e2, q⟩ := h.get e
  exact ⟨d, List.mem_of_getElem? e2, q⟩
theorem DaAll.take : ∀ {vs : List V} {ds : List PyData} (n : Nat), DaAll K G vs ds → DaAll K G (vs.take n) (ds.take n)
  | _, _, 0, _ => .nil
  | _, _, _ + 1, .nil => .nil
  | _, _, n + 1, .cons h t => .cons h (DaAll.take n t)
theorem DaAll.drop : ∀ {vs : List V} {ds : List PyData} (n : Nat), DaAll K G vs ds → DaAll K G (vs.drop n) (ds.drop n)
  | _, _, 0, h => h
  | _, _, _ + 1, .nil => .nil
  | _, _, n + 1, .cons _ t => DaAll.drop n t
theorem DaAll.rep {v : V} {d : PyData} (h : Da K G v d) : ∀ n : Nat, DaAll K G (List.replicate n v) (List.replicate n d)
  | 0 => .nil
  | n + 1 => .cons h (DaAll.rep h n)
theorem DaAll.set {v : V} {d : PyData} (h : Da K G v d) : ∀ {vs : List V} {ds : List PyData} (i : Nat), DaAll K G vs ds → DaAll K G (vs.set i v) (ds.set i d)
  | _, _, _, .nil => .nil
  | _, _, 0, .cons _ t => .cons h t
  | _, _, i + 1, .cons q t => .cons q (DaAll.set h i t)
theorem DaAll.flat {vs : List V} {ds : List PyData} (h : DaAll K G vs ds) : ∀ n : Nat, DaAll K G (List.replicate n vs).flatten (List.replicate n ds).flatten
  | 0 => .nil
  | n + 1 => by
    rw [List.replicate_succ, List.replicate_succ, List.flatten_cons, List.flatten_cons]
    exact h.append (DaAll.flat h n)
end

theorem pairs_keys {P : Program} {w : World} : ∀ {es : List DictEntry} {kvs : List (Key × V)} {vs : List (Key × Value)}, KV kvs vs → Pairs (mixKind P w) es vs →
    Vals (kvs.map fun p => kV p.1) (es.map (·.key)) ∧ Vals (kvs.map (·.2)) (es.map (·.val))
  | _, _, _, .nil, .nil => ⟨.nil, .nil⟩
  | e :: es, (k, v) :: kvs, (k', u) :: vs, .cons ⟨r1, r2⟩ t, .cons h1 h2 h3 => by
    obtain ⟨a, b⟩ := pairs_keys t h3
    refine ⟨.cons ?_ a, .cons ?_ b⟩
    · have r1 : k = k' := r1
      have h1 : keyIs k' e.key = true := h1
      subst r1
      rcases keyIs_shape h1 with ⟨i, tk, rfl, q⟩ | ⟨x, tk, rfl, q⟩
      · exact ⟨tk, q⟩
      · exact ⟨tk, q⟩
    · show RelV v e.val
      rw [h2]
      exact r2
theorem keyD_da {K : PySem.W.Frag} {G : Hp} : ∀ (ks : List Key), DaAll K G (ks.map kV) (ks.map keyD)
  | [] => .nil
  | .inl i :: r => .cons (.int i) (keyD_da r)
  | .inr x :: r => .cons (.str x) (keyD_da r)

section
variable {X : Cx} {pins : List (Addr × Obj)} {σ : St} {H G : Hp} {s : Shared}
theorem zip_fst : ∀ {as bs : List PyData}, as.length = bs.length → (as.zip bs).map (·.1) = as
  | [], _, _ => by simp
  | a :: as, b :: bs, h => by
    rw [List.zip_cons_cons, List.map_cons, zip_fst (by simpa using h)]
theorem zip_snd : ∀ {as bs : List PyData}, as.length = bs.length → (as.zip bs).map (·.2) = bs
  | [], [], _ => rfl
  | [], _ :: _, h => by simp at h
  | a :: as, [], h => by simp at h
  | a :: as, b :: bs, h => by
    rw [List.zip_cons_cons, List.map_cons, zip_snd (by simpa using h)]
/-- what stands at a dict's address -/
theorem dict_at {a : Addr} {kvs : List (Key × V)} (I : Inv X pins σ H s) (h : H a = some (.dK kvs)) : ∃ o es n, s.heap.get? a = some o ∧ o.cls = .type "dict" ∧ o.data = .dict es n ∧ (a == sysModules) = false ∧
    Vals (kvs.map fun p => kV p.1) (es.toList.map (·.key)) ∧ Vals (kvs.map (·.2)) (es.toList.map (·.val)) := by
  obtain ⟨_, hs, vs, r, o, es, ep, h1, h2, h3, _, h5, _⟩ := (show ObjOk X.prog X.w H s.heap a (.dK kvs) from I.hok a _ h)
  obtain ⟨q1, q2⟩ := pairs_keys r h5
  exact ⟨o, es, ep, h1, h2.1, h3, hs, q1, q2⟩
abbrev RkOf (X : Cx) (h : Heap) (u : Value) (d : PyData) : Prop := ∃ as bs, Reads h u d as ∧ ReadAtMost h d.depth bs ∧ ReprK X.prog X.w bs h d.depth u d.shown
abbrev RkAll (X : Cx) (h : Heap) (us : List Value) (ds : List PyData) : Prop := ∃ as bs, ReadsAll h us ds as ∧ ReadAtMost h (PyData.depthAll ds) bs ∧ ReprAllK X.prog X.w bs h (PyData.depthAll ds) us (PyData.shownAll ds)
theorem no_addr {h : Heap} {n : Nat} : ReadAtMost h n [] := fun b q => absurd q List.not_mem_nil
theorem rk_keys : ∀ (ks : List Key) (us : List Value), Vals (ks.map kV) us → PyData.showableAll (ks.map keyD) = true → (∀ t ∈ PyData.shownAll (ks.map keyD), t.length ≤ sizeLine) → RkAll X s.heap us (ks.map keyD)
  | [], _, .nil, _, _ => ⟨_, [], .nil, no_addr, .nil⟩
  | k :: ks, _, .cons r t, hs, hz => by
    rw [List.map_cons, PyData.showableAll, Bool.and_eq_true] at hs
    rw [List.map_cons] at hz ⊢
    unfold PyData.shownAll at hz
    obtain ⟨as, bs, q1, q2, q3⟩ := rk_keys ks _ t hs.2 fun z m => hz z (List.mem_cons_of_mem _ m)
    have h0 := hz _ List.mem_cons_self
    cases k with
    | inl i =>
      obtain ⟨tk, rfl⟩ := r
      exact ⟨_, bs, .cons (.int i tk) q1, q2.mono (Nat.le_max_right _ _), .cons (.of_is (ReprIs.int tk (by simpa [keyD, PyData.showable] using hs.1)) _ _ _) (q3.more_le (fun _ m => m) (Nat.le_max_right _ _))⟩
    | inr x =>
      obtain ⟨tk, rfl⟩ := r
      exact ⟨_, bs, .cons (.str x tk) q1, q2.mono (Nat.le_max_right _ _), .cons (.of_is (ReprIs.str x tk (by simpa only [keyD, PyData.shown] using h0)) _ _ _) (q3.more_le (fun _ m => m) (Nat.le_max_right _ _))⟩
/-- the entries of a dict as repr reads them -/
theorem rk_entries {es : List DictEntry} {kvs : List (Key × V)} {ds : List PyData} (vk : Vals (kvs.map fun p => kV p.1) (es.map (·.key))) (hl : kvs.length = ds.length)
    (hv : PyData.showableAll ds = true → (∀ t ∈ PyData.shownAll ds, t.length ≤ sizeLine) → RkAll X s.heap (es.map (·.val)) ds) (hs : PyData.showableKv ((kvs.map fun p => keyD p.1).zip ds) = true)
    (hz : (dictText (PyData.shownKv ((kvs.map fun p => keyD p.1).zip ds))).length ≤ sizeLine) :
    ∃ as1 as2 bs, ReadsAll s.heap (es.map (·.key)) (((kvs.map fun p => keyD p.1).zip ds).map (·.1)) as1 ∧ ReadsAll s.heap (es.map (·.val)) (((kvs.map fun p => keyD p.1).zip ds).map (·.2)) as2 ∧
      ReadAtMost s.heap (PyData.depthKv ((kvs.map fun p => keyD p.1).zip ds)) bs ∧ ReprEntriesK X.prog X.w bs s.heap (PyData.depthKv ((kvs.map fun p => keyD p.1).zip ds)) es (PyData.shownKv ((kvs.map fun p => keyD p.1).zip ds)) := by
  have hll : (kvs.map fun p => keyD p.1).length = ds.length := by rw [List.length_map]; exact hl
  generalize hkv : (kvs.map fun p => keyD p.1).zip ds = kv at hs hz ⊢
  obtain ⟨s1, s2⟩ := PyData.showableKv_split kv hs
  have e1 : kv.map (·.1) = kvs.map fun p => keyD p.1 := by rw [← hkv]; exact zip_fst hll
  have e2 : kv.map (·.2) = ds := by rw [← hkv]; exact zip_snd hll
  have ek : (kvs.map (·.1)).map kV = kvs.map fun p => kV p.1 := by rw [List.map_map]; rfl
  have ed : (kvs.map (·.1)).map keyD = kvs.map fun p => keyD p.1 := by rw [List.map_map]; rfl
  have z1 : ∀ t ∈ PyData.shownAll (kv.map (·.1)), t.length ≤ sizeLine := fun t ht => let ⟨p, hp, hl⟩ := PyData.shownKv_key_le kv t ht; Nat.le_trans hl (Nat.le_trans (dictText_mem_le hp) hz)
  have z2 : ∀ t ∈ PyData.shownAll (kv.map (·.2)), t.length ≤ sizeLine := fun t ht => let ⟨p, hp, hl⟩ := PyData.shownKv_val_le kv t ht; Nat.le_trans hl (Nat.le_trans (dictText_mem_le hp) hz)
  have m1 := PyData.depthAll_keys_le kv
  have m2 := PyData.depthAll_vals_le kv
  rw [PyData.shownKv_eq]
  rw [e1] at s1 z1 m1 ⊢
  rw [e2] at s2 z2 m2 ⊢
  rw [← ed] at s1 z1 m1 ⊢
  rw [← ek] at vk
  obtain ⟨as1, b1, r1, a1, k1⟩ := rk_keys (X := X) (s := s) _ _ vk s1 z1
  obtain ⟨as2, b2, r2, a2, k2⟩ := hv s2 z2
  exact ⟨as1, as2, b1 ++ b2, r1, r2, (a1.mono m1).append (a2.mono m2), ReprEntriesK.of_two es _ _ (k1.more_le (fun b q => List.mem_append_left _ q) m1) (k2.more_le (fun b q => List.mem_append_right _ q) m2)⟩
mutual
theorem Da.rk (I : Inv X pins σ H s) (sm : Same G H) : ∀ {d : PyData} {v : V} {u : Value}, Da X.K G v d → RelV v u → d.showable = true → d.shown.length ≤ sizeLine → RkOf X s.heap u d
  | _, _, _, .non, r, _, _ => by
    cases r
    exact ⟨_, [], .none, no_addr, by simp only [PyData.shown]; exact .of_is ReprIs.none _ _ _⟩
  | _, _, _, .bl b, r, _, _ => by
    cases r
    exact ⟨_, [], .bool b, no_addr, by simp only [PyData.shown]; exact .of_is (ReprIs.bool b) _ _ _⟩
  | _, _, _, .int i, r, hs, _ => by
    obtain ⟨t, rfl⟩ := r
    exact ⟨_, [], .int i t, no_addr, by simp only [PyData.shown]; exact .of_is (ReprIs.int t (by simpa [PyData.showable] using hs)) _ _ _⟩
  | _, _, _, .str x, r, _, hz => by
    obtain ⟨t, rfl⟩ := r
    exact ⟨_, [], .str x t, no_addr, by simp only [PyData.shown]; exact .of_is (ReprIs.str x t (by simpa only [PyData.shown] using hz)) _ _ _⟩
  | .list ds, .ref a, _, .lst h t, r, hs, hz => by
    cases r
    have hz2 : (listText (PyData.shownAll ds)).length ≤ sizeLine := by simpa only [PyData.shown] using hz
    obtain ⟨_, its, n, rv, e⟩ := (show ObjOk X.prog X.w H s.heap a (.lst _) from I.hok a _ (sm _ _ h))
    obtain ⟨as, bs, q1, q2, q3⟩ := DaAll.rk I sm t rv (by simpa [PyData.showable] using hs) fun z hz' => Nat.le_trans (listText_mem_le hz') hz2
    have rd : Reads s.heap (.ref a) (.list ds) _ := .list e rfl rfl q1
    have hna : a ∉ bs := not_mem_of_deeper rd (by simp only [PyData.depth]; omega) q2
    refine ⟨_, a :: bs, rd, ReadAtMost.cons rd (by simp only [PyData.depth]; omega) q2, ?_⟩
    simp only [PyData.depth, PyData.shown]
    cases its with
    | nil =>
      cases q1
      simp only [PyData.shownAll, listText_nil]
      exact ReprK.listEmpty e rfl rfl
    | cons y l => exact ReprK.list e rfl rfl hna (by simpa using q3.length_eq) fun i z e2 => q3.item i z (by simpa using e2)
  | .tuple ds, .ref a, _, .tup h t, r, hs, hz => by
    cases r
    have hz2 : (tupleText (PyData.shownAll ds)).length ≤ sizeLine := by simpa only [PyData.shown] using hz
    obtain ⟨its, rv, ⟨o, ho, hc, n, hd⟩, _⟩ := I.tuple (sameT sm h)
    obtain ⟨as, bs, q1, q2, q3⟩ := DaAll.rk I sm t rv (by simpa [PyData.showable] using hs) fun z hz' => Nat.le_trans (tupleText_mem_le hz') hz2
    have rd : Reads s.heap (.ref a) (.tuple ds) _ := .tuple ho hc hd q1
    have hna : a ∉ bs := not_mem_of_deeper rd (by simp only [PyData.depth]; omega) q2
    refine ⟨_, a :: bs, rd, ReadAtMost.cons rd (by simp only [PyData.depth]; omega) q2, ?_⟩
    simp only [PyData.depth, PyData.shown]
    exact ReprK.tuple ho hc hd hna q3
  | _, .ref a, _, @Da.dct _ _ _ kvs ds h t, r, hs, hz => by
    cases r
    have hz2 : (dictText (PyData.shownKv ((kvs.map fun p => keyD p.1).zip ds))).length ≤ sizeLine := by simpa only [PyData.shown] using hz
    obtain ⟨o, es, n, ho, hc, hd, hsys, vk, vv⟩ := dict_at I (sm _ _ h)
    obtain ⟨as1, as2, bs, r1, r2, a3, k3⟩ := rk_entries (X := X) (s := s) vk (by rw [← t.length, List.length_map]) (fun s2 z2 => DaAll.rk I sm t vv s2 z2) (by simpa [PyData.showable] using hs) hz2
    have rd : Reads s.heap (.ref a) (.dict ((kvs.map fun p => keyD p.1).zip ds)) _ := .dict ho hc hd r1 r2
    have hna : a ∉ bs := not_mem_of_deeper rd (by simp only [PyData.depth]; omega) a3
    refine ⟨_, a :: bs, rd, ReadAtMost.cons rd (by simp only [PyData.depth]; omega) a3, ?_⟩
    simp only [PyData.depth, PyData.shown]
    exact ReprK.dict ho hc hd hsys hna k3
theorem DaAll.rk (I : Inv X pins σ H s) (sm : Same G H) : ∀ {ds : List PyData} {vs : List V} {us : List Value}, DaAll X.K G vs ds → Vals vs us → PyData.showableAll ds = true → (∀ t ∈ PyData.shownAll ds, t.length ≤ sizeLine) → RkAll X s.heap us ds
  | _, _, _, .nil, .nil, _, _ => ⟨_, [], .nil, no_addr, .nil⟩
  | _, _, _, .cons h t, .cons r rs, hs, hz => by
    rw [PyData.showableAll, Bool.and_eq_true] at hs
    unfold PyData.shownAll at hz
    obtain ⟨as1, b1, q1, a1, k1⟩ := Da.rk I sm h r hs.1 (hz _ List.mem_cons_self)
    obtain ⟨as2, b2, q2, a2, k2⟩ := DaAll.rk I sm t rs hs.2 fun z m => hz z (List.mem_cons_of_mem _ m)
    refine ⟨_, b1 ++ b2, .cons q1 q2, (a1.mono (Nat.le_max_left _ _)).append (a2.mono (Nat.le_max_right _ _)), ?_⟩
    exact .cons ((k1.more fun b q => List.mem_append_left _ q).level_le (Nat.le_max_left _ _)) (k2.more_le (fun b q => List.mem_append_right _ q) (Nat.le_max_right _ _))
end
end

/-! ### repr(x) -/
def rRepr (K : PySem.W.Frag) : List V → Hp → VK → Prop := fun xs H Q => ∃ (v : V) (d : PyData) (G : Hp), xs = [v] ∧ Same G H ∧ Da K G v d ∧ d.showable = true ∧ d.depth ≤ 60 ∧ d.shown.length ≤ sizeLine ∧ Q (.str d.shown) H
section
variable {X : Cx}
theorem call_repr (hgd : X.A.guards = some []) (hu : X.A.units + 64 < cLine) : CallR X (.builtin "repr") (rRepr X.K) := by
  intro pins s σ H xs us Q I r h
  obtain ⟨v, d, G, rfl, sm, hd, hs, hdp, hz, q⟩ := h
  obtain ⟨u, rfl, rv⟩ := vals1 r
  have done : ∀ h' t tk, (∀ b o, s.heap.get? b = some o → h'.get? b = some o) → EP X pins σ Q (.str d.shown t) { s with heap := h', toks := tk } := fun h' t tk k => ⟨.str _, H, I.kept k, ⟨_, rfl⟩, q⟩
  cases hd with
  | non => cases rv; exact P.repr_of_none ⟨.str _, H, I.tok _, ⟨_, rfl⟩, by simpa only [PyData.shown] using q⟩
  | bl b => cases rv; exact P.repr_of_bool ⟨.str _, H, I.tok _, ⟨_, rfl⟩, by simpa only [PyData.shown] using q⟩
  | int i => obtain ⟨t, rfl⟩ := rv; exact P.repr_of_int (by simpa [PyData.showable] using hs) ⟨.str _, H, I.tok _, ⟨_, rfl⟩, by simpa only [PyData.shown] using q⟩
  | str x => obtain ⟨t, rfl⟩ := rv; exact P.repr_of_str ⟨.str _, H, I.tok _, ⟨_, rfl⟩, by simpa only [PyData.shown] using q⟩ (by simpa only [PyData.shown] using hz)
  | @lst a xs ds h t =>
    cases rv
    have hz2 : (listText (PyData.shownAll ds)).length ≤ sizeLine := by simpa only [PyData.shown] using hz
    obtain ⟨_, its, n, rw', e⟩ := (show ObjOk X.prog X.w H s.heap a (.lst _) from I.hok a _ (sm _ _ h))
    obtain ⟨as, bs, q1, q2, q3⟩ := DaAll.rk I sm t rw' (by simpa [PyData.showable] using hs) fun z hz' => Nat.le_trans (listText_mem_le hz') hz2
    have rd : Reads s.heap (.ref a) (.list ds) _ := .list e rfl rfl q1
    have hna : a ∉ bs := not_mem_of_deeper rd (by simp only [PyData.depth]; omega) q2
    simp only [PyData.depth] at hdp
    refine call_repr_slot (T := "list") (idr := "list.__repr__") (by omega) ⟨_, e, rfl⟩ F.slot_list_repr.toG ?_
    cases its with
    | nil =>
      cases q1
      refine call_list_repr_empty ⟨_, e, rfl⟩ e rfl ⟨_, _, rfl, ?_⟩
      have := done s.heap s.toks (s.toks + 1) fun _ _ k => k
      simpa only [PyData.shown, PyData.shownAll, listText_nil] using this
    | cons y l =>
      exact call_list_reprK e rfl rfl hna (by simpa using q3.length_eq) (fun i z e2 => q3.item i z (by simpa using e2)) hgd (fun b _ => Clear.nil b) (by show X.A.units + 1 + _ < _; omega) (fun _ _ k => k)
        (fun h' t tk k => ⟨_, _, rfl, by have := done h' t tk k; simpa only [PyData.shown] using this⟩) hz2
  | @tup a xs ds h t =>
    cases rv
    have hz2 : (tupleText (PyData.shownAll ds)).length ≤ sizeLine := by simpa only [PyData.shown] using hz
    obtain ⟨its, rw', ⟨o, ho, hc, n, hdd⟩, _⟩ := I.tuple (sameT sm h)
    obtain ⟨as, bs, q1, q2, q3⟩ := DaAll.rk I sm t rw' (by simpa [PyData.showable] using hs) fun z hz' => Nat.le_trans (tupleText_mem_le hz') hz2
    have rd : Reads s.heap (.ref a) (.tuple ds) _ := .tuple ho hc hdd q1
    have hna : a ∉ bs := not_mem_of_deeper rd (by simp only [PyData.depth]; omega) q2
    simp only [PyData.depth] at hdp
    exact call_repr_slot (T := "tuple") (idr := "tuple.__repr__") (by omega) ⟨_, ho, hc⟩ F.slot_tuple_repr
      (call_tuple_reprK ho hc hdd hna q3 hgd (fun b _ => Clear.nil b) (by show X.A.units + 1 + _ < _; omega) (fun _ _ k => k) (fun h' t tk k => ⟨_, _, rfl, by have := done h' t tk k; simpa only [PyData.shown] using this⟩) hz2)
  | @dct a kvs ds h t =>
    cases rv
    have hz2 : (dictText (PyData.shownKv ((kvs.map fun p => keyD p.1).zip ds))).length ≤ sizeLine := by simpa only [PyData.shown] using hz
    obtain ⟨o, es, n, ho, hc, hdd, hsys, vk, vv⟩ := dict_at I (sm _ _ h)
    obtain ⟨as1, as2, bs, r1, r2, a3, k3⟩ := rk_entries (X := X) (s := s) vk (by rw [← t.length, List.length_map]) (fun s2 z2 => DaAll.rk I sm t vv s2 z2) (by simpa [PyData.showable] using hs) hz2
    have rd : Reads s.heap (.ref a) (.dict ((kvs.map fun p => keyD p.1).zip ds)) _ := .dict ho hc hdd r1 r2
    have hna : a ∉ bs := not_mem_of_deeper rd (by simp only [PyData.depth]; omega) a3
    simp only [PyData.depth] at hdp
    exact call_repr_slot (T := "dict") (idr := "dict.__repr__") (by omega) ⟨_, ho, hc⟩ F.slot_dict_repr
      (call_dict_reprK ho hc hdd hsys hna k3 hgd (fun b _ => Clear.nil b) (by show X.A.units + 1 + _ < _; omega) (fun _ _ k => k) (fun h' t tk k => ⟨_, _, rfl, by have := done h' t tk k; simpa only [PyData.shown] using this⟩) hz2)
end
end L2.Hx

/-! Own rules: «x in words» for any data x, enumerate of a tuple. -/
namespace L2.Hx
open PySem PySem.Spec PyProof.Rows
open AutoSeq1 (wpAny_loadPart')

section
theorem str_eq_dict (b : Str) (u : Tok) (l : Addr) (es : Array DictEntry) (n : Nat) (dd : Option Addr) (sl : Array (Option Value)) :
    Meets (Builtin.«str.__eq__» ⟨[.str b u, .ref l], []⟩) (fun _ R s => s.heap.get? l = some { cls := .type "dict", dict := dd, data := .dict es n, slots := sl } ∧ R (.ok (.ret .notImplemented)) s) :=
  .of_wp fun prog w A R s h => by
    obtain ⟨hp, g, d, tk, os⟩ := s
    obtain ⟨hl, h⟩ := h
    wp_walk using wpAny_load hl
    exact ⟨_, rfl, h⟩
theorem dict_eq_str (b : Str) (u : Tok) (l : Addr) (es : Array DictEntry) (n : Nat) (dd : Option Addr) (sl : Array (Option Value)) :
    Meets (Builtin.«dict.__eq__» ⟨[.ref l, .str b u], []⟩) (fun _ R s => s.heap.get? l = some { cls := .type "dict", dict := dd, data := .dict es n, slots := sl } ∧ R (.ok (.ret .notImplemented)) s) :=
  .of_wp fun prog w A R s h => by
    obtain ⟨hp, g, d, tk, os⟩ := s
    obtain ⟨hl, h⟩ := h
    have f1 := F.sub_str_dict
    wp_walk using wpAny_load hl
    exact ⟨_, rfl, h⟩
theorem str_is_dict {A : Around} {s : Shared} {l : Addr} {es : Array DictEntry} {n : Nat} {dd : Option Addr} {sl : Array (Option Value)} (b : Str) (u : Tok) (ho : s.heap.get? l = some { cls := .type "dict", dict := dd, data := .dict es n, slots := sl }) (hu : A.units < cLine) :
    SeqAt.EqAt A s (.str b u) (.ref l) false := fun prog w E Q h => by
  unfold eqBool
  refine wpAny_holding ?_
  refine wpAny_ite_split (fun hab => absurd (eq_of_beq hab) nofun) fun _ => ?_
  refine wpAny_bind ?_
  exact SeqAt.rc_eq_decline_or (k := false) (typeIs_str s b u) ⟨_, ho, rfl⟩ (by decide) F.sub_dict_str F.slot_str_eq F.slot_dict_eq_refl
    (fun Q2 hq => call_meets F.slot_str_eq (typeIs_str s b u) F.entry_str_eq (F.args_str_eq_2 _ _) (str_eq_dict b u l es n dd sl) ⟨ho, hq⟩)
    (fun Q2 hq => call_meets F.slot_dict_eq_refl ⟨_, ho, rfl⟩ F.entry_dict_eq (F.args_dict_eq_2 _ _) (dict_eq_str b u l es n dd sl) ⟨ho, hq⟩)
    (fun Q2 hq => wpAny_of_eq (rfl : isSame (.str b u) (.ref l) = pure false) hq) (.inr hu) (wpAny_truthy_bool h)
end
/-- is the word a text among these -/
def inWs (d : PyData) (ws : List Str) : Bool := match d with
  | .str z => decide (z ∈ ws)
  | _ => false
def eqW (d : PyData) (u : Value) : Bool := match d, u with
  | .str z, .str y _ => y == z
  | _, _ => false
section
variable {X : Cx} {pins : List (Addr × Obj)} {σ : St} {H G : Hp} {s : Shared}
theorem any_eqW : ∀ {d : PyData} {ws : List Str} {us : List Value}, Vals (ws.map V.str) us → us.any (eqW d) = inWs d ws
  | d, [], _, .nil => by
    cases d <;> simp [inWs]
  | d, w :: ws, _, .cons r t => by
    obtain ⟨tk, rfl⟩ := r
    rw [List.any_cons, any_eqW (d := d) t]
    cases d <;> simp [eqW, inWs]
    rename_i z
    by_cases h : w = z
    · subst h
      simp
    · simp [h, Ne.symm h]
theorem eq_word (hu : X.A.units + 64 < cLine) (I : Inv X pins σ H s) (sm : Same G H) {v : V} {d : PyData} {x : Value} (hd : Da X.K G v d) (rx : RelV v x) (y : Str) (t : Tok) : SeqAt.EqAt X.A.in1 s (.str y t) x (eqW d (.str y t)) := by
  have hu1 : X.A.in1.units < cLine := by show X.A.units + 1 < _; omega
  cases hd with
  | non => cases rx; exact SeqAt.EqAt.str_none y t
  | bl b => cases rx; exact SeqAt.EqAt.str_bool y t b
  | int i => obtain ⟨tk, rfl⟩ := rx; exact SeqAt.EqAt.str_int y t i tk
  | str z => obtain ⟨tk, rfl⟩ := rx; exact SeqAt.EqAt.str_str y t z tk
  | @lst a xs ds h _ =>
    cases rx
    obtain ⟨_, its, n, _, e⟩ := (show ObjOk X.prog X.w H s.heap a (.lst _) from I.hok a _ (sm _ _ h))
    exact SeqAt.EqAt.str_list y t ⟨_, e, rfl, _, rfl⟩ hu1
  | @tup a xs ds h _ =>
    cases rx
    obtain ⟨its, _, p, _⟩ := I.tuple (sameT sm h)
    exact SeqAt.EqAt.str_tuple y t p hu1
  | @dct a kvs ds h _ =>
    cases rx
    obtain ⟨o, es, n, ho, hc, hdd, _⟩ := dict_at I (sm _ _ h)
    obtain ⟨c, dd, data, sl⟩ := o
    simp only at hc hdd
    subst hc hdd
    exact str_is_dict y t ho hu1
/-- x in ws, x any data, ws a list or tuple of texts -/
def rInW (K : PySem.W.Frag) (neg : Bool) : R2 := fun x y H Q => ∃ (p : Addr) (ws : List Str) (d : PyData) (G : Hp), y = .ref p ∧ (SqL K H p (ws.map V.str) ∨ SqT K H p (ws.map V.str)) ∧ Same G H ∧ Da K G x d ∧ Q (.bl (if neg then !inWs d ws else inWs d ws)) H
theorem in_words (hu : X.A.units + 64 < cLine) (I : Inv X pins σ H s) (sm : Same G H) {v : V} {d : PyData} {x : Value} (hd : Da X.K G v d) (rx : RelV v x) : ∀ {ws : List Str} {us : List Value}, Vals (ws.map V.str) us → ∀ u ∈ us, SeqAt.EqAt X.A.in1 s u x (eqW d u)
  | [], _, .nil => fun u hu => by cases hu
  | y :: ws, u :: us, .cons r t => fun u' hu' => by
    rcases List.mem_cons.mp hu' with rfl | hu'
    · obtain ⟨tk, rfl⟩ := r
      exact eq_word hu I sm hd rx y tk
    · exact in_words hu I sm hd rx t u' hu'
theorem op_inW (hu : X.A.units + 64 < cLine) : OpR X (compareOp .In) (rInW X.K false) := by
  intro pins s σ H x y v u Q I rx ry h
  obtain ⟨p, ws, d, G, rfl, hq, sm, hd, q⟩ := h
  cases ry
  have q : Q (.bl (inWs d ws)) H := q
  rcases hq with hq | hq
  · obtain ⟨its, r, pl, _⟩ := I.list hq
    refine SeqAt.in_listAt (eqW d) pl.isList (fun z hz => in_words hu I sm hd rx r z (by simpa using hz)) ⟨.bl _, H, I, rfl, ?_⟩
    rw [show its.toArray.any (eqW d) = its.any (eqW d) by simp, any_eqW r]
    exact q
  · obtain ⟨its, r, pl, _⟩ := I.tuple hq
    refine SeqAt.in_tupleAt (eqW d) pl (fun z hz => in_words hu I sm hd rx r z (by simpa using hz)) ⟨.bl _, H, I, rfl, ?_⟩
    rw [show its.toArray.any (eqW d) = its.any (eqW d) by simp, any_eqW r]
    exact q
theorem op_notInW (hu : X.A.units + 64 < cLine) : OpR X (compareOp .NotIn) (rInW X.K true) := by
  intro pins s σ H x y v u Q I rx ry h
  obtain ⟨p, ws, d, G, rfl, hq, sm, hd, q⟩ := h
  cases ry
  have q : Q (.bl (!inWs d ws)) H := q
  rcases hq with hq | hq
  · obtain ⟨its, r, pl, _⟩ := I.list hq
    refine SeqAt.notIn_listAt (eqW d) pl.isList (fun z hz => in_words hu I sm hd rx r z (by simpa using hz)) ⟨.bl _, H, I, rfl, ?_⟩
    rw [show its.toArray.any (eqW d) = its.any (eqW d) by simp, any_eqW r]
    exact q
  · obtain ⟨its, r, pl, _⟩ := I.tuple hq
    refine SeqAt.notIn_tupleAt (eqW d) pl (fun z hz => in_words hu I sm hd rx r z (by simpa using hz)) ⟨.bl _, H, I, rfl, ?_⟩
    rw [show its.toArray.any (eqW d) = its.any (eqW d) by simp, any_eqW r]
    exact q
end

/-! ### isinstance of data -/
def tyD : PyData → String
  | .none => "NoneType"
  | .bool _ => "bool"
  | .int _ => "int"
  | .str _ => "str"
  | .list _ => "list"
  | .tuple _ => "tuple"
  | .dict _ => "dict"
def isTup : PyData → Bool
  | .tuple _ => true
  | _ => false
def isStr : PyData → Bool
  | .str _ => true
  | _ => false
def rIsiD (K : PySem.W.Frag) : List V → Hp → VK → Prop := fun xs H Q => ∃ (x : V) (d : PyData) (G : Hp), Same G H ∧ Da K G x d ∧ ((xs = [x, .ty "tuple"] ∧ Q (.bl (isTup d)) H) ∨ (xs = [x, .ty "str"] ∧ Q (.bl (isStr d)) H))
section
variable {X : Cx} {pins : List (Addr × Obj)} {σ : St} {H G : Hp} {s : Shared}
theorem kit_da (I : Inv X pins σ H s) (sm : Same G H) {v : V} {d : PyData} {u : Value} (hd : Da X.K G v d) (rv : RelV v u) : ∃ P : Heap → Prop, PySem.W.KitX X.K u (.type (tyD d)) P ∧ P s.heap ∧ u ≠ .builtin "__main__.__loader__#opaque" := by
  cases hd with
  | non => cases rv; exact ⟨_, PySem.W.kitx_none, True.intro, fun z => nomatch z⟩
  | bl b => cases rv; exact ⟨_, PySem.W.kitx_bool, True.intro, fun z => nomatch z⟩
  | int i => obtain ⟨t, rfl⟩ := rv; exact ⟨_, PySem.W.kitx_int, True.intro, fun z => nomatch z⟩
  | str x => obtain ⟨t, rfl⟩ := rv; exact ⟨_, PySem.W.kitx_str, True.intro, fun z => nomatch z⟩
  | @lst a xs ds h _ =>
    cases rv
    obtain ⟨_, its, n, _, e⟩ := (show ObjOk X.prog X.w H s.heap a (.lst _) from I.hok a _ (sm _ _ h))
    exact ⟨_, PySem.W.kitx_list, ⟨_, e, rfl⟩, fun z => nomatch z⟩
  | @tup a xs ds h _ =>
    cases rv
    obtain ⟨its, _, ⟨o, ho, hc, _⟩, _⟩ := I.tuple (sameT sm h)
    exact ⟨_, PySem.W.kitx_tuple, ⟨o, ho, hc⟩, fun z => nomatch z⟩
  | @dct a kvs ds h _ =>
    cases rv
    obtain ⟨o, es, n, ho, hc, _⟩ := dict_at I (sm _ _ h)
    exact ⟨_, PySem.W.kitx_dict, ⟨o, ho, hc⟩, fun z => nomatch z⟩
theorem kitB_tup : ∀ d : PyData, kitB (tyD d) "tuple" = some (isTup d)
  | .none => by
    show kitB "NoneType" "tuple" = some false
    decide +kernel
  | .bool _ => by
    show kitB "bool" "tuple" = some false
    decide +kernel
  | .int _ => by
    show kitB "int" "tuple" = some false
    decide +kernel
  | .str _ => by
    show kitB "str" "tuple" = some false
    decide +kernel
  | .list _ => by
    show kitB "list" "tuple" = some false
    decide +kernel
  | .tuple _ => by
    show kitB "tuple" "tuple" = some true
    decide +kernel
  | .dict _ => by
    show kitB "dict" "tuple" = some false
    decide +kernel
theorem kitB_str : ∀ d : PyData, kitB (tyD d) "str" = some (isStr d)
  | .none => by
    show kitB "NoneType" "str" = some false
    decide +kernel
  | .bool _ => by
    show kitB "bool" "str" = some false
    decide +kernel
  | .int _ => by
    show kitB "int" "str" = some false
    decide +kernel
  | .str _ => by
    show kitB "str" "str" = some true
    decide +kernel
  | .list _ => by
    show kitB "list" "str" = some false
    decide +kernel
  | .tuple _ => by
    show kitB "tuple" "str" = some false
    decide +kernel
  | .dict _ => by
    show kitB "dict" "str" = some false
    decide +kernel
theorem call_isiD : CallR X (.builtin "isinstance") (rIsiD X.K) := by
  intro pins s σ H xs us Q I r h
  obtain ⟨x, d, G, sm, hd, h⟩ := h
  rcases h with ⟨rfl, q⟩ | ⟨rfl, q⟩
  · obtain ⟨u1, u2, rfl, r1, r2⟩ := vals2 r
    cases r2
    obtain ⟨P, Z, p, hx⟩ := kit_da I sm hd r1
    exact PySem.W.kia_one Z I.kIn p (kit_ty (kitB_tup d)) hx fun tk => ⟨.bl _, H, I.tok tk, rfl, q⟩
  · obtain ⟨u1, u2, rfl, r1, r2⟩ := vals2 r
    cases r2
    obtain ⟨P, Z, p, hx⟩ := kit_da I sm hd r1
    exact PySem.W.kia_one Z I.kIn p (kit_ty (kitB_str d)) hx fun tk => ⟨.bl _, H, I.tok tk, rfl, q⟩
end

/-! ### enumerate(t), t a tuple -/
section
theorem new_enum {v : Value} {o : Obj} {HB : Heap → Prop} (B : Begins v o HB) :
    Meets (Builtin.«enumerate.__new__» ⟨[.type "enumerate", v], []⟩) (fun _ R s => HB s.heap ∧
      R (.ok (.ret (.ref (s.heap.push o).objs.size))) { s with heap := (s.heap.push o).push { cls := .type "enumerate", data := .fields #[.none, .bool false, .ref s.heap.objs.size, rawInt 0, .none, .none] } }) :=
  .of_wp fun prog w A R s h => by
    obtain ⟨hp, g, d, tk, os⟩ := s
    obtain ⟨h1, h⟩ := h
    have hsub := sub_enumerate
    have q1 : ∀ {A' : Around} {E : Value → Shared → Prop} {Q : Value → Shared → Prop}, Q (.ref hp.objs.size) ⟨hp.push o, g, d, tk, os⟩ → wpAny (model prog w) A' (pyIter v) Q E ⟨hp, g, d, tk, os⟩ :=
      fun q => B.iter prog w _ _ ⟨hp, g, d, tk, os⟩ _ h1 q
    wp_walk using q1
    refine wpAny_stack_any fun st => wpAny_pure ?_
    split
    · rename_i c _ _ _ _ _
      cases (c == Value.type "enumerate")
      · wp_walk using q1
        exact ⟨_, rfl, h⟩
      · wp_walk using q1
        exact ⟨_, rfl, h⟩
    · wp_walk using q1
      exact ⟨_, rfl, h⟩
theorem enum_of {prog : Program} {w : World} {A : Around} {E : Value → Shared → Prop} {s : Shared} {v : Value} {o : Obj} {HB : Heap → Prop} {Q : Value → Shared → Prop} (B : Begins v o HB) (h1 : HB s.heap)
    (h : ∀ h', IsEnum h' (s.heap.objs.size + 1) s.heap.objs.size 0 .none → h'.get? s.heap.objs.size = some o → h'.objs.size = s.heap.objs.size + 2 →
      (∀ b u, s.heap.get? b = some u → h'.get? b = some u) → Q (.ref (s.heap.objs.size + 1)) { s with heap := h' }) :
    wpAny (model prog w) A (call (.type "enumerate") [v]) Q E s := by
  refine callType_new F.called_enumerate (by decide) (F.typeCall_enumerate_1 _) (F.newCall_enumerate_1 _) (fun obj => F.args_object_init_2 obj _) F.entry_enumerate_new (new_enum B) ⟨h1, ?_⟩
  have hz : (s.heap.push o).objs.size = s.heap.objs.size + 1 := Heap.size_push ..
  show _ ∧ _
  rw [hz]
  have he := Heap.get?_push_size (s.heap.push o) (o := { cls := .type "enumerate", data := .fields #[.none, .bool false, .ref s.heap.objs.size, rawInt 0, .none, .none] }) rfl
  rw [hz] at he
  refine ⟨⟨_, he, rfl⟩, h _ he (Heap.get?_push_of_some _ (Heap.get?_push_size _ B.free)) (by rw [Heap.size_push, hz]) fun b u q => Heap.get?_push_of_some _ (Heap.get?_push_of_some _ q)⟩
/-- the tuple's items with their places, in new pairs -/
def Iet (K : PySem.W.Frag) (a : Addr) : It :=
  ⟨fun i H => ∃ (xs : List V) (x : V), SqT K H a xs ∧ xs[i]? = some x,
    fun i H v H' => ∃ T x, v = .ref T ∧ H T = none ∧ H' = upd H T (.tup [.int (i : Nat), x]) ∧ ∀ xs, SqT K H a xs → xs[i]? = some x,
    fun i H => ∃ xs : List V, SqT K H a xs ∧ xs.length ≤ i⟩
theorem turn_enumT {P : Program} {w : World} {K : PySem.W.Frag} {elts : List Expr} {kk : Nat} {tpos : Pos} (a e it : Addr) :
    Turn P w K (.Tuple elts kk tpos) (Iet K a) [e, it] e (fun i h => (∃ old, IsEnum h e it ((i : Nat) : Int) old) ∧ h.IsTupleIter it a i ∧ e ≠ it ∧ a ≠ it ∧ a ≠ e) where
  mem := by simp
  obj := fun i h st b hb => by
    obtain ⟨⟨old, he⟩, ⟨o, ho, hc, hd⟩, _⟩ := st
    have e' : b = e ∨ b = it := by simpa using hb
    rcases e' with z | z
    · rw [z]; exact ⟨_, he, fun v q => nomatch q⟩
    · rw [z]; exact ⟨o, ho, fun v q => by rw [hd] at q; cases q⟩
  keep := fun i h h' st k => let ⟨⟨old, he⟩, hi, hne⟩ := st; ⟨⟨old, k e (by simp) _ he⟩, hi.at fun o q => k it (by simp) o q, hne⟩
  item := by
    intro X hP hw hK hc i pins s σ H E I hf st hg
    subst hP hw hK
    obtain ⟨⟨old, he⟩, hit, hne, hai, hae⟩ := st
    obtain ⟨xs, x, hq, hx⟩ := hg
    obtain ⟨its, rv, p, hz⟩ := I.tuple hq
    obtain ⟨u, hu, ru⟩ := rv.get hx
    have hel : e < s.heap.objs.size := Heap.lt_size he
    have hil : it < s.heap.objs.size := by obtain ⟨_, q, _⟩ := hit; exact Heap.lt_size q
    have hlt : i < its.toArray.size := by
      have q := (List.getElem?_eq_some_iff.mp hu).1
      simpa using q
    refine wpAny_pyNext_enum_itemD (Draws.tuple (A := X.A.in1) (I.ok.hd hc) it a hai its.toArray) he ⟨hit, p⟩ hlt hne (fun z => by
      have z : e = it ∨ e = a := by simpa using z
      rcases z with z | z
      · exact hne z
      · exact hae z.symm) fun y h' tk hP ho hst hT hsz hk => ?_
    have ey : y = u := by
      have z : its.toArray[i]? = some y := hP
      rw [List.getElem?_toArray, hu] at z
      cases z
      rfl
    subst ey
    refine ⟨_, rfl, wpAny_letOwnedTupleGo_enum (s := { s with heap := h', toks := tk + 1 }) ho fun h'' he' sb => ?_⟩
    have hT2 : h''.get? s.heap.objs.size = some { cls := .type "tuple", data := .seq #[.int i tk, y] } := (sb.2 _ (Nat.ne_of_gt hel)).trans hT
    have new : ObjOk X.prog X.w (upd H s.heap.objs.size (.tup [.int (i : Nat), x])) h'' s.heap.objs.size (.tup [.int (i : Nat), x]) :=
      ⟨by show 2 ≤ sizeLine; decide, [.int i tk, y], .cons ⟨_, rfl⟩ (.cons ru .nil), ⟨_, hT2, rfl, _, rfl⟩⟩
    have I1 : Inv X pins σ (upd H s.heap.objs.size (.tup [.int (i : Nat), x])) { s with heap := h'', toks := tk + 1 } :=
      I.turnedNew (ch := [e, it]) (fun b ob hb q => (sb.2 b (fun z => hb (by simp [z]))).trans (hk b ob (fun z => hb (by simp [z])) (fun z => hb (by simp [z])) q)) hf (Nat.le_refl _) new
    refine ⟨.ref s.heap.objs.size, _, I1, rfl, ⟨_, x, rfl, I.hok.fresh (Nat.le_refl _), rfl, fun ys hy => by rw [I.tuple_inj hy hq]; exact hx⟩, ⟨⟨y, ?_⟩, hst.1.at fun o q => (sb.2 it (Ne.symm hne)).trans q, hne, hai, hae⟩, fun b hb => ?_⟩
    · have e1 : ((i + 1 : Nat) : Int) = (i : Int) + 1 := by omega
      rw [e1]; exact he'
    · have hb' : b < s.heap.objs.size := by
        have e' : b = e ∨ b = it := by simpa using hb
        rcases e' with z | z
        · rw [z]; exact hel
        · rw [z]; exact hil
      rw [upd_ne (Nat.ne_of_lt hb')]
      exact (hf b hb).1
  done := by
    intro X hP hw hK hc i pins s σ H E I hf st hg
    subst hP hw hK
    obtain ⟨⟨old, he⟩, hit, hne, hai, hae⟩ := st
    obtain ⟨xs, hq, hx⟩ := hg
    obtain ⟨its, rv, p, hz⟩ := I.tuple hq
    obtain ⟨f0, f1, f2, f3, f4, f5⟩ := hf it (by simp)
    have hl := rv.length
    have hh : X.A.in1.handled = none := I.ok.hd hc
    have D := Draws.tuple (prog := X.prog) (w := X.w) (A := X.A.in1) hh it a hai its.toArray
    have hT : s.TypeIs (.ref e) "enumerate" := ⟨_, he, rfl⟩
    have hx' : its.toArray[i]? = none := by simp; omega
    unfold pyNext
    refine wpAny_bind (wpAny_attempt (wpAny_callSpecial?_slot (name := Str.ofString "__next__") hT F.slot_enumerate_next
      (wpAny_call_entry F.slot_enumerate_next hT F.entry_enumerate_next ?_ (F.args_enumerate_next_1 _))))
    show wpAny _ _ (field (.ref e) 2 >>= _) _ _ _
    refine wpAny_bind (wpAny_field he rfl (x := .ref it) rfl ?_)
    refine wpAny_bind (wpAny_nextOf_tuple_end hh hit p hx' fun h' x eb ht => ?_)
    obtain ⟨o, ho, hcl⟩ := ht
    refine wpAny_bind (wpAny_isInstance (T := "StopIteration") (b := true) ⟨o, ho, hcl⟩ isSubtype_stop ?_)
    exact wpAny_pure ⟨rfl, I.turned (t' := s.toks) (fun b o hb q => eb b o hb q) f0 f1 f3 f4 f5⟩
  self := fun A i s Q E st h => let ⟨⟨_, he⟩, _⟩ := st; wpAny_pyIter_enum he h
def iEnumT (K : PySem.W.Frag) (ta : TA) : TI := fun σ H R => ta σ H fun vs H1 => ∃ a xs, vs = [.ref a] ∧ SqT K H1 a xs ∧ R (Iet K a) H1
theorem pi_enumT {X : Cx} {e : Expr} {ta : TA} {p pos tpos : Pos} {elts : List Expr} {kk : Nat} (hg : Gl X "enumerate") (hm : X.mg "enumerate" = none) (ha : PA X [e] ta) (hs : starEach [e] X.env = [(false, eval e X.env)] := by rfl) :
    PI X (.Tuple elts kk tpos) (.Call (.Name "enumerate" p) [e] [] pos) (iEnumT X.K ta) := by
  refine ⟨fun pins s σ H R I h => ?_⟩
  refine Call_ (ld_blt I hg hm boot_enumerate (PyProof.Rows.callWith_type1 (thn (ha.run pos pins s σ H _ I h) fun us s1 ⟨vs, H1, I1, r1, q1⟩ => ?_) hs rfl))
  obtain ⟨a, xs, rfl, hq, q⟩ := q1
  obtain ⟨u, rfl, r⟩ := vals1 r1
  cases r
  obtain ⟨its, rv, p', hz⟩ := I1.tuple hq
  have hlt : a < s1.heap.objs.size := p'.lt
  refine enum_of (begins_tuple a its.toArray) p' fun h' he hit hsz hk => wpAny_pyIter_enum he ?_
  have I2 : Inv X pins σ H1 { s1 with heap := h' } := I1.kept (t' := s1.toks) hk
  refine ⟨s1.heap.objs.size + 1, [s1.heap.objs.size + 1, s1.heap.objs.size], _, _, H1, rfl, I2, turn_enumT a (s1.heap.objs.size + 1) s1.heap.objs.size, ⟨⟨.none, he⟩, ⟨_, hit, rfl, rfl⟩, Nat.succ_ne_self _, Nat.ne_of_lt hlt, Nat.ne_of_lt (Nat.lt_succ_of_lt hlt)⟩, fun b hb => ?_, q⟩
  have e' : b = s1.heap.objs.size + 1 ∨ b = s1.heap.objs.size := by simpa using hb
  have hle : s1.heap.objs.size ≤ b := by
    rcases e' with z | z
    · rw [z]; exact Nat.le_add_right _ _
    · rw [z]; exact Nat.le_refl _
  exact I1.fpOk hle (I1.hok.fresh hle)
/-- for i, x in enumerate(t): the tuple stands, the pair is new -/
theorem for_enumT {K : PySem.W.Frag} {a : Addr} {xs : List V} {g : TG} {tb : TS} {D : Ends} {σ : St} {H : Hp} (Pv : Nat → St → Hp → Prop) (h0 : Pv 0 σ H) (hl : ∀ i σ H, i ≤ xs.length → Pv i σ H → SqT K H a xs)
    (hs : ∀ (i : Nat) (x : V) (T : Addr) (σ : St) (H : Hp), xs[i]? = some x → Pv i σ H → H T = none → g (.ref T) σ (upd H T (.tup [.int (i : Nat), x])) fun σ2 H2 => tb { D with nx := Pv (i + 1), ct := Pv (i + 1), bk := D.nx } σ2 H2)
    (hd : ∀ σ H, Pv xs.length σ H → D.nx σ H) : ∃ W : Nat → Nat → St → Hp → Prop, (∃ m, W 0 m σ H) ∧ ∀ i m σ H, W i m σ H →
      ((Iet K a).stop i H ∧ D.nx σ H) ∨ ((Iet K a).go i H ∧ ∃ N : St → Hp → Prop, (∀ σ2 H2, N σ2 H2 → ∃ m2, m2 < m ∧ W (i + 1) m2 σ2 H2) ∧ ∀ x H2, (Iet K a).yld i H x H2 → g x σ H2 fun σ3 H3 => tb { D with nx := N, ct := N, bk := D.nx } σ3 H3) := by
  refine ⟨fun i m σ H => m = xs.length - i ∧ i ≤ xs.length ∧ Pv i σ H, ⟨xs.length, by simp, Nat.zero_le _, h0⟩, ?_⟩
  rintro i m σ H ⟨rfl, hi, p⟩
  have q := hl i σ H hi p
  rcases Nat.lt_or_ge i xs.length with hlt | hge
  · refine .inr ⟨⟨xs, xs[i], q, by simp [hlt]⟩, Pv (i + 1), fun σ2 H2 p2 => ⟨xs.length - (i + 1), by omega, rfl, hlt, p2⟩, fun x H2 y => ?_⟩
    obtain ⟨T, z, rfl, hT, rfl, y⟩ := y
    exact hs i z T σ H (y xs q) p hT
  · have e : i = xs.length := by omega
    subst e
    exact .inl ⟨⟨xs, q, Nat.le_refl _⟩, hd σ H p⟩
end
end L2.Hx

/-! Defs of the text as promises; the law's deck beside a part G of the heap that never changes. -/
namespace L2.Hx
open PySem PySem.Spec PyProof.Rows

/-- a def of the text, where it stands -/
structure Src (K : PySem.W.Frag) (mg : Str → Option Value) (x : Str) (st : Stmt) (ps : List Str) (f : Addr) (fd : FuncData) : Prop where
  fn : Fun K x x st f fd
  at_ : mg x = some (.ref f)
  bd : Binds K fd ps []
/-- a def with its promise -/
structure Df (P : Program) (w : World) (K : PySem.W.Frag) (mg : Str → Option Value) (base : Heap) (k : Nat) (x : Str) (ps : List Str) (sp : Sp) : Prop where
  ex : ∃ (f : Addr) (fd : FuncData), FnG P w K mg base CX0 k f fd ps sp ∧ mg x = some (.ref f) ∧ PySem.W.keepIn K (.ref f) = true ∧ Binds K fd ps []
section
variable {P : Program} {w : World} {K : PySem.W.Frag} {mg : Str → Option Value} {base : Heap} {k : Nat} {x : Str} {ps : List Str} {sp : Sp}
theorem Df.mk' {st : Stmt} {N : List Str} {f : Addr} {fd : FuncData} (S : Src K mg x st ps f fd) (sc : FnScope N ps (defScope st)) (hn : ∀ vs H Q E, sp vs H Q E → vs.length = ps.length)
    (hbody : ∀ (cdv : Value) (A : Around) (outer : List Env) (s : Shared) (H : Hp) (vs : List V) (Q : VK) (E : XK), (A.deeper (envOfC x (defScope st) s.heap.objs.size f cdv)).guards = some [] → Room k (A.deeper (envOfC x (defScope st) s.heap.objs.size f cdv)) → sp vs H Q E →
      ∃ t, PSs (cxOf CX0 P w K mg base N x (defScope st) f cdv A outer s H E).nox (defBody st) t ∧ t { nx := fun _ H' => Q .non H', rt := Q } (start N vs) H) : Df P w K mg base (k + 1) x ps sp :=
  ⟨f, fd, okG S.fn sc hn hbody, S.at_, S.fn.kp, S.bd⟩
/-- a def with its promise and its text -/
def DfS (P : Program) (w : World) (K : PySem.W.Frag) (mg : Str → Option Value) (base : Heap) (k : Nat) (x : Str) (st : Stmt) (ps : List Str) (sp : Sp) : Prop := ∃ (f : Addr) (fd : FuncData), FnG P w K mg base CX0 k f fd ps sp ∧ Src K mg x st ps f fd
theorem DfS.mk' {st : Stmt} {N : List Str} {f : Addr} {fd : FuncData} (S : Src K mg x st ps f fd) (sc : FnScope N ps (defScope st)) (hn : ∀ vs H Q E, sp vs H Q E → vs.length = ps.length)
    (hbody : ∀ (cdv : Value) (A : Around) (outer : List Env) (s : Shared) (H : Hp) (vs : List V) (Q : VK) (E : XK), (A.deeper (envOfC x (defScope st) s.heap.objs.size f cdv)).guards = some [] → Room k (A.deeper (envOfC x (defScope st) s.heap.objs.size f cdv)) → sp vs H Q E →
      ∃ t, PSs (cxOf CX0 P w K mg base N x (defScope st) f cdv A outer s H E).nox (defBody st) t ∧ t { nx := fun _ H' => Q .non H', rt := Q } (start N vs) H) : DfS P w K mg base (k + 1) x st ps sp := ⟨f, fd, okG S.fn sc hn hbody, S⟩
theorem DfS.df {st : Stmt} (D : DfS P w K mg base k x st ps sp) : Df P w K mg base k x ps sp := let ⟨f, fd, a, S⟩ := D; ⟨f, fd, a, S.at_, S.fn.kp, S.bd⟩
/-- .. by keywords -/
theorem DfS.kw {st : Stmt} {ks : List Str} {g : {α : Type} → List α → List α} (D : DfS P w K mg base k x st ps sp) (h : ∀ (kV doc pm : Value) (an : Option Addr) (cdv ct : Value) (ws : List Value), ws.length = ps.length → bindArgs (PySem.W.fnOf x x (defArgs st) (defBody st) (defScope st) .none kV doc pm an cdv ct) ⟨[], ks.zip ws⟩ = pure (ps.zip (g ws))) :
    ∃ f fd, FnG P w K mg base CX0 k f fd ps sp ∧ mg x = some (.ref f) ∧ PySem.W.keepIn K (.ref f) = true ∧ KwBinds K fd ps ks g := by
  obtain ⟨f, fd, a, S⟩ := D
  refine ⟨f, fd, a, S.at_, S.fn.kp, ?_⟩
  obtain ⟨oc, od, kV, doc, pm, an, cdv, ct, osl, rfl, lk, hcd⟩ := S.fn.ex
  exact fun s ws _ hl => .of_eq (h kV doc pm an cdv ct ws hl)
theorem Df.mono {j : Nat} (F : Df P w K mg base j x ps sp) (h : j ≤ k) : Df P w K mg base k x ps sp := let ⟨f, fd, a, b, c, d⟩ := F.ex; ⟨f, fd, a.mono h, b, c, d⟩
theorem Df.imp {sp' : Sp} (F : Df P w K mg base k x ps sp) (h : ∀ vs H Q E, sp' vs H Q E → sp vs H Q E) : Df P w K mg base k x ps sp' := let ⟨f, fd, a, b, c, d⟩ := F.ex; ⟨f, fd, a.imp h, b, c, d⟩
end
section
variable {X : Cx} {k j : Nat} {x : Str} {ps : List Str} {sp : Sp} {p pos : Pos} {e : Expr} {es : List Expr} {t : TA}
theorem pe_d (F : Df X.prog X.w X.K X.mg X.base k x ps sp) (hgd : X.A.guards = some []) (hr : Room j X.A) (ha : PA X (e :: es) t) (hj : k ≤ j := by first | exact Nat.le_refl _ | decide) (hg : Gl X x := by rfl)
    (hdb : (x == ("__debug__" : Str)) = false := by decide) (he : starEach (e :: es) X.env = (false, eval e X.env) :: starEach es X.env := by rfl) (hpl : (backTo pos (starEach es X.env)).any (·.1) = false := by rfl) :
    PE X (.Call (.Name x p) (e :: es) [] pos) (tCall sp [] E0 t) := by
  obtain ⟨f, fd, a, b, c, d⟩ := F.ex
  exact pe_g a hgd (hr.mono hj) hg b c d .nil pass0 ha hdb he hpl
theorem pe_d0 (F : Df X.prog X.w X.K X.mg X.base k x ps sp) (hgd : X.A.guards = some []) (hr : Room j X.A) (hj : k ≤ j := by first | exact Nat.le_refl _ | decide) (hg : Gl X x := by rfl) (hdb : (x == ("__debug__" : Str)) = false := by decide) :
    PE X (.Call (.Name x p) [] [] pos) (tCall sp [] E0 tNil) := by
  obtain ⟨f, fd, a, b, c, d⟩ := F.ex
  exact pe_g0 a hgd (hr.mono hj) hg b c d .nil pass0 hdb
end

/-! ### the deck: a list of the list of great numbers, a mixed number, a count -/
def deckL (l : Addr) (m t : Int) : List V := [.ref l, .int m, .int t]
/-- the deck stands at p with its list at l; G, which tracks neither, is a part of H -/
structure Wd (p l : Addr) (G H : Hp) : Prop where
  same : Same G H
  gp : G p = none
  gl : G l = none
  dk : ∃ m t : Int, 0 ≤ m ∧ m < 4294967291 ∧ H p = some (.lst (deckL l m t))
  ls : ∃ ns : List Int, ns.length ≤ 63 ∧ H l = some (.lst (ns.map V.int))
theorem Wd.ne {p l : Addr} {G H : Hp} (W : Wd p l G H) : p ≠ l := by
  obtain ⟨m, t, _, _, h1⟩ := W.dk
  obtain ⟨ns, _, h2⟩ := W.ls
  intro e
  rw [e, h2] at h1
  have e2 : ns.map V.int = deckL l m t := by
    injection (Option.some.inj h1)
  cases ns with
  | nil => cases e2
  | cons n ns =>
    injection e2 with e3
    cases e3
theorem Wd.np {p l : Addr} {G H : Hp} (W : Wd p l G H) {a : Addr} (h : H a = none) : a ≠ p := by
  obtain ⟨_, _, _, _, h1⟩ := W.dk
  intro e
  rw [e, h1] at h
  cases h
theorem Wd.nl {p l : Addr} {G H : Hp} (W : Wd p l G H) {a : Addr} (h : H a = none) : a ≠ l := by
  obtain ⟨_, _, h1⟩ := W.ls
  intro e
  rw [e, h1] at h
  cases h
/-- from one state to a later one: the deck may have been drawn from, G may have grown by new objects -/
structure Ext (p l : Addr) (G H G' H' : Hp) : Prop where
  w : Wd p l G' H'
  sub : Same G G'
  keep : ∀ b o, b ≠ p → b ≠ l → H b = some o → H' b = some o
  new : ∀ b o, H b = some o → G b = none → G' b = none
section
variable {p l : Addr} {G H G1 H1 G2 H2 : Hp}
theorem Ext.refl (W : Wd p l G H) : Ext p l G H G H := ⟨W, Same.refl G, fun _ _ _ _ h => h, fun _ _ _ h => h⟩
theorem Ext.trans (a : Ext p l G H G1 H1) (W : Wd p l G H) (b : Ext p l G1 H1 G2 H2) : Ext p l G H G2 H2 :=
  ⟨b.w, a.sub.trans b.sub, fun c o n1 n2 h => b.keep c o n1 n2 (a.keep c o n1 n2 h), fun c o h g => by
    have g1 := a.new c o h g
    by_cases n1 : c = p
    · subst n1; exact b.w.gp
    · by_cases n2 : c = l
      · subst n2; exact b.w.gl
      · exact b.new c o (a.keep c o n1 n2 h) g1⟩
/-- a new object, kept in G -/
theorem Wd.put (W : Wd p l G H) {a : Addr} {o : HO} (h : H a = none) : Ext p l G H (upd G a o) (upd H a o) := by
  have ga : G a = none := W.same.free h
  have np := W.np h
  have nl := W.nl h
  refine ⟨⟨fun b u q => ?_, by rw [upd_ne np.symm]; exact W.gp, by rw [upd_ne nl.symm]; exact W.gl, ?_, ?_⟩, fun b u q => ?_, fun b u _ _ q => ?_, fun b u q g => ?_⟩
  · by_cases e : b = a
    · subst e; rw [upd_same] at q ⊢; exact q
    · rw [upd_ne e] at q ⊢; exact W.same b u q
  · obtain ⟨m, t, m0, m1, e⟩ := W.dk
    exact ⟨m, t, m0, m1, by rw [upd_ne np.symm]; exact e⟩
  · obtain ⟨ns, z, e⟩ := W.ls
    exact ⟨ns, z, by rw [upd_ne nl.symm]; exact e⟩
  · rw [upd_ne (ne_of_none q ga)]; exact q
  · rw [upd_ne (ne_of_none q h)]; exact q
  · rw [upd_ne (ne_of_none q h)]; exact g
/-- a new object, not kept in G -/
theorem Wd.tmp (W : Wd p l G H) {a : Addr} {o : HO} (h : H a = none) : Ext p l G H G (upd H a o) := by
  have ga : G a = none := W.same.free h
  have np := W.np h
  have nl := W.nl h
  refine ⟨⟨fun b u q => ?_, W.gp, W.gl, ?_, ?_⟩, Same.refl G, fun b u _ _ q => ?_, fun b u q g => g⟩
  · rw [upd_ne (ne_of_none q ga)]; exact W.same b u q
  · obtain ⟨m, t, m0, m1, e⟩ := W.dk
    exact ⟨m, t, m0, m1, by rw [upd_ne np.symm]; exact e⟩
  · obtain ⟨ns, z, e⟩ := W.ls
    exact ⟨ns, z, by rw [upd_ne nl.symm]; exact e⟩
  · rw [upd_ne (ne_of_none q h)]; exact q
/-- an object of one's own, not in G, is changed -/
theorem Wd.own (W : Wd p l G H) {a : Addr} {o : HO} (hp : a ≠ p) (hl : a ≠ l) (hg : G a = none) : Wd p l G (upd H a o) := by
  refine ⟨fun b u q => ?_, W.gp, W.gl, ?_, ?_⟩
  · rw [upd_ne (ne_of_none q hg)]; exact W.same b u q
  · obtain ⟨m, t, m0, m1, e⟩ := W.dk
    exact ⟨m, t, m0, m1, by rw [upd_ne hp.symm]; exact e⟩
  · obtain ⟨ns, z, e⟩ := W.ls
    exact ⟨ns, z, by rw [upd_ne hl.symm]; exact e⟩
/-- an object of one's own is kept from now on -/
theorem Wd.hold (W : Wd p l G H) {a : Addr} {o : HO} (hp : a ≠ p) (hl : a ≠ l) (hg : G a = none) (h : H a = some o) : Wd p l (upd G a o) H ∧ Same G (upd G a o) := by
  refine ⟨⟨fun b u q => ?_, by rw [upd_ne hp.symm]; exact W.gp, by rw [upd_ne hl.symm]; exact W.gl, W.dk, W.ls⟩, fun b u q => ?_⟩
  · by_cases e : b = a
    · subst e; rw [upd_same] at q; rw [← q]; exact h
    · rw [upd_ne e] at q; exact W.same b u q
  · rw [upd_ne (ne_of_none q hg)]; exact q
end
end L2.Hx

/-! How long the text of data can be. -/
namespace L2.Hx
open PySem PySem.Spec PyProof.Rows
mutual
def okB : PyData → Bool
  | .none | .bool _ => true
  | .int i => decide (i.natAbs.log2 < 1920)
  | .str x => x.cps.toList.all fun c => decide (c < 1114112)
  | .list xs | .tuple xs => okAll xs
  | .dict kvs => okKv kvs
def okAll : List PyData → Bool
  | [] => true
  | x :: xs => okB x && okAll xs
def okKv : List (PyData × PyData) → Bool
  | [] => true
  | (k, v) :: r => okB k && okB v && okKv r
end
mutual
/-- no less than the signs of its text -/
def siz : PyData → Nat
  | .none | .bool _ => 5
  | .int _ => 1921
  | .str x => 10 * x.length + 2
  | .list xs | .tuple xs => sizAll xs + 3
  | .dict kvs => sizKv kvs + 2
def sizAll : List PyData → Nat
  | [] => 0
  | x :: xs => siz x + 2 + sizAll xs
def sizKv : List (PyData × PyData) → Nat
  | [] => 0
  | (k, v) :: r => siz k + siz v + 4 + sizKv r
end
theorem okAll_of : ∀ {xs : List PyData}, (∀ x ∈ xs, okB x = true) → okAll xs = true
  | [], _ => rfl
  | x :: xs, h => by
    rw [okAll, h x List.mem_cons_self, okAll_of fun y m => h y (List.mem_cons_of_mem _ m)]
    rfl
theorem sizAll_le {n : Nat} : ∀ {xs : List PyData}, (∀ x ∈ xs, siz x ≤ n) → sizAll xs ≤ (n + 2) * xs.length
  | [], _ => by simp [sizAll]
  | x :: xs, h => by
    have h1 := h x List.mem_cons_self
    have h2 := sizAll_le fun y m => h y (List.mem_cons_of_mem x m)
    rw [sizAll, List.length_cons, Nat.mul_add, Nat.mul_one]
    omega
theorem depthAll_le {n : Nat} : ∀ {xs : List PyData}, (∀ x ∈ xs, x.depth ≤ n) → PyData.depthAll xs ≤ n
  | [], _ => by simp [PyData.depthAll]
  | x :: xs, h => by
    have h1 := h x List.mem_cons_self
    have h2 := depthAll_le fun y m => h y (List.mem_cons_of_mem x m)
    rw [PyData.depthAll]
    omega
theorem textFrom0 (ts : List Str) (acc : Str) : (textFrom 0 acc ts).length ≤ acc.length + piled ts := by
  have h := textFrom_len ts 0 acc
  cases ts with
  | nil => exact Nat.le_add_right _ _
  | cons t r =>
    show (textFrom 1 (acc ++ t) r).length ≤ _
    rw [textFrom_length_pos r 1 (acc ++ t) Nat.one_pos, strLen_append, piled_cons]
    omega
theorem listText_le (ts : List Str) : (listText ts).length ≤ piled ts + 2 := by
  have h := textFrom0 ts "["
  unfold listText
  rw [strLen_append]
  have e1 : (("[" : Str)).length = 1 := rfl
  have e2 : (("]" : Str)).length = 1 := rfl
  omega
theorem dictText_le (ts : List Str) : (dictText ts).length ≤ piled ts + 2 := by
  have e1 : (("{" : Str)).length = 1 := rfl
  have e2 : (("}" : Str)).length = 1 := rfl
  unfold dictText
  rw [strLen_append, strLen_append]
  by_cases h : ts = []
  · subst h
    decide +kernel
  · have := join_length_add ts h
    omega
theorem int_len {i : Int} (h : i.natAbs.log2 < 1920) : (Str.ofString (toString i)).length ≤ 1921 := by
  have e := int_text_length_le (k := 1920) (by decide) h
  rw [PySem.ofString_length]
  omega
mutual
theorem ok_show : ∀ {d : PyData}, okB d = true → d.showable = true ∧ d.shown.length ≤ siz d
  | .none, _ => ⟨rfl, by simp only [PyData.shown, siz]; decide⟩
  | .bool b, _ => ⟨rfl, by simp only [PyData.shown, siz]; cases b <;> decide⟩
  | .int i, h => ⟨by simpa [PyData.showable, okB] using h, by simp only [PyData.shown, siz]; exact int_len (by simpa [okB] using h)⟩
  | .str x, h => ⟨rfl, by
      simp only [PyData.shown, siz]
      rw [okB, List.all_eq_true] at h
      exact StrLaws.reprText_len x fun c m => Nat.lt_trans (of_decide_eq_true (h c m)) (by decide)⟩
  | .list xs, h => by
    obtain ⟨a, b⟩ := ok_showAll (xs := xs) (by simpa [okB] using h)
    refine ⟨by simpa [PyData.showable] using a, ?_⟩
    simp only [PyData.shown, siz]
    exact Nat.le_trans (listText_le _) (by omega)
  | .tuple xs, h => by
    obtain ⟨a, b⟩ := ok_showAll (xs := xs) (by simpa [okB] using h)
    refine ⟨by simpa [PyData.showable] using a, ?_⟩
    simp only [PyData.shown, siz]
    exact Nat.le_trans (fmt_text _) (by omega)
  | .dict kvs, h => by
    obtain ⟨a, b⟩ := ok_showKv (kvs := kvs) (by simpa [okB] using h)
    refine ⟨by simpa [PyData.showable] using a, ?_⟩
    simp only [PyData.shown, siz]
    exact Nat.le_trans (dictText_le _) (by omega)
theorem ok_showAll : ∀ {xs : List PyData}, okAll xs = true → PyData.showableAll xs = true ∧ piled (PyData.shownAll xs) ≤ sizAll xs
  | [], _ => ⟨rfl, by simp [PyData.shownAll, piled_nil]⟩
  | x :: xs, h => by
    rw [okAll, Bool.and_eq_true] at h
    obtain ⟨a, b⟩ := ok_show h.1
    obtain ⟨c, d⟩ := ok_showAll h.2
    refine ⟨by rw [PyData.showableAll, a, c]; rfl, ?_⟩
    rw [PyData.shownAll, piled_cons, sizAll]
    omega
theorem ok_showKv : ∀ {kvs : List (PyData × PyData)}, okKv kvs = true → PyData.showableKv kvs = true ∧ piled (PyData.shownKv kvs) ≤ sizKv kvs
  | [], _ => ⟨rfl, by simp [PyData.shownKv, piled_nil]⟩
  | (k, v) :: r, h => by
    rw [okKv, Bool.and_eq_true, Bool.and_eq_true] at h
    obtain ⟨a, b⟩ := ok_show h.1.1
    obtain ⟨a2, b2⟩ := ok_show h.1.2
    obtain ⟨c, d⟩ := ok_showKv h.2
    refine ⟨by rw [PyData.showableKv, a, a2, c]; rfl, ?_⟩
    rw [PyData.shownKv, piled_cons, sizKv, strLen_append, strLen_append]
    have e1 : ((": " : Str)).length = 2 := rfl
    omega
end
/-- data that repr can tell: at most k deep, of a text of at most n signs -/
structure Okd (k n : Nat) (d : PyData) : Prop where
  ok : okB d = true
  dp : d.depth ≤ k
  sz : siz d ≤ n
theorem Okd.mono {k n k2 n2 : Nat} {d : PyData} (h : Okd k n d) (hk : k ≤ k2 := by decide) (hn : n ≤ n2 := by decide) : Okd k2 n2 d := ⟨h.ok, Nat.le_trans h.dp hk, Nat.le_trans h.sz hn⟩
theorem Okd.tup {k n m N : Nat} {ds : List PyData} (h : ∀ d ∈ ds, Okd k n d) (hl : ds.length ≤ m) (hN : (n + 2) * m + 3 ≤ N := by decide) : Okd (k + 1) N (.tuple ds) := by
  refine ⟨okAll_of fun d hd => (h d hd).ok, ?_, ?_⟩
  · have := depthAll_le fun d hd => (h d hd).dp
    simp only [PyData.depth]
    omega
  · have h1 := sizAll_le fun d hd => (h d hd).sz
    have h2 : (n + 2) * ds.length ≤ (n + 2) * m := Nat.mul_le_mul_left _ hl
    show sizAll ds + 3 ≤ N
    omega
theorem Okd.list {k n m N : Nat} {ds : List PyData} (h : ∀ d ∈ ds, Okd k n d) (hl : ds.length ≤ m) (hN : (n + 2) * m + 3 ≤ N := by decide) : Okd (k + 1) N (.list ds) := by
  have a := Okd.tup h hl hN
  exact ⟨a.ok, a.dp, a.sz⟩
theorem Okd.kids {k n : Nat} {ds : List PyData} (h : Okd (k + 1) n (.tuple ds)) : ∀ d ∈ ds, Okd k n d := by
  have h1 : okAll ds = true := h.ok
  have h2 : PyData.depthAll ds ≤ k := by
    have := h.dp
    simp only [PyData.depth] at this
    omega
  have h3 : sizAll ds ≤ n := by
    have := h.sz
    rw [siz] at this
    omega
  clear h
  induction ds with
  | nil => intro d hd; cases hd
  | cons x xs ih =>
    rw [okAll, Bool.and_eq_true] at h1
    rw [PyData.depthAll] at h2
    rw [sizAll] at h3
    intro d hd
    rcases List.mem_cons.mp hd with rfl | hd
    · exact ⟨h1.1, by omega, by omega⟩
    · exact ih h1.2 (by omega) (by omega) d hd
theorem Okd.shown {k n : Nat} {d : PyData} (h : Okd k n d) (hk : k ≤ 60) (hn : n ≤ sizeLine) : d.showable = true ∧ d.depth ≤ 60 ∧ d.shown.length ≤ sizeLine :=
  let ⟨a, b⟩ := ok_show h.ok
  ⟨a, Nat.le_trans h.dp hk, Nat.le_trans b (Nat.le_trans h.sz hn)⟩
end L2.Hx

/-! What a saying is, twice: as the program looks, and as the law does. -/
namespace L2.Hx
open PySem PySem.Spec PyProof.Rows
def w_WORDS : List Str := ["nil", "result", "fun", "head", "foot", "with", "var", "if", "else", "while", "keep", "new", "free", "any", "cell", "list", "empty", "is", "isnt"]
def w_LOOK_WORDS : List Str := ["is", "isnt"]
def w_PART_WORDS : List Str := ["cell", "list"]
def w_nr : List Str := ["nil", "result"]
def abc : List Nat := ("abcdefghijklmnopqrstuvwxyz" : Str).cps.toList
def letters (z : Str) : Bool := z.cps.toList.all fun c => decide (c ∈ abc)
def lenOk (z : Str) : Bool := decide (1 ≤ (z.length : Int)) && decide ((z.length : Int) ≤ 8)
def nameP (d : PyData) : Bool := match d with
  | .str z => lenOk z && (!decide (z ∈ w_WORDS) && letters z)
  | _ => false
def termP (d : PyData) : Bool := inWs d w_nr || nameP d
def termL (d : PyData) : Bool := match d with
  | .str z => lenOk z && (letters z && (decide (z ∈ w_nr) || !decide (z ∈ w_WORDS)))
  | _ => false
theorem term_eq (d : PyData) : termP d = termL d := by
  cases d with
  | str z =>
    by_cases h : z ∈ w_nr
    · rcases List.mem_cons.mp h with e | h2
      · subst e
        decide +kernel
      · rcases List.mem_cons.mp h2 with e | h3
        · subst e
          decide +kernel
        · cases h3
    · have e1 : decide (z ∈ w_nr) = false := decide_eq_false h
      show (decide (z ∈ w_nr) || (lenOk z && (!decide (z ∈ w_WORDS) && letters z))) = (lenOk z && (letters z && (decide (z ∈ w_nr) || !decide (z ∈ w_WORDS))))
      rw [e1, Bool.false_or, Bool.false_or]
      cases lenOk z <;> cases letters z <;> cases decide (z ∈ w_WORDS) <;> rfl
  | _ => rfl
def rowD (ws : List Str) (d : PyData) : Bool := match d with
  | .tuple [a, b, c] => inWs a ws && (termL b && termL c)
  | _ => false
def rowsD (ws : List Str) (most : Int) (d : PyData) : Bool := match d with
  | .tuple ds => decide ((ds.length : Int) ≤ most) && ds.all (rowD ws)
  | _ => false
def clauseD (d : PyData) : Bool := match d with
  | .tuple [a, b] => rowsD w_LOOK_WORDS 30 a && rowsD w_PART_WORDS 8 b
  | _ => false
/-- from the i-th item on -/
def dueFrom (i : Nat) : List PyData → PyData
  | [] => .none
  | d :: ds => if clauseD d then dueFrom (i + 1) ds else .tuple [.str "clause", .int i]
def dueD (d : PyData) : PyData := match d with
  | .tuple ds => if 1 ≤ ds.length ∧ ds.length ≤ 64 then dueFrom 0 ds else .str "form"
  | _ => .str "form"
theorem dueFrom_ok : ∀ (ds : List PyData) (i : Nat), (∀ d ∈ ds, clauseD d = true) → dueFrom i ds = .none
  | [], _, _ => rfl
  | d :: ds, i, h => by
    rw [dueFrom, if_pos (h d List.mem_cons_self)]
    exact dueFrom_ok ds (i + 1) fun e m => h e (List.mem_cons_of_mem _ m)
theorem dueFrom_okd : ∀ (ds : List PyData) (i : Nat), i + ds.length ≤ 100 → Okd 1 5000 (dueFrom i ds)
  | [], i, _ => ⟨rfl, by simp [dueFrom, PyData.depth], by show 5 ≤ 5000; decide⟩
  | d :: ds, i, h => by
    rw [List.length_cons] at h
    rw [dueFrom]
    split
    · exact dueFrom_okd ds (i + 1) (by omega)
    · have h1 : okB (.int (i : Int)) = true := by
        rw [okB]
        refine decide_eq_true ?_
        have h7 : (i : Int).natAbs < 2 ^ 7 := by omega
        exact Nat.lt_trans (PySem.Flt.log2_lt_of (by decide) h7) (by decide)
      have h2 : okB (.str "clause") = true := by decide +kernel
      refine ⟨by rw [okB, okAll, okAll, okAll, h1, h2]; rfl, by simp [PyData.depth, PyData.depthAll], ?_⟩
      show siz (.str "clause") + 2 + (1921 + 2 + 0) + 3 ≤ 5000
      have : siz (.str "clause") = 62 := by decide +kernel
      omega
theorem due_okd (d : PyData) : Okd 1 5000 (dueD d) := by
  have hf : Okd 1 5000 (.str "form") := ⟨by decide +kernel, by simp [PyData.depth], by decide +kernel⟩
  cases d with
  | tuple ds =>
    show Okd 1 5000 (if 1 ≤ ds.length ∧ ds.length ≤ 64 then dueFrom 0 ds else .str "form")
    split
    · exact dueFrom_okd ds 0 (by omega)
    · exact hf
  | _ => exact hf
/-- the size of an item -/
theorem siz_kid {d : PyData} : ∀ {ds : List PyData}, d ∈ ds → siz d ≤ siz (.tuple ds) := by
  intro ds h
  rw [siz]
  induction ds with
  | nil => cases h
  | cons x xs ih =>
    rw [sizAll]
    rcases List.mem_cons.mp h with rfl | h
    · omega
    · have := ih h
      omega
/-- data that the looks take -/
structure Fit (d : PyData) : Prop where
  ok : okB d = true
  sz : siz d ≤ sizeLine
theorem okAll_mem {d : PyData} : ∀ {ds : List PyData}, okAll ds = true → d ∈ ds → okB d = true
  | x :: xs, h, m => by
    rw [okAll, Bool.and_eq_true] at h
    rcases List.mem_cons.mp m with rfl | m
    · exact h.1
    · exact okAll_mem h.2 m
theorem Fit.kid {d : PyData} {ds : List PyData} (h : Fit (.tuple ds)) (m : d ∈ ds) : Fit d :=
  ⟨okAll_mem (show okAll ds = true from h.ok) m, Nat.le_trans (siz_kid m) h.sz⟩
theorem siz_len : ∀ ds : List PyData, ds.length ≤ siz (.tuple ds) := by
  intro ds
  rw [siz]
  induction ds with
  | nil => simp
  | cons x xs ih =>
    rw [sizAll, List.length_cons]
    omega
theorem siz_str (z : Str) : z.length ≤ siz (.str z) := by
  rw [siz]
  omega
end L2.Hx

/-! Expressions that lay data: what they come to, by its size. -/
namespace L2.Hx
open PySem PySem.Spec PyProof.Rows

/-! ### t != () -/
def rNeNil (K : PySem.W.Frag) : R2 := fun x y H Q => ∃ a b xs, x = .ref a ∧ y = .ref b ∧ SqT K H a xs ∧ SqT K H b [] ∧ Q (.bl (!xs.isEmpty)) H
theorem op_neNil {X : Cx} (hu : X.A.units + 64 < cLine) : OpR X (compareOp .NotEq) (rNeNil X.K) := by
  intro pins s σ H x y v u Q I rx ry h
  obtain ⟨a, b, xs, rfl, rfl, ha, hb, q⟩ := h
  cases rx
  cases ry
  obtain ⟨its, r1, p1, _⟩ := I.tuple ha
  obtain ⟨its2, r2, p2, _⟩ := I.tuple hb
  cases r2
  refine SeqAt.RcNeAt.tuples (e := fun _ => true) p1 p2 (by omega) (fun j h1 h2 => absurd h2 (by simp)) _ _ _ _ ⟨.bl _, H, I, rfl, ?_⟩
  have hl := r1.length
  have e : (!((List.range (min its.toArray.size ([] : List Value).toArray.size)).all (fun _ => true) && its.toArray.size == ([] : List Value).toArray.size)) = !xs.isEmpty := by
    cases xs with
    | nil =>
      cases r1
      rfl
    | cons x xs =>
      cases r1
      rfl
  rw [e]
  exact q

/-- all m of at most these depths and sizes -/
def All (k n m : Nat) (ds : List PyData) : Prop := ds.length = m ∧ ∀ d ∈ ds, Okd k n d
/-- a tuple of at most m such -/
def Tp (k n m : Nat) (d : PyData) : Prop := ∃ ds, d = .tuple ds ∧ ds.length ≤ m ∧ ∀ x ∈ ds, Okd k n x
/-- a list of at most m such, not empty -/
def Ls (k n m : Nat) (d : PyData) : Prop := ∃ ds, d = .list ds ∧ 0 < ds.length ∧ ds.length ≤ m ∧ ∀ x ∈ ds, Okd k n x
theorem Tp.okd {k n m N : Nat} {d : PyData} (h : Tp k n m d) (hN : (n + 2) * m + 3 ≤ N := by decide) : Okd (k + 1) N d := by
  obtain ⟨ds, rfl, hl, h⟩ := h
  exact Okd.tup h hl hN
theorem Ls.okd {k n m N : Nat} {d : PyData} (h : Ls k n m d) (hN : (n + 2) * m + 3 ≤ N := by decide) : Okd (k + 1) N d := by
  obtain ⟨ds, rfl, _, hl, h⟩ := h
  exact Okd.list h hl hN
theorem Tp.mono {k n m k2 n2 m2 : Nat} {d : PyData} (h : Tp k n m d) (hk : k ≤ k2 := by decide) (hn : n ≤ n2 := by decide) (hm : m ≤ m2 := by decide) : Tp k2 n2 m2 d := by
  obtain ⟨ds, rfl, hl, h⟩ := h
  exact ⟨ds, rfl, Nat.le_trans hl hm, fun x m => (h x m).mono hk hn⟩
theorem Okd.tp {k n : Nat} {ds : List PyData} (h : Okd (k + 1) n (.tuple ds)) {m : Nat} (hl : ds.length ≤ m) : Tp k n m (.tuple ds) := ⟨ds, rfl, hl, h.kids⟩

section
variable (K : PySem.W.Frag) (p l : Addr) (σ : St) (G : Hp)
/-- whatever the heap, what comes is such data; the deck may be drawn from -/
def TD (t : TE) (φ : PyData → Prop) : Prop := ∀ (G1 H : Hp) (Q : VK), Wd p l G1 H → Same G G1 → (∀ v d G2 H2, Ext p l G1 H G2 H2 → Da K G2 v d → φ d → Q v H2) → t σ H Q
def TDs (t : TA) (Φ : List PyData → Prop) : Prop := ∀ (G1 H : Hp) (Q : List V → Hp → Prop), Wd p l G1 H → Same G G1 → (∀ vs ds G2 H2, Ext p l G1 H G2 H2 → DaAll K G2 vs ds → Φ ds → Q vs H2) → t σ H Q
end
/-- a slice's end -/
def TPt (σ : St) (t : TO) : Prop := ∀ (H : Hp) (Q : Option Int → Hp → Prop), (∀ o, Q o H) → t σ H Q
section
variable {K : PySem.W.Frag} {p l : Addr} {σ : St} {G : Hp} {t ta tb : TE} {tr : TA} {φ ψ : PyData → Prop} {Φ : List PyData → Prop} {k n m : Nat}
theorem TD.imp (h : TD K p l σ G t φ) (hi : ∀ d, φ d → ψ d) : TD K p l σ G t ψ := fun G1 H Q W s k => h G1 H Q W s fun v d G2 H2 e da f => k v d G2 H2 e da (hi d f)
theorem TD.run {H : Hp} {Q : VK} (h : TD K p l σ G t φ) (W : Wd p l G H) (k : ∀ v d G2 H2, Ext p l G H G2 H2 → Da K G2 v d → φ d → Q v H2) : t σ H Q := h G H Q W (Same.refl G) k
theorem TD.asg {H : Hp} {D : Ends} {i : Nat} (h : TD K p l σ G t φ) (W : Wd p l G H) (k : ∀ v d G2 H2, Ext p l G H G2 H2 → Da K G2 v d → φ d → D.nx (σ.set i (some v)) H2) : tAsg t (gName i) D σ H := h G H _ W (Same.refl G) k
theorem TD.asgG {H : Hp} {D : Ends} {g : TG} (h : TD K p l σ G t φ) (W : Wd p l G H) (k : ∀ v d G2 H2, Ext p l G H G2 H2 → Da K G2 v d → φ d → g v σ H2 D.nx) : tAsg t g D σ H := h G H _ W (Same.refl G) k
theorem TD.ret {H : Hp} {D : Ends} (h : TD K p l σ G t φ) (W : Wd p l G H) (k : ∀ v d G2 H2, Ext p l G H G2 H2 → Da K G2 v d → φ d → D.rt v H2) : tRet t D σ H := h G H _ W (Same.refl G) k
theorem TD.flat {v : V} {d : PyData} (hd : ∀ G, Da K G v d) (hf : φ d) : TD K p l σ G (tC v) φ := fun G1 H Q W _ k => k _ _ _ _ (Ext.refl W) (hd _) hf
theorem td_str {x : Str} (h : okB (.str x) = true := by decide +kernel) (hn : siz (.str x) ≤ n := by decide +kernel) : TD K p l σ G (tC (.str x)) (Okd k n) := .flat (fun _ => .str x) ⟨h, Nat.zero_le _, hn⟩
theorem td_int {i : Int} (h : i.natAbs.log2 < 1920 := by decide) (hn : 1921 ≤ n := by decide) : TD K p l σ G (tC (.int i)) (Okd k n) := .flat (fun _ => .int i) ⟨decide_eq_true h, Nat.zero_le _, hn⟩
theorem td_non (hn : 5 ≤ n := by decide) : TD K p l σ G (tC .non) (Okd k n) := .flat (fun _ => .non) ⟨rfl, Nat.zero_le _, hn⟩
theorem td_bl {b : Bool} (hn : 5 ≤ n := by decide) : TD K p l σ G (tC (.bl b)) (Okd k n) := .flat (fun _ => .bl b) ⟨rfl, Nat.zero_le _, hn⟩
theorem td_var {i : Nat} {v : V} {d : PyData} (hi : σ[i]? = some (some v)) (hd : Da K G v d) (hf : φ d) : TD K p l σ G (tVar i) φ := fun G1 H Q W s k => ⟨v, hi, k _ _ _ _ (Ext.refl W) (hd.mono s) hf⟩
theorem tds_nil : TDs K p l σ G tNil (All k n 0) := fun G1 H Q W _ k => k _ _ _ _ (Ext.refl W) .nil ⟨rfl, fun d h => absurd h List.not_mem_nil⟩
theorem tds_cons (h : TD K p l σ G t (Okd k n)) (hr : TDs K p l σ G tr (All k n m)) : TDs K p l σ G (tCons t tr) (All k n (m + 1)) := fun G1 H Q W s k =>
  h G1 H _ W s fun v d G2 H2 e da f => hr G2 H2 _ e.w (s.trans e.sub) fun vs ds G3 H3 e3 das f3 => k _ _ _ _ (e.trans W e3) (.cons (da.mono e3.sub) das)
    ⟨by rw [List.length_cons, f3.1], fun x mx => by
      rcases List.mem_cons.mp mx with rfl | mx
      · exact f
      · exact f3.2 x mx⟩
/-- for arguments of any kinds -/
theorem tds_consP (h : TD K p l σ G t φ) (hr : TDs K p l σ G tr Φ) : TDs K p l σ G (tCons t tr) (fun ds => ∃ d r, ds = d :: r ∧ φ d ∧ Φ r) := fun G1 H Q W s k =>
  h G1 H _ W s fun v d G2 H2 e da f => hr G2 H2 _ e.w (s.trans e.sub) fun vs ds G3 H3 e3 das f3 => k _ _ _ _ (e.trans W e3) (.cons (da.mono e3.sub) das) ⟨d, ds, rfl, f, f3⟩
theorem tds_nilP : TDs K p l σ G tNil (fun ds => ds = []) := fun G1 H Q W _ k => k _ _ _ _ (Ext.refl W) .nil rfl
theorem td_tupP (h : TDs K p l σ G tr Φ) (hz : ∀ ds, Φ ds → ds.length ≤ sizeLine) : TD K p l σ G (tTup tr) (fun d => ∃ ds, d = .tuple ds ∧ Φ ds) := fun G1 H Q W s k =>
  h G1 H _ W s fun vs ds G2 H2 e da f => ⟨by rw [da.length]; exact hz ds f, fun a ha => k _ _ _ _ (e.trans W (e.w.put ha)) (.tup (SqT.of upd_same) (da.mono (e.w.put (o := .tup vs) ha).sub)) ⟨ds, rfl, f⟩⟩
theorem td_tup (h : TDs K p l σ G tr (All k n m)) (hz : m ≤ sizeLine := by decide) : TD K p l σ G (tTup tr) (Tp k n m) :=
  (td_tupP h fun ds f => by rw [f.1]; exact hz).imp fun d ⟨ds, e, f⟩ => ⟨ds, e, Nat.le_of_eq f.1, f.2⟩
theorem td_lst (h : TDs K p l σ G tr (All k n (m + 1))) (hz : m + 1 ≤ sizeLine := by decide) : TD K p l σ G (tLst tr) (Ls k n (m + 1)) := fun G1 H Q W s k =>
  h G1 H _ W s fun vs ds G2 H2 e da f => ⟨by rw [da.length, f.1]; exact hz, fun a ha => k _ _ _ _ (e.trans W (e.w.put ha)) (.lst upd_same (da.mono (e.w.put (o := .lst vs) ha).sub)) ⟨ds, rfl, by rw [f.1]; omega, Nat.le_of_eq f.1, f.2⟩⟩
theorem td_lst0 (hn : 3 ≤ n := by decide) : TD K p l σ G (tLst tNil) (Okd (k + 1) n) := fun G1 H Q W s k => ⟨Nat.zero_le _, fun a ha => k _ _ _ _ (W.put ha) (.lst upd_same .nil) ⟨rfl, by simp [PyData.depth, PyData.depthAll], hn⟩⟩
theorem td_tup0 : TD K p l σ G (tTup tNil) (Tp k n 0) := fun G1 H Q W s k => ⟨Nat.zero_le _, fun a ha => k _ _ _ _ (W.put ha) (.tup (SqT.of upd_same) .nil) ⟨[], rfl, Nat.le_refl _, fun x h => absurd h List.not_mem_nil⟩⟩
theorem td_dict0 (hn : 2 ≤ n := by decide) : TD K p l σ G tDNewK (Okd (k + 1) n) := fun G1 H Q W s k => fun a ha => k _ _ _ _ (W.put ha) (Da.dct (kvs := []) upd_same .nil) ⟨rfl, by simp [PyData.depth, PyData.depthKv], hn⟩
theorem Da.tpI {G : Hp} {v : V} {d : PyData} (h : Da K G v d) (f : Tp k n m d) : ∃ a xs ds, v = .ref a ∧ d = .tuple ds ∧ SqT K G a xs ∧ DaAll K G xs ds ∧ ds.length ≤ m ∧ ∀ x ∈ ds, Okd k n x := by
  obtain ⟨ds, rfl, h1, h2⟩ := f
  cases h with
  | tup a b => exact ⟨_, _, ds, rfl, rfl, a, b, h1, h2⟩
theorem Da.lsI {G : Hp} {v : V} {d : PyData} (h : Da K G v d) (f : Ls k n m d) : ∃ a xs ds, v = .ref a ∧ d = .list ds ∧ G a = some (.lst xs) ∧ DaAll K G xs ds ∧ 0 < ds.length ∧ ds.length ≤ m ∧ ∀ x ∈ ds, Okd k n x := by
  obtain ⟨ds, rfl, h0, h1, h2⟩ := f
  cases h with
  | lst a b => exact ⟨_, _, ds, rfl, rfl, a, b, h0, h1, h2⟩
/-- t + u, tuples -/
theorem td_catA {m2 : Nat} (ha : TD K p l σ G ta (Tp k n m)) (hb : TD K p l σ G tb (Tp k n m2)) (hz : m + m2 ≤ sizeLine := by decide) : TD K p l σ G (tOp (rCatA K) ta tb) (Tp k n (m + m2)) := fun G1 H Q W s k =>
  ha G1 H _ W s fun v d G2 H2 e da f => hb G2 H2 _ e.w (s.trans e.sub) fun u d2 G3 H3 e3 da3 f3 => by
    obtain ⟨a, xs, ds, rfl, rfl, t1, a1, l1, o1⟩ := da.tpI f
    obtain ⟨b, ys, es, rfl, rfl, t2, a2, l2, o2⟩ := da3.tpI f3
    have E := e.trans W e3
    refine ⟨a, b, xs, ys, rfl, rfl, sameT (e3.sub.trans e3.w.same) t1, sameT e3.w.same t2, by rw [a1.length, a2.length]; omega, fun hx => ?_, fun hx hy => ?_, fun hx hy c hc => ?_⟩
    · exact k _ _ _ _ E da3 ⟨es, rfl, by omega, o2⟩
    · exact k _ _ _ _ E (da.mono e3.sub) ⟨ds, rfl, by omega, o1⟩
    · have e4 := e3.w.put (o := .tup (xs ++ ys)) hc
      refine k _ _ _ _ (E.trans W e4) (.tup (SqT.of upd_same) ((a1.mono (e3.sub.trans e4.sub)).append (a2.mono e4.sub))) ⟨ds ++ es, rfl, by rw [List.length_append]; omega, fun x mx => ?_⟩
      rcases List.mem_append.mp mx with mx | mx
      · exact o1 x mx
      · exact o2 x mx
/-- xs + ys, lists -/
theorem td_cat {m2 : Nat} (ha : TD K p l σ G ta (Ls k n m)) (hb : TD K p l σ G tb (Ls k n m2)) (hz : m + m2 ≤ sizeLine := by decide) : TD K p l σ G (tOp rCat ta tb) (Ls k n (m + m2)) := fun G1 H Q W s k =>
  ha G1 H _ W s fun v d G2 H2 e da f => hb G2 H2 _ e.w (s.trans e.sub) fun u d2 G3 H3 e3 da3 f3 => by
    obtain ⟨a, xs, ds, rfl, rfl, t1, a1, z1, l1, o1⟩ := da.lsI f
    obtain ⟨b, ys, es, rfl, rfl, t2, a2, z2, l2, o2⟩ := da3.lsI f3
    have E := e.trans W e3
    refine ⟨a, b, xs, ys, rfl, rfl, (e3.sub.trans e3.w.same) _ _ t1, e3.w.same _ _ t2, by rw [a1.length, a2.length]; omega, fun c hc => ?_⟩
    have e4 := e3.w.put (o := .lst (xs ++ ys)) hc
    refine k _ _ _ _ (E.trans W e4) (.lst upd_same ((a1.mono (e3.sub.trans e4.sub)).append (a2.mono e4.sub))) ⟨ds ++ es, rfl, by rw [List.length_append]; omega, by rw [List.length_append]; omega, fun x mx => ?_⟩
    rcases List.mem_append.mp mx with mx | mx
    · exact o1 x mx
    · exact o2 x mx
/-- t[lo:hi] -/
theorem td_sl {tl th : TO} (ha : TD K p l σ G ta (Tp k n m)) (hl : TPt σ tl) (hh : TPt σ th) : TD K p l σ G (tSl (rSlA K) ta tl th) (Tp k n m) := fun G1 H Q W s k =>
  ha G1 H _ W s fun v d G2 H2 e da f => hl H2 _ fun lo => hh H2 _ fun hi => by
    obtain ⟨a, xs, ds, rfl, rfl, t1, a1, l1, o1⟩ := da.tpI f
    refine ⟨a, xs, rfl, sameT e.w.same t1, fun _ => k _ _ _ _ e da ⟨ds, rfl, l1, o1⟩, fun _ c hc => ?_⟩
    have e4 := e.w.put (o := .tup (cutV xs lo hi)) hc
    refine k _ _ _ _ (e.trans W e4) (.tup (SqT.of upd_same) ((((a1.drop _).take _).mono e4.sub))) ⟨_, rfl, ?_, fun x mx => o1 x (List.mem_of_mem_drop (List.mem_of_mem_take mx))⟩
    rw [List.length_take, List.length_drop]
    omega
theorem tp_none : TPt σ tNoPart := fun H Q h => h none
theorem tp_int {i : Int} : TPt σ (tPart (tC (.int i))) := fun H Q h => ⟨i, rfl, h _⟩
theorem tp_var {i : Nat} {z : Int} (hi : σ[i]? = some (some (.int z))) : TPt σ (tPart (tVar i)) := fun H Q h => ⟨_, hi, _, rfl, h _⟩
theorem tp_add {i : Nat} {z c : Int} (hi : σ[i]? = some (some (.int z))) : TPt σ (tPart (tOp (rI0 fun i j => .int (i + j)) (tVar i) (tC (.int c)))) := fun H Q h => ⟨_, hi, _, _, rfl, rfl, _, rfl, h _⟩
/-- (x,) * c -/
theorem td_rep {c : Int} {N : Nat} (ha : TD K p l σ G ta (fun d => ∃ x, d = .tuple [x] ∧ Okd k n x)) (h2 : 2 ≤ c := by decide) (h3 : c ≤ 1000 := by decide) (hN : c.toNat ≤ N := by decide) : TD K p l σ G (tOp (rRepT K) ta (tC (.int c))) (Tp k n N) := fun G1 H Q W s k =>
  ha G1 H _ W s fun v d G2 H2 e da f => by
    obtain ⟨x, rfl, o1⟩ := f
    cases da with
    | @tup a xs _ t1 a1 =>
      cases a1 with
      | cons b1 b2 =>
        cases b2
        rename_i y
        refine ⟨a, c, [y], rfl, rfl, sameT e.w.same t1, by simp, h2, h3, by simp, fun q hq => ?_⟩
        have e4 := e.w.put (o := .tup (List.replicate c.toNat [y]).flatten) hq
        refine k _ _ _ _ (e.trans W e4) (.tup (SqT.of upd_same) ((DaAll.flat (.cons b1 .nil) c.toNat).mono e4.sub)) ⟨_, rfl, ?_, fun z mz => ?_⟩
        · rw [PyProof.Rows.lm_len_rep_flat]
          simpa using hN
        · rw [List.mem_flatten] at mz
          obtain ⟨r, hr, mz⟩ := mz
          rw [(List.mem_replicate.mp hr).2] at mz
          rw [List.mem_singleton.mp mz]
          exact o1
/-- list(t), t a tuple -/
theorem td_list_of (ha : TD K p l σ G ta (Tp k n m)) {N : Nat} (hN : (n + 2) * m + 3 ≤ N := by decide) :
    TD K p l σ G (tCB (fun xs H Q => ∃ p ys, xs = [.ref p] ∧ (SqL K H p ys ∨ SqT K H p ys) ∧ ∀ l, H l = none → Q (.ref l) (upd H l (.lst ys))) (tCons ta tNil)) (Okd (k + 1) N) := fun G1 H Q W s k =>
  ha G1 H _ W s fun v d G2 H2 e da f => by
    obtain ⟨a, xs, ds, rfl, rfl, t1, a1, l1, o1⟩ := da.tpI f
    refine ⟨a, xs, rfl, .inr (sameT e.w.same t1), fun q hq => ?_⟩
    have e4 := e.w.put (o := .lst xs) hq
    exact k _ _ _ _ (e.trans W e4) (.lst upd_same (a1.mono e4.sub)) (Okd.list o1 l1 hN)
/-- tuple(xs), xs a list -/
theorem td_tuple_of {N : Nat} (ha : TD K p l σ G ta (fun d => ∃ ds, d = .list ds ∧ ds.length ≤ m ∧ ∀ x ∈ ds, Okd k n x)) :
    TD K p l σ G (tCB (fun xs H Q => ∃ p ys, xs = [.ref p] ∧ ((SqL K H p ys ∧ ∀ l, H l = none → Q (.ref l) (upd H l (.tup ys))) ∨ (SqT K H p ys ∧ Q (.ref p) H))) (tCons ta tNil)) (Tp k n m) := fun G1 H Q W s k =>
  ha G1 H _ W s fun v d G2 H2 e da f => by
    obtain ⟨ds, rfl, l1, o1⟩ := f
    cases da with
    | @lst a xs _ t1 a1 =>
      refine ⟨a, xs, rfl, .inl ⟨SqL.of (e.w.same _ _ t1), fun q hq => ?_⟩⟩
      have e4 := e.w.put (o := .tup xs) hq
      exact k _ _ _ _ (e.trans W e4) (.tup (SqT.of upd_same) (a1.mono e4.sub)) ⟨ds, rfl, l1, o1⟩
end
/-! ### comprehensions over a range -/
section
variable (K : PySem.W.Frag) (p l : Addr) (σ : St) (G : Hp)
/-- a range of N turns, N as told; the deck may be drawn from -/
def TW (wi : TI) (ν : Nat → Prop) : Prop := ∀ (G1 H : Hp) (R : It → Hp → Prop), Wd p l G1 H → Same G G1 → (∀ N G2 H2, ν N → Ext p l G1 H G2 H2 → R (Itr 0 N) H2) → wi σ H R
end
/-- a list whose length and items are as told -/
def LsN (ν : Nat → Prop) (φ : PyData → Prop) (d : PyData) : Prop := ∃ ds, d = .list ds ∧ ν ds.length ∧ ∀ x ∈ ds, φ x
section
variable {K : PySem.W.Frag} {p l : Addr} {σ : St} {G : Hp}
theorem set_none {j : Nat} {v : Option V} (σ : St) : ((σ.set j none).set j v).set j none = σ.set j none := by
  rw [List.set_set, List.set_set]
theorem tw_var {i : Nat} {z : Int} (hi : σ[i]? = some (some (.int z))) (h0 : 0 ≤ z) (h1 : z < 1000000) : TW p l σ G (iRng1 (tCons (tVar i) tNil)) (fun N => (N : Int) = z) := fun G1 H R W s k =>
  ⟨_, hi, z, rfl, by omega, by omega, k _ _ _ (by omega) (Ext.refl W)⟩
theorem tw_int {z : Int} (h0 : 0 ≤ z) (h1 : z < 1000000) : TW p l σ G (iRng1 (tCons (tC (.int z)) tNil)) (fun N => (N : Int) = z) := fun G1 H R W s k =>
  ⟨z, rfl, by omega, by omega, k _ _ _ (by omega) (Ext.refl W)⟩
theorem td_lc {wi : TI} {te : TE} {j M : Nat} {ν : Nat → Prop} {φ : PyData → Prop} (hw : TW p l σ G wi ν) (hM : ∀ N, ν N → N ≤ M) (hM2 : M < sizeLine) (he : ∀ i : Nat, TD K p l ((σ.set j none).set j (some (.int (0 + (i : Int))))) G te φ) :
    TD K p l σ G (tLc wi (gName j) tYes te [j]) (LsN ν φ) := fun G1 H Q W s k =>
  hw G1 H _ W s fun N G2 H2 hN e => fun D hD => by
    have nDp := e.w.np hD
    have nDl := e.w.nl hD
    have E1 := e.w.tmp (o := .lst []) hD
    refine lc_range (lo := 0) (n := N) (fun i H3 => ∃ G3 xs ds, Wd p l G3 H3 ∧ Same G2 G3 ∧ G3 D = none ∧ H3 D = some (.lst xs) ∧ DaAll K G3 xs ds ∧ ds.length = i ∧ (∀ x ∈ ds, φ x) ∧
        (∀ b o, b ≠ p → b ≠ l → b ≠ D → H2 b = some o → H3 b = some o) ∧ (∀ b o, H2 b = some o → G2 b = none → G3 b = none))
      ⟨G2, [], [], E1.w, Same.refl _, e.w.same.free hD, upd_same, .nil, rfl, fun x m => absurd m List.not_mem_nil, fun b o n1 n2 n3 q => by rw [upd_ne n3]; exact q, fun b o _ g => g⟩ ?_ ?_
    · rintro i H3 hi ⟨G3, xs, ds, w3, s3, gD, hD3, da3, l3, f3, k3, n3⟩
      refine ⟨set_none σ, ?_⟩
      show te _ _ _
      refine he i G3 H3 _ w3 ((s.trans e.sub).trans s3) fun v d G4 H4 e4 da4 f4 => ?_
      have hD4 : H4 D = some (.lst xs) := e4.keep _ _ nDp nDl hD3
      have gD4 : G4 D = none := e4.new _ _ hD3 gD
      refine ⟨xs, hD4, by rw [da3.length, l3]; exact Nat.lt_of_lt_of_le hi (Nat.le_trans (hM N hN) (Nat.le_of_lt hM2)), G4, xs ++ [v], ds ++ [d], e4.w.own nDp nDl gD4, s3.trans e4.sub, gD4, upd_same, (da3.mono e4.sub).append (.cons da4 .nil),
        by rw [List.length_append, l3]; rfl, fun x m => ?_, fun b o n1 n2 n4 q => ?_, fun b o q g => ?_⟩
      · rcases List.mem_append.mp m with m | m
        · exact f3 x m
        · rw [List.mem_singleton.mp m]
          exact f4
      · rw [upd_ne n4]
        exact e4.keep _ _ n1 n2 (k3 b o n1 n2 n4 q)
      · have g3 := n3 b o q g
        by_cases b1 : b = p
        · subst b1
          exact e4.w.gp
        · by_cases b2 : b = l
          · subst b2
            exact e4.w.gl
          · exact e4.new b o (k3 b o b1 b2 (ne_of_none q hD) q) g3
    · rintro H3 ⟨G3, xs, ds, w3, s3, gD, hD3, da3, l3, f3, k3, n3⟩
      obtain ⟨w4, s4⟩ := w3.hold nDp nDl gD hD3
      have E2 : Ext p l G2 H2 (upd G3 D (.lst xs)) H3 := ⟨w4, s3.trans s4, fun b o n1 n2 q => k3 b o n1 n2 (ne_of_none q hD) q, fun b o q g => by
        rw [upd_ne (ne_of_none q hD)]
        exact n3 b o q g⟩
      exact k _ _ _ _ (e.trans W E2) (.lst upd_same (da3.mono s4)) ⟨ds, rfl, by rw [l3]; exact hN, f3⟩
/-- tuple(xs), xs a list as told -/
theorem td_tupleN {ta : TE} {ν : Nat → Prop} {φ : PyData → Prop} (ha : TD K p l σ G ta (LsN ν φ)) :
    TD K p l σ G (tCB (fun xs H Q => ∃ p ys, xs = [.ref p] ∧ ((SqL K H p ys ∧ ∀ l, H l = none → Q (.ref l) (upd H l (.tup ys))) ∨ (SqT K H p ys ∧ Q (.ref p) H))) (tCons ta tNil)) (fun d => ∃ ds, d = .tuple ds ∧ ν ds.length ∧ ∀ x ∈ ds, φ x) := fun G1 H Q W s k =>
  ha G1 H _ W s fun v d G2 H2 e da f => by
    obtain ⟨ds, rfl, l1, o1⟩ := f
    cases da with
    | @lst a xs _ t1 a1 =>
      refine ⟨a, xs, rfl, .inl ⟨SqL.of (e.w.same _ _ t1), fun q hq => ?_⟩⟩
      have e4 := e.w.put (o := .tup xs) hq
      exact k _ _ _ _ (e.trans W e4) (.tup (SqT.of upd_same) (a1.mono e4.sub)) ⟨ds, rfl, l1, o1⟩
theorem td_tupO {tr : TA} {k n m k2 N : Nat} (h : TDs K p l σ G tr (All k n m)) (hN : (n + 2) * m + 3 ≤ N := by decide) (hk : k + 1 ≤ k2 := by decide) (hz : m ≤ sizeLine := by decide) : TD K p l σ G (tTup tr) (Okd k2 N) :=
  (td_tup h hz).imp fun d f => (f.okd hN).mono hk (Nat.le_refl _)
theorem td_tup0O {k n : Nat} (hk : 1 ≤ k := by decide) (hn : 3 ≤ n := by decide) : TD K p l σ G (tTup tNil) (Okd k n) := td_tup0.imp fun d (f : Tp 0 0 0 d) => (f.okd (N := 3)).mono hk hn
theorem td_tpO {t : TE} {k n m k2 N : Nat} (h : TD K p l σ G t (Tp k n m)) (hN : (n + 2) * m + 3 ≤ N := by decide) (hk : k + 1 ≤ k2 := by decide) : TD K p l σ G t (Okd k2 N) := h.imp fun d f => (f.okd hN).mono hk (Nat.le_refl _)
end
end L2.Hx

/-! list(zip(xs, ys)), two lists of one length. -/
namespace L2.Zx
open PySem PySem.Spec PyProof.Rows
abbrev ZipF (h : Heap) (z TI TO a : Addr) (f : Bool) : Prop :=
  h.get? z = some { cls := .type "zip", dict := none, data := .fields #[rawInt a, .bool f, .bool false, .ref TI, .ref TO], slots := #[] }
section
variable {prog : Program} {w : World} {A : Around} {E : Value → Shared → Prop} {s : Shared}
theorem owned_out {z TI TO a : Addr} {f : Bool} {oa : Obj} {Q : Bool → Shared → Prop} (hz : ZipF s.heap z TI TO a f) (ha : s.heap.get? a = some oa)
    (hQ : ∀ h₃, ZipF h₃ z TI TO a true → Heap.SameBut z s.heap h₃ → Q false { s with heap := h₃ }) : wpAny (model prog w) A (Builtin.SmallTypes.ownedTupleIsFree (.ref z)) Q E s := by
  unfold Builtin.SmallTypes.ownedTupleIsFree
  refine wpAny_bind (wpAny_field hz rfl (x := rawInt a) rfl ?_)
  show wpAny _ _ (loadIfAlive ((a : Int).toNat) >>= _) _ _ _
  rw [Int.toNat_natCast]
  refine wpAny_bind (PySem.W.kdx_alive ha ?_)
  simp only [Option.isNone_some, Bool.false_eq_true, if_false]
  refine wpAny_bind (wpAny_field hz rfl (x := .bool f) rfl ?_)
  cases f with
  | true =>
    rw [if_neg (show ¬ ((Value.bool true != Value.bool true) = true) from Bool.false_ne_true)]
    exact wpAny_pure (hQ s.heap hz (Heap.SameBut.refl _ _))
  | false =>
    rw [if_pos (show (Value.bool false != Value.bool true) = true from rfl)]
    refine wpAny_bind (wpAny_setField_rec hz (by simp) fun h₃ hz₃ hs₃ => ?_)
    exact wpAny_pure (hQ h₃ hz₃ hs₃)
theorem next_out {z TI TO i1 i2 l1 l2 a : Addr} {f : Bool} {oa : Obj} {k : Nat} {xs ys : Array Value} {x y : Value} {Q : Option Value → Shared → Prop} (D : ZipApart z TI TO i1 i2 l1 l2)
    (hz : ZipF s.heap z TI TO a f) (ha : s.heap.get? a = some oa) (hTI : IsPair s.heap TI (.ref i1) (.ref i2))
    (h1 : s.heap.IsListIter i1 l1 k) (h2 : s.heap.IsListIter i2 l2 k) (hl1 : s.heap.IsList l1 xs) (hl2 : s.heap.IsList l2 ys) (hx : xs[k]? = some x) (hy : ys[k]? = some y)
    (hQ : ∀ h', ZipF h' z TI TO a true → h'.IsListIter i1 l1 (k + 1) → h'.IsListIter i2 l2 (k + 1) → IsPair h' s.heap.objs.size x y → h'.objs.size = s.heap.objs.size + 1 →
      (∀ c o, c ≠ z → c ≠ i1 → c ≠ i2 → s.heap.get? c = some o → h'.get? c = some o) → Q (some (.ref s.heap.objs.size)) { s with heap := h' }) :
    wpAny (model prog w) A (pyNext (.ref z)) Q E s := by
  have hT : s.TypeIs (.ref z) "zip" := ⟨_, hz, rfl⟩
  unfold pyNext
  refine wpAny_bind (wpAny_attempt (wpAny_callSpecial?_slot (name := Str.ofString "__next__") hT F.slot_zip_next
    (wpAny_call_entry F.slot_zip_next hT F.entry_zip_next ?_ (F.args_zip_next_1 _))))
  show wpAny _ _ (field (.ref z) 2 >>= _) _ _ _
  refine wpAny_bind (wpAny_field hz rfl (x := .bool false) rfl ?_)
  show wpAny _ _ (field (.ref z) 3 >>= _) _ _ _
  refine wpAny_bind (wpAny_field hz rfl (x := .ref TI) rfl ?_)
  refine wpAny_bind (wpAny_seqItems hTI rfl ?_)
  show wpAny _ _ (Builtin.SmallTypes.ownedTupleIsFree (.ref z) >>= _) _ _ _
  refine wpAny_bind (owned_out hz ha fun h₃ hz₃ hs₃ => ?_)
  simp only [Bool.false_eq_true, if_false]
  rw [← Array.forIn_toList]
  simp only [List.forIn_cons, List.forIn_nil]
  refine wpAny_bind ?_
  refine wpAny_bind ?_
  refine wpAny_bind (wpAny_holding ?_)
  show wpAny _ _ (Builtin.SmallTypes.nextOf (.ref i1) >>= _) _ _ _
  refine wpAny_bind (wpAny_nextOf_list_item (h1.extBut hs₃.extBut D.i1z) (hl1.extBut hs₃.extBut D.l1z) hx fun h₄ h1₄ hs₄ => wpAny_pure ?_)
  refine wpAny_pure ?_
  dsimp only
  refine wpAny_bind ?_
  refine wpAny_bind (wpAny_holding ?_)
  show wpAny _ _ (Builtin.SmallTypes.nextOf (.ref i2) >>= _) _ _ _
  refine wpAny_bind (wpAny_nextOf_list_item ((h2.extBut hs₃.extBut D.i2z).extBut hs₄.extBut D.i12.symm) ((hl2.extBut hs₃.extBut D.l2z).extBut hs₄.extBut D.l2i1) hy fun h₅ h2₅ hs₅ => wpAny_pure ?_)
  refine wpAny_pure ?_
  dsimp only
  refine wpAny_pure ?_
  dsimp only
  refine wpAny_bind (wpAny_newTuple (hsz := by show 2 ≤ sizeLine; decide) ?_)
  have up : ∀ c o, c ≠ z → c ≠ i1 → c ≠ i2 → s.heap.get? c = some o → h₅.get? c = some o := fun c o c1 c2 c3 e => hs₅.extBut _ _ c3 (hs₄.extBut _ _ c2 (hs₃.extBut _ _ c1 e))
  have hsz : h₅.objs.size = s.heap.objs.size := by rw [hs₅.1, hs₄.1, hs₃.1]
  refine wpAny_pure ⟨_, rfl, wpAny_pure ?_⟩
  show Q (some (.ref h₅.objs.size)) _
  have hz₅ : ZipF h₅ z TI TO a true := hs₅.extBut _ _ D.i2z.symm (hs₄.extBut _ _ D.i1z.symm hz₃)
  have h1₅ : h₅.IsListIter i1 l1 (k + 1) := h1₄.extBut hs₅.extBut D.i12
  have hT₆ : IsPair (h₅.push { cls := .type "tuple", data := .seq #[x, y] }) h₅.objs.size x y := Heap.get?_push_size _ rfl
  rw [hsz] at hT₆ ⊢
  refine hQ _ (Heap.get?_push_of_some _ hz₅) (h1₅.at fun o e => Heap.get?_push_of_some _ e) (h2₅.at fun o e => Heap.get?_push_of_some _ e) hT₆ (by rw [Heap.size_push, hsz]) fun c o c1 c2 c3 e => Heap.get?_push_of_some _ (up c o c1 c2 c3 e)
theorem end_out {z TI TO i1 i2 l1 l2 a : Addr} {f : Bool} {oa : Obj} {k : Nat} {xs : Array Value} {Q : Option Value → Shared → Prop} (hh : A.handled = none) (D : ZipApart z TI TO i1 i2 l1 l2)
    (hz : ZipF s.heap z TI TO a f) (ha : s.heap.get? a = some oa) (hTI : IsPair s.heap TI (.ref i1) (.ref i2))
    (h1 : s.heap.IsListIter i1 l1 k) (hl1 : s.heap.IsList l1 xs) (hx : xs[k]? = none)
    (hQ : ∀ h', (∀ c o, c ≠ z → c ≠ i1 → s.heap.get? c = some o → h'.get? c = some o) → Q none { s with heap := h' }) :
    wpAny (model prog w) A (pyNext (.ref z)) Q E s := by
  have hT : s.TypeIs (.ref z) "zip" := ⟨_, hz, rfl⟩
  unfold pyNext
  refine wpAny_bind (wpAny_attempt (wpAny_callSpecial?_slot (name := Str.ofString "__next__") hT F.slot_zip_next
    (wpAny_call_entry F.slot_zip_next hT F.entry_zip_next ?_ (F.args_zip_next_1 _))))
  show wpAny _ _ (field (.ref z) 2 >>= _) _ _ _
  refine wpAny_bind (wpAny_field hz rfl (x := .bool false) rfl ?_)
  show wpAny _ _ (field (.ref z) 3 >>= _) _ _ _
  refine wpAny_bind (wpAny_field hz rfl (x := .ref TI) rfl ?_)
  refine wpAny_bind (wpAny_seqItems hTI rfl ?_)
  show wpAny _ _ (Builtin.SmallTypes.ownedTupleIsFree (.ref z) >>= _) _ _ _
  refine wpAny_bind (owned_out hz ha fun h₃ hz₃ hs₃ => ?_)
  simp only [Bool.false_eq_true, if_false]
  rw [← Array.forIn_toList]
  simp only [List.forIn_cons, List.forIn_nil]
  refine wpAny_bind ?_
  refine wpAny_bind ?_
  refine wpAny_bind (wpAny_holding ?_)
  show wpAny _ _ (Builtin.SmallTypes.nextOf (.ref i1) >>= _) _ _ _
  refine wpAny_bind (wpAny_nextOf_list_end hh (h1.extBut hs₃.extBut D.i1z) (hl1.extBut hs₃.extBut D.l1z) hx fun h₄ e hs₄ he => ?_)
  obtain ⟨oe, hoe, hce⟩ := he
  refine wpAny_bind (wpAny_isInstance (T := "StopIteration") (b := true) ⟨oe, hoe, hce⟩ isSubtype_stop ?_)
  exact wpAny_pure (hQ _ fun c o c1 c2 e => hs₄ _ _ c2 (hs₃.extBut _ _ c1 e))
/-- the zip at its k-th pair; S is the list that is made, as the tuples handed out -/
structure St (h : Heap) (z TI TO i1 i2 l1 l2 S : Addr) (xs ys : Array Value) (k : Nat) : Prop where
  own : IsZip h z TI TO .none ∨ ∃ a f oa, ZipF h z TI TO a f ∧ h.get? a = some oa ∧ S < a
  ti : IsPair h TI (.ref i1) (.ref i2)
  to : ∃ a b, IsPair h TO a b
  h1 : h.IsListIter i1 l1 k
  h2 : h.IsListIter i2 l2 k
  hl1 : h.IsList l1 xs
  hl2 : h.IsList l2 ys
/-- all of a zip below S -/
structure Low (z TI TO i1 i2 l1 l2 S : Addr) : Prop where
  z : z < S
  ti : TI < S
  to : TO < S
  i1 : i1 < S
  i2 : i2 < S
  l1 : l1 < S
  l2 : l2 < S
theorem St.keep {h h' : Heap} {z TI TO i1 i2 l1 l2 S : Addr} {xs ys : Array Value} {k : Nat} (L : Low z TI TO i1 i2 l1 l2 S) (x : St h z TI TO i1 i2 l1 l2 S xs ys k) (hk : ∀ b o, b ≠ S → h.get? b = some o → h'.get? b = some o) : St h' z TI TO i1 i2 l1 l2 S xs ys k := by
  have n : ∀ {b : Addr}, b < S → b ≠ S := fun h => Nat.ne_of_lt h
  refine ⟨?_, hk _ _ (n L.ti) x.ti, ?_, x.h1.at fun o e => hk _ o (n L.i1) e, x.h2.at fun o e => hk _ o (n L.i2) e, x.hl1.at fun o e => hk _ o (n L.l1) e, x.hl2.at fun o e => hk _ o (n L.l2) e⟩
  · rcases x.own with e | ⟨a, f, oa, e, ea, lt⟩
    · exact .inl (hk _ _ (n L.z) e)
    · exact .inr ⟨a, f, oa, hk _ _ (n L.z) e, hk _ _ (Nat.ne_of_gt lt) ea, lt⟩
  · obtain ⟨a, b, e⟩ := x.to
    exact ⟨a, b, hk _ _ (n L.to) e⟩
theorem item {z TI TO i1 i2 l1 l2 S : Addr} {k : Nat} {xs ys : Array Value} {x y : Value} {Q : Option Value → Shared → Prop} (D : ZipApart z TI TO i1 i2 l1 l2) (L : Low z TI TO i1 i2 l1 l2 S) (hst : St s.heap z TI TO i1 i2 l1 l2 S xs ys k) (hS : S < s.heap.objs.size)
    (hx : xs[k]? = some x) (hy : ys[k]? = some y)
    (hQ : ∀ h', St h' z TI TO i1 i2 l1 l2 S xs ys (k + 1) → IsPair h' s.heap.objs.size x y → (∀ b o, S ≤ b → s.heap.get? b = some o → h'.get? b = some o) → (∀ b o, b ≠ z → b ≠ TO → b ≠ i1 → b ≠ i2 → s.heap.get? b = some o → h'.get? b = some o) → Q (some (.ref s.heap.objs.size)) { s with heap := h' }) :
    wpAny (model prog w) A (pyNext (.ref z)) Q E s := by
  have g : ∀ {b c : Addr}, b < S → S ≤ c → c ≠ b := fun h1 h2 => Nat.ne_of_gt (Nat.lt_of_lt_of_le h1 h2)
  rcases hst.own with e | ⟨a, f, oa, e, ea, lt⟩
  · obtain ⟨a, b, eo⟩ := hst.to
    refine wpAny_pyNext_zip_item D e hst.ti eo hst.h1 hst.h2 hst.hl1 hst.hl2 hx hy fun h' z1 z2 z3 z4 z5 z6 z7 => ?_
    have up : ∀ b o, b ≠ z → b ≠ TO → b ≠ i1 → b ≠ i2 → s.heap.get? b = some o → h'.get? b = some o := fun b o c1 c2 c3 c4 e => z7 b o c1 c2 c3 c4 e
    exact hQ h' ⟨.inr ⟨_, false, _, z1, z5, hS⟩, up _ _ D.TIz D.TITO D.TIi1 D.TIi2 hst.ti, ⟨_, _, z2⟩, z3, z4, hst.hl1.at fun o e => up _ o D.l1z D.l1TO D.l1i1 D.l1i2 e, hst.hl2.at fun o e => up _ o D.l2z D.l2TO D.l2i1 D.l2i2 e⟩ z5 (fun b o lb e => up b o (g L.z lb) (g L.to lb) (g L.i1 lb) (g L.i2 lb) e) up
  · refine next_out D e ea hst.ti hst.h1 hst.h2 hst.hl1 hst.hl2 hx hy fun h' z1 z3 z4 z5 z6 z7 => ?_
    obtain ⟨b1, b2, eo⟩ := hst.to
    have up : ∀ b o, b ≠ z → b ≠ TO → b ≠ i1 → b ≠ i2 → s.heap.get? b = some o → h'.get? b = some o := fun b o c1 _ c3 c4 e => z7 b o c1 c3 c4 e
    exact hQ h' ⟨.inr ⟨_, true, _, z1, z7 _ _ (g L.z (Nat.le_of_lt lt)) (g L.i1 (Nat.le_of_lt lt)) (g L.i2 (Nat.le_of_lt lt)) ea, lt⟩, z7 _ _ D.TIz D.TIi1 D.TIi2 hst.ti, ⟨_, _, z7 _ _ D.TOz D.TOi1 D.TOi2 eo⟩, z3, z4, hst.hl1.at fun o e => z7 _ o D.l1z D.l1i1 D.l1i2 e, hst.hl2.at fun o e => z7 _ o D.l2z D.l2i1 D.l2i2 e⟩ z5 (fun b o lb e => up b o (g L.z lb) (g L.to lb) (g L.i1 lb) (g L.i2 lb) e) up
theorem done {z TI TO i1 i2 l1 l2 S : Addr} {k : Nat} {xs ys : Array Value} {Q : Option Value → Shared → Prop} (hh : A.handled = none) (D : ZipApart z TI TO i1 i2 l1 l2) (hst : St s.heap z TI TO i1 i2 l1 l2 S xs ys k) (hx : xs[k]? = none)
    (hQ : ∀ h', (∀ b o, b ≠ z → b ≠ TO → b ≠ i1 → b ≠ i2 → s.heap.get? b = some o → h'.get? b = some o) → Q none { s with heap := h' }) : wpAny (model prog w) A (pyNext (.ref z)) Q E s := by
  rcases hst.own with e | ⟨a, f, oa, e, ea, lt⟩
  · obtain ⟨a, b, eo⟩ := hst.to
    exact wpAny_pyNext_zip_end hh D e hst.ti eo hst.h1 hst.h2 hst.hl1 hst.hl2 (.inl hx) fun h' k => hQ h' k
  · exact end_out hh D e ea hst.ti hst.h1 hst.hl1 hx fun h' k => hQ h' fun b o c1 _ c3 _ e => k b o c1 c3 e
/-- the tuples made -/
structure Made (xs ys : Array Value) (lo : Addr) (h : Heap) (as : List Addr) : Prop where
  rise : as.Pairwise (· < ·)
  above : ∀ a ∈ as, lo < a
  pairs : ∀ (j : Nat) (a : Addr), as[j]? = some a → ∃ x y, xs[j]? = some x ∧ ys[j]? = some y ∧ IsPair h a x y
theorem Made.there {xs ys : Array Value} {lo : Addr} {h : Heap} {as : List Addr} (g : Made xs ys lo h as) {a : Addr} (ha : a ∈ as) : a < h.objs.size := by
  obtain ⟨j, hj⟩ := List.mem_iff_getElem?.mp ha
  obtain ⟨_, _, _, _, e⟩ := g.pairs j a hj
  exact Heap.lt_size e
theorem loop {R : Result → Shared → Prop} {z TI TO i1 i2 l1 l2 S : Addr} {xs ys : Array Value} {n : Nat} (hh : A.handled = none) (D : ZipApart z TI TO i1 i2 l1 l2) (L : Low z TI TO i1 i2 l1 l2 S) (n1 : xs.size = n) (n2 : ys.size = n) (hn : n ≤ sizeLine) (res : Value) {h₁ : Heap}
    (hR : ∀ h' tk acc c as, (∀ b o, b ≠ S → b ≠ z → b ≠ TO → b ≠ i1 → b ≠ i2 → h₁.get? b = some o → h'.get? b = some o) → h'.get? S = some { cls := .type "list", dict := none, data := .seq acc c, slots := #[] } → as.length = n → Made xs ys S h' as →
      acc.toList = as.map Value.ref → R (.ok (.ret res)) { s with heap := h', toks := tk }) :
    ∀ (k i : Nat) (h : Heap) (tk c : Nat) (acc : Array Value) (as : List Addr), n - i = k → i ≤ n → St h z TI TO i1 i2 l1 l2 S xs ys i → (∀ b o, b ≠ S → b ≠ z → b ≠ TO → b ≠ i1 → b ≠ i2 → h₁.get? b = some o → h.get? b = some o) →
      h.get? S = some { cls := .type "list", dict := none, data := .seq acc c, slots := #[] } → acc.toList = as.map Value.ref → as.length = i → Made xs ys S h as →
      codeAny (model prog w) A (.builtin "list.extend.loop" ⟨[.ref S, .ref z, res], []⟩) R { s with heap := h, toks := tk } := by
  have nz : S ≠ z := Nat.ne_of_gt L.z
  have nto : S ≠ TO := Nat.ne_of_gt L.to
  have ni1 : S ≠ i1 := Nat.ne_of_gt L.i1
  have ni2 : S ≠ i2 := Nat.ne_of_gt L.i2
  intro k
  induction k with
  | zero =>
    intro i h tk c acc as hk hi hst hkeep hS hacc hal hG
    have hin : i = n := by omega
    refine codeAny_builtin PySem.F.entry_extend_loop ?_
    rw [Around.under_plainId PySem.F.plain_extend_loop _]
    show wpAny _ A.in1 (pyNext (.ref z) >>= _) _ _ _
    refine wpAny_bind (done (s := { s with heap := h, toks := tk }) (A := A.in1) hh D hst (Array.getElem?_eq_none (by omega)) fun h' he => ?_)
    refine wpAny_pure (hR h' tk acc c as (fun b o h0 h1 h2 h3 h4 e => he b o h1 h2 h3 h4 (hkeep b o h0 h1 h2 h3 h4 e)) (he S _ nz nto ni1 ni2 hS) (by omega) ⟨hG.rise, hG.above, fun j a hj => ?_⟩ hacc)
    obtain ⟨x, y, e1, e2, e3⟩ := hG.pairs j a hj
    have la := hG.above a (List.mem_of_getElem? hj)
    have g : ∀ {b : Addr}, b < S → a ≠ b := fun h => Nat.ne_of_gt (Nat.lt_trans h la)
    exact ⟨x, y, e1, e2, he a _ (g L.z) (g L.to) (g L.i1) (g L.i2) e3⟩
  | succ k ih =>
    intro i h tk c acc as hk hi hst hkeep hS hacc hal hG
    have hlt : i < n := by omega
    obtain ⟨x, hx⟩ : ∃ p, xs[i]? = some p := ⟨xs[i], Array.getElem?_eq_getElem (by omega)⟩
    obtain ⟨y, hy⟩ : ∃ p, ys[i]? = some p := ⟨ys[i], Array.getElem?_eq_getElem (by omega)⟩
    have hsz : acc.size = i := by rw [← Array.length_toList, hacc, List.length_map, hal]
    have hSl : S < h.objs.size := Heap.lt_size hS
    refine codeAny_builtin PySem.F.entry_extend_loop ?_
    rw [Around.under_plainId PySem.F.plain_extend_loop _]
    show wpAny _ A.in1 (pyNext (.ref z) >>= _) _ _ _
    refine wpAny_bind (item (s := { s with heap := h, toks := tk }) (S := S) D L hst hSl hx hy fun h' hst' ht hge hkp => ?_)
    dsimp only at ht hge hkp ⊢
    have hS' := hge S _ (Nat.le_refl _) hS
    have up : ∀ b o, b ≠ S → h'.get? b = some o → (h'.update S (Obj.mapSeq (·.push (Value.ref h.objs.size)))).get? b = some o := fun b o hb e => (Heap.get?_update_other _ _ (Ne.symm hb)).trans e
    show wpAny _ A.in1 (updateSeq S (·.push (Value.ref h.objs.size)) >>= _) _ _ _
    refine wpAny_bind ?_
    refine wpAny_updateSeq hS' rfl (wpAny_pure ⟨plainId_quiet PySem.F.plain_extend_loop _, ih (i + 1) _ tk _ (acc.push (Value.ref h.objs.size)) (as ++ [h.objs.size]) (by omega) hlt (hst'.keep L up)
      (fun b o h0 h1 h2 h3 h4 e => up b o h0 (hkp b o h1 h2 h3 h4 (hkeep b o h0 h1 h2 h3 h4 e))) (Heap.get?_update_self _ hS' rfl) (by rw [Array.toList_push, hacc, List.map_append]; rfl) (by rw [List.length_append, hal]; rfl) ⟨?_, ?_, ?_⟩⟩) (by rw [hsz]; omega) (by show (acc.push (Value.ref h.objs.size)).size ≤ sizeLine + 1; rw [Array.size_push, hsz]; omega)
    · refine List.pairwise_append.mpr ⟨hG.rise, List.pairwise_singleton _ _, fun a ha b hb => ?_⟩
      rw [List.mem_singleton.mp hb]
      exact hG.there ha
    · intro a ha
      rcases List.mem_append.mp ha with ha | ha
      · exact hG.above a ha
      · rw [List.mem_singleton.mp ha]
        exact hSl
    · intro j b hj
      rcases Nat.lt_trichotomy j as.length with h1 | h1 | h1
      · rw [List.getElem?_append_left h1] at hj
        obtain ⟨x', y', e1, e2, e3⟩ := hG.pairs j b hj
        have hb := hG.above b (List.mem_of_getElem? hj)
        exact ⟨x', y', e1, e2, up b _ (Nat.ne_of_gt hb) (hge b _ (Nat.le_of_lt hb) e3)⟩
      · subst h1
        have hb : h.objs.size = b := by simpa using hj
        subst hb
        exact ⟨x, y, by rw [hal]; exact hx, by rw [hal]; exact hy, up _ _ (Nat.ne_of_gt hSl) ht⟩
      · have hnone : (as ++ [h.objs.size])[j]? = none := List.getElem?_eq_none (by rw [List.length_append, List.length_singleton]; omega)
        rw [hnone] at hj
        cases hj
end
theorem zip_no_len : typeLookup (.type "zip") "__len__" = pure none := by rw [typeLookup_type, builtinLookup_eq_fast]; kernel_rfl
theorem zip_no_hint : typeLookup (.type "zip") "__length_hint__" = pure none := by rw [typeLookup_type, builtinLookup_eq_fast]; kernel_rfl
section
variable {prog : Program} {w : World} {A : Around} {E : Value → Shared → Prop} {s : Shared} {z TI TO i1 i2 l1 l2 : Addr} {xs ys : Array Value} {n : Nat}
theorem extend {R : Result → Shared → Prop} {S : Addr} (hh : A.handled = none) (D : ZipApart z TI TO i1 i2 l1 l2) (L : Low z TI TO i1 i2 l1 l2 S) (n1 : xs.size = n) (n2 : ys.size = n) (hn : n ≤ sizeLine) (hst : St s.heap z TI TO i1 i2 l1 l2 S xs ys 0) (hz : IsZip s.heap z TI TO .none)
    (res : Value) (c₀ : Nat) (hS : s.heap.get? S = some { cls := .type "list", data := .seq #[] c₀ })
    (hR : ∀ h' tk acc c as, (∀ b o, b ≠ S → b ≠ z → b ≠ TO → b ≠ i1 → b ≠ i2 → s.heap.get? b = some o → h'.get? b = some o) → h'.get? S = some { cls := .type "list", dict := none, data := .seq acc c, slots := #[] } → as.length = n → Made xs ys S h' as →
      acc.toList = as.map Value.ref → R (.ok (.ret res)) { s with heap := h', toks := tk }) :
    wpAny (model prog w) A.in1 (Builtin.List.listExtendWith (.ref S) (.ref z) res)
      (fun fin s' => match fin with | .done f => R (.ok f) s' | .again c' => c'.quiet = true ∧ codeAny (model prog w) A c' R s') (fun e s' => R (.error e) s') s := by
  have hT : s.TypeIs (.ref z) "zip" := ⟨_, hz, rfl⟩
  have nz : S ≠ z := Nat.ne_of_gt L.z
  have key : ∀ (h : Heap) (c₁ : Nat), (∀ b o, b ≠ S → s.heap.get? b = some o → h.get? b = some o) → h.get? S = some { cls := .type "list", data := .seq #[] c₁ } →
      codeAny (model prog w) A (.builtin "list.extend.loop" ⟨[.ref S, .ref z, res], []⟩) R { s with heap := h, toks := s.toks } := by
    intro h c₁ hk hS₁
    exact loop (s := s) (h₁ := s.heap) hh D L n1 n2 hn res hR n 0 h s.toks c₁ #[] [] (Nat.sub_zero _) (Nat.zero_le _) (hst.keep L hk) (fun b o h0 _ _ _ _ e => hk b o h0 e) hS₁ rfl rfl
      ⟨List.Pairwise.nil, (fun _ ha => nomatch ha), (fun j a hj => by simp at hj)⟩
  unfold Builtin.List.listExtendWith
  refine wpAny_bind (wpAny_typeOf (T := "zip") hT ?_)
  have h1 : Builtin.List.listSameRef (.ref S) (.ref z) = false := by simp [Builtin.List.listSameRef, nz]
  have h2 : (Value.type "zip" == Value.type "list") = false := by decide
  have h3 : (Value.type "zip" == Value.type "tuple") = false := by decide
  simp only [h1, h2, h3, Bool.or_false, Bool.false_eq_true, if_false]
  refine wpAny_bind (wpAny_pyIter_zip hz ?_)
  refine wpAny_bind (wpAny_holding ?_)
  unfold Builtin.List.listLengthHint
  refine wpAny_bind (wpAny_specialOf hT zip_no_len ?_)
  show wpAny _ A.in1 (specialOf (Value.ref z) (Str.ofString "__length_hint__") >>= _) _ _ _
  refine wpAny_bind (wpAny_specialOf hT zip_no_hint ?_)
  refine wpAny_pure ?_
  refine wpAny_ite_split (fun _ => ?_) (fun _ => wpAny_pure ⟨plainId_quiet PySem.F.plain_extend_loop _, key _ c₀ (fun b o _ e => e) hS⟩)
  refine wpAny_bind (wpAny_rule ?_)
  refine wpAny_bind ?_
  show wpAny _ _ (updateSeq S (·.push .none) >>= fun _ => updateSeq S (·.pop)) _ _ _
  refine wpAny_bind (wpAny_updateSeq hS rfl ?_)
  have hS₂ := Heap.get?_update_self (Obj.mapSeq (·.push Value.none)) hS rfl
  refine wpAny_updateSeq (hz := by seq_fits) hS₂ rfl ?_
  have hS₃ := Heap.get?_update_self (Obj.mapSeq (·.pop)) hS₂ rfl
  refine wpAny_pure ⟨plainId_quiet PySem.F.plain_extend_loop _, key _ _ (fun b o hb e => ?_) hS₃⟩
  exact (Heap.get?_update_other _ _ (Ne.symm hb)).trans ((Heap.get?_update_other _ _ (Ne.symm hb)).trans e)
theorem init {R : Result → Shared → Prop} {S : Addr} (hh : A.handled = none) (D : ZipApart z TI TO i1 i2 l1 l2) (L : Low z TI TO i1 i2 l1 l2 S) (n1 : xs.size = n) (n2 : ys.size = n) (hn : n ≤ sizeLine) (hst : St s.heap z TI TO i1 i2 l1 l2 S xs ys 0) (hz : IsZip s.heap z TI TO .none)
    (hS : s.heap.get? S = some { cls := .type "list", data := .seq #[] })
    (hR : ∀ h' tk acc c as, (∀ b o, b ≠ S → b ≠ z → b ≠ TO → b ≠ i1 → b ≠ i2 → s.heap.get? b = some o → h'.get? b = some o) → h'.get? S = some { cls := .type "list", dict := none, data := .seq acc c, slots := #[] } → as.length = n → Made xs ys S h' as →
      acc.toList = as.map Value.ref → R (.ok (.ret .none)) { s with heap := h', toks := tk }) :
    wpAny (model prog w) A.in1 (Builtin.«list.__init__» ⟨[.ref S, .ref z], []⟩)
      (fun fin s' => match fin with | .done f => R (.ok f) s' | .again c' => c'.quiet = true ∧ codeAny (model prog w) A c' R s') (fun e s' => R (.error e) s') s := by
  show wpAny _ _ (do let old ← Builtin.List.listItems (.ref S); Builtin.List.listUpdate (.ref S) (fun _ => #[]); letGo old.toList.reverse; Builtin.List.listExtendWith (.ref S) (.ref z) .none) _ _ s
  refine wpAny_bind ?_
  unfold Builtin.List.listItems
  refine wpAny_bind (wpAny_seqItems hS rfl (wpAny_pure ?_))
  show wpAny _ _ (updateSeq S (fun _ => #[]) >>= fun _ => letGo (#[] : Array Value).toList.reverse >>= fun _ => Builtin.List.listExtendWith (.ref S) (.ref z) .none) _ _ s
  refine wpAny_bind (wpAny_updateSeq hS rfl ?_)
  have hS₂ := Heap.get?_update_self (Obj.mapSeq (fun _ => (#[] : Array Value))) hS rfl
  have oth : ∀ b o, b ≠ S → s.heap.get? b = some o → (s.heap.update S (Obj.mapSeq (fun _ => (#[] : Array Value)))).get? b = some o :=
    fun b o hb e => (Heap.get?_update_other _ _ (Ne.symm hb)).trans e
  refine wpAny_bind (wpAny_letGo ?_)
  refine extend hh D L n1 n2 hn (hst.keep L oth) (oth _ _ (Nat.ne_of_lt L.z) hz) .none _ hS₂ fun h' tk acc c as hk hS' hl hG hacc => ?_
  exact hR h' tk acc c as (fun b o h0 h1 h2 h3 h4 e => hk b o h0 h1 h2 h3 h4 (oth b o h0 e)) hS' hl hG hacc
theorem call_list {Q : Value → Shared → Prop} (hh : A.handled = none) (D : ZipApart z TI TO i1 i2 l1 l2) (L : Low z TI TO i1 i2 l1 l2 s.heap.objs.size) (n1 : xs.size = n) (n2 : ys.size = n) (hn : n ≤ sizeLine) (hst : St s.heap z TI TO i1 i2 l1 l2 s.heap.objs.size xs ys 0) (hz : IsZip s.heap z TI TO .none)
    (hQ : ∀ h' tk acc c as, (∀ b o, b ≠ z → b ≠ TO → b ≠ i1 → b ≠ i2 → s.heap.get? b = some o → h'.get? b = some o) → h'.get? s.heap.objs.size = some { cls := .type "list", dict := none, data := .seq acc c, slots := #[] } → as.length = n → Made xs ys s.heap.objs.size h' as →
      acc.toList = as.map Value.ref → Q (.ref s.heap.objs.size) { s with heap := h', toks := tk }) :
    wpAny (model prog w) A (call (.type "list") [.ref z]) Q E s := by
  refine callType_codes (Q₁ := fun obj s₁ => obj = .ref s.heap.objs.size ∧ s₁ = { s with heap := s.heap.push { cls := .type "list", data := .seq #[] } }) PySem.F.called_list (PySem.F.typeCall_list_1 _) PySem.F.entry_list_init
    (code_list_new _ ⟨rfl, rfl⟩) fun obj s₁ h₁ => ?_
  obtain ⟨rfl, rfl⟩ := h₁
  have hS : (s.heap.push { cls := .type "list", data := .seq #[] }).get? s.heap.objs.size = some { cls := .type "list", data := .seq #[] } := Heap.get?_push_size _ rfl
  refine ⟨⟨_, hS, rfl⟩, PySem.F.args_list_init_2 _ _, init (A := A.in1) hh D L n1 n2 hn (hst.keep L fun b o _ e => Heap.get?_push_of_some _ e) (Heap.get?_push_of_some _ hz) hS (fun h' tk acc c as hk hS' hl hG hacc => ?_)⟩
  exact ⟨rfl, hQ h' tk acc c as (fun b o h1 h2 h3 h4 e => hk b o (Nat.ne_of_lt (Heap.lt_size e)) h1 h2 h3 h4 (Heap.get?_push_of_some _ e)) hS' hl hG hacc⟩
end
/-- the tuples tracked at their addresses -/
def putT : Hp → List Addr → List (V × V) → Hp
  | H, a :: as, p :: kvs => putT (upd H a (.tup [p.1, p.2])) as kvs
  | H, _, _ => H
theorem putT_off {b : Addr} : ∀ (as : List Addr) (kvs : List (V × V)) (H : Hp), b ∉ as → putT H as kvs b = H b
  | [], _, _, _ => rfl
  | _ :: _, [], _, _ => rfl
  | a :: as, p :: kvs, H, h => by
    show putT (upd H a (.tup [p.1, p.2])) as kvs b = H b
    rw [putT_off as kvs _ (fun z => h (List.mem_cons_of_mem _ z)), upd_ne (fun z => h (by rw [z]; exact List.mem_cons_self))]
theorem putT_at : ∀ (as : List Addr) (kvs : List (V × V)) (H : Hp), as.length = kvs.length → as.Nodup → Paired (fun (t : Addr) (p : V × V) => putT H as kvs t = some (.tup [p.1, p.2])) as kvs
  | [], [], _, _, _ => .nil
  | [], _ :: _, _, h, _ => by cases h
  | _ :: _, [], _, h, _ => by cases h
  | a :: as, p :: kvs, H, h, hn => by
    have hn' := List.nodup_cons.mp hn
    have ih := putT_at as kvs (upd H a (.tup [p.1, p.2])) (Nat.succ.inj h) hn'.2
    refine .cons ?_ ih
    show putT (upd H a (.tup [p.1, p.2])) as kvs a = some (.tup [p.1, p.2])
    rw [putT_off as kvs _ hn'.1, upd_same]
theorem laid {X : Cx} {pins : List (Addr × Obj)} {σ : L2.St} {H : Hp} {s : Shared} {h' : Heap} {tk : Nat} {vs us : List V} {xs ys : List Value} {acc : Array Value} {c : Nat} {as : List Addr} {S : Addr} (I : Inv X pins σ H s) (lS : s.heap.objs.size ≤ S) (hz : vs.length ≤ sizeLine) (le : vs.length = us.length) (rv : Vals vs xs) (ru : Vals us ys)
    (hk : ∀ b o, s.heap.get? b = some o → h'.get? b = some o) (hS : h'.get? S = some { cls := .type "list", dict := none, data := .seq acc c, slots := #[] }) (hl : as.length = vs.length) (hG : Made xs.toArray ys.toArray S h' as) (hacc : acc.toList = as.map Value.ref) :
    ∃ H' : Hp, (∀ b o, H b = some o → H' b = some o) ∧ H S = none ∧ (∀ t ∈ as, H t = none) ∧ S ∉ as ∧ H' S = some (.lst (as.map V.ref)) ∧ Paired (fun (t : Addr) (q : V × V) => H' t = some (.tup [q.1, q.2])) as (vs.zip us) ∧ Inv X pins σ H' { s with heap := h', toks := tk } := by
  have hSn : S ∉ as := fun z => Nat.lt_irrefl _ (hG.above _ z)
  have nd : as.Nodup := List.Pairwise.imp (fun {a b} (h : a < b) => Nat.ne_of_lt h) hG.rise
  have new : ∀ t ∈ as, H t = none := fun t ht => I.hok.fresh (Nat.le_trans lS (Nat.le_of_lt (hG.above t ht)))
  have newS : H S = none := I.hok.fresh lS
  have atP := putT_at as (vs.zip us) (upd H S (.lst (as.map V.ref))) (by rw [List.length_zip]; omega) nd
  have off : ∀ b, b ∉ as → b ≠ S → putT (upd H S (.lst (as.map V.ref))) as (vs.zip us) b = H b := fun b h1 h2 => by rw [putT_off as (vs.zip us) _ h1, upd_ne h2]
  have low : ∀ b o, s.heap.get? b = some o → b ∉ as ∧ b ≠ S := fun b o e => ⟨fun z => absurd (Nat.lt_of_lt_of_le (Heap.lt_size e) lS) (Nat.not_lt.mpr (Nat.le_of_lt (hG.above b z))), Nat.ne_of_lt (Nat.lt_of_lt_of_le (Heap.lt_size e) lS)⟩
  have kp : ∀ b u, H b = some u → (putT (upd H S (.lst (as.map V.ref))) as (vs.zip us)) b = some u := fun b u e => by
    rw [off b (fun z => by rw [new b z] at e; cases e) (fun z => by rw [z, newS] at e; cases e)]
    exact e
  have eS : putT (upd H S (.lst (as.map V.ref))) as (vs.zip us) S = some (.lst (as.map V.ref)) := by rw [putT_off as (vs.zip us) _ hSn, upd_same]
  refine ⟨putT (upd H S (.lst (as.map V.ref))) as (vs.zip us), kp, newS, new, hSn, eS, atP, ?_⟩
  refine I.call' (ch := []) rfl ⟨fun b o q _ _ _ => hk b o q, fun b o q _ _ _ => ⟨o.slots, hk b o q⟩, fun b o q n _ => ?_, fun b o q _ => ⟨o, hk b o q⟩, fun b xs q => kp b _ q, fun b o u q => kp b _ q, fun b ps q => ⟨#[], by rw [kp b _ q]; simp⟩⟩ (fun b u q => ?_) I.bare fun b z => by simp at z
  · obtain ⟨z1, z2⟩ := low b o q
    rw [off b z1 z2]
    exact n
  · by_cases hb : b ∈ as
    · obtain ⟨j, pk, e1, e2, e3⟩ := LiI.paired_ix atP hb
      rw [e3] at q
      cases q
      obtain ⟨x, y, f1, f2, f3⟩ := hG.pairs j b e1
      obtain ⟨g1, g2⟩ := List.getElem?_zip_eq_some.mp e2
      obtain ⟨x', m1, m2⟩ := rv.get g1
      obtain ⟨y', m3, m4⟩ := ru.get g2
      have ex : x' = x := by
        rw [List.getElem?_toArray, m1] at f1
        exact Option.some.inj f1
      have ey : y' = y := by
        rw [List.getElem?_toArray, m3] at f2
        exact Option.some.inj f2
      subst ex ey
      exact ⟨by show 2 ≤ sizeLine; decide, [x', y'], .cons m2 (.cons m4 .nil), ⟨_, f3, rfl, _, rfl⟩⟩
    · by_cases hb2 : b = S
      · rw [hb2] at q ⊢
        rw [eS] at q
        cases q
        refine ⟨by rw [List.length_map]; omega, acc.toList, c, by rw [hacc]; exact LiI.vals_refs as, ?_⟩
        rw [Array.toArray_toList]
        exact hS
      · rw [off b hb hb2] at q
        exact (I.hok b u q).stay (fun d v _ y => hk d v y) (fun d y => kp d _ y) fun d xs y => kp d _ y
def rListZip (K : PySem.W.Frag) : List V → Hp → VK → Prop := fun zs H Q => ∃ (a b : Addr) (vs us : List V), zs = [.ref a, .ref b] ∧ SqL K H a vs ∧ SqL K H b us ∧ vs.length = us.length ∧
  ∀ (H' : Hp) (p : Addr) (ts : List Addr), (∀ b o, H b = some o → H' b = some o) → H p = none → (∀ t ∈ ts, H t = none) → p ∉ ts → H' p = some (.lst (ts.map V.ref)) → Paired (fun (t : Addr) (q : V × V) => H' t = some (.tup [q.1, q.2])) ts (vs.zip us) → Q (.ref p) H'
def tListZip (K : PySem.W.Frag) (ta : TA) : TE := fun σ H Q => ta σ H fun zs H1 => rListZip K zs H1 Q
/-- list(zip(xs, ys)) -/
theorem pe_listZip {X : Cx} {e e2 : Expr} {ta : TA} {p pz pz2 pos : Pos} (hc : X.calm = true) (hg : Gl X "list") (hm : X.mg "list" = none) (hgz : Gl X "zip") (hmz : X.mg "zip" = none) (ha : PA X [e, e2] ta) (hv : bootBuiltins "list" = some (.type "list") := by rfl)
    (hs : starEach [e, e2] X.env = (false, eval e X.env) :: starEach [e2] X.env := by rfl) (hpl : (backTo pz2 (starEach [e2] X.env)).any (·.1) = false := by rfl)
    (hs1 : starEach [.Call (.Name "zip" pz) [e, e2] [] pz2] X.env = (false, eval (.Call (.Name "zip" pz) [e, e2] [] pz2) X.env) :: starEach [] X.env := by rfl) :
    PE X (.Call (.Name "list" p) [.Call (.Name "zip" pz) [e, e2] [] pz2] [] pos) (tListZip X.K ta) := by
  refine ⟨fun pins s σ H Q I hq => ?_⟩
  refine wpAny_Call_Name_kw (ld_blt I hg hm hv ?_)
  refine PyProof.Rows.callWith_type1 ?_ hs1 rfl
  rw [hs1]
  show wpAny _ _ (spliced ((false, eval (.Call (.Name "zip" pz) [e, e2] [] pz2) X.env) :: backTo pos (starEach [] X.env))) _ _ s
  refine Calls.spliced_cons ?_
  refine Call_ (ld_blt I hgz hmz PyProof.Rows.boot_zip (PyProof.Rows.callWith_type1 (thn (ha.run pz2 pins s σ H _ I hq) fun us s1 ⟨vs, H1, I1, r1, q1⟩ => ?_) hs hpl))
  obtain ⟨a, b, xs, ys, ex, hqx, hqy, hlen, q⟩ := q1
  subst ex
  cases r1 with
  | cons r rr =>
    cases rr with
    | cons r' rr =>
      cases rr
      cases r
      cases r'
      obtain ⟨its, rv, p1, z1⟩ := I1.list hqx
      obtain ⟨its2, rv2, p2, _⟩ := I1.list hqy
      have la : a < s1.heap.objs.size := p1.lt
      have lb : b < s1.heap.objs.size := p2.lt
      have n1 := rv.length
      have n2 := rv2.length
      refine call_zip_2 p1.isList p2.isList fun h' hz hTI hTO h1 h2 hsz hk => ?_
      refine Calls.spliced_nil ?_
      have L : Low (s1.heap.objs.size + 4) (s1.heap.objs.size + 2) (s1.heap.objs.size + 3) s1.heap.objs.size (s1.heap.objs.size + 1) a b h'.objs.size := by
        rw [hsz]
        exact ⟨Nat.add_lt_add_left (by decide) _, Nat.add_lt_add_left (by decide) _, Nat.add_lt_add_left (by decide) _, Nat.lt_add_of_pos_right (by decide), Nat.add_lt_add_left (by decide) _, Nat.lt_of_lt_of_le la (Nat.le_add_right _ _), Nat.lt_of_lt_of_le lb (Nat.le_add_right _ _)⟩
      refine call_list (s := { s1 with heap := h' }) (n := xs.length) (xs := its.toArray) (ys := its2.toArray) (I1.ok.hd hc) (PySem.W.ktu_apart s1.heap.objs.size a b la lb) L (by rw [List.size_toArray]; omega) (by rw [List.size_toArray]; omega) z1
        ⟨.inl hz, hTI, ⟨_, _, hTO⟩, h1, h2, p1.isList.at fun o e => hk _ o e, p2.isList.at fun o e => hk _ o e⟩ hz fun h2' tk acc c as hk2 hS hl hG hacc => ?_
      have old : ∀ c o, s1.heap.get? c = some o → h2'.get? c = some o := fun c o e => by
        have lc := Heap.lt_size e
        exact hk2 c o (Nat.ne_of_lt (Nat.lt_of_lt_of_le lc (Nat.le_add_right _ _))) (Nat.ne_of_lt (Nat.lt_of_lt_of_le lc (Nat.le_add_right _ _))) (Nat.ne_of_lt lc) (Nat.ne_of_lt (Nat.lt_of_lt_of_le lc (Nat.le_add_right _ _))) (hk c o e)
      obtain ⟨H', k1, k2, k3, k4, k5, k6, J⟩ := laid (tk := tk) I1 (by show s1.heap.objs.size ≤ h'.objs.size; rw [hsz]; exact Nat.le_add_right _ _) z1 hlen rv rv2 old hS hl hG hacc
      exact ⟨.ref _, H', J, rfl, q H' _ as k1 k2 k3 k4 k5 k6⟩
end L2.Zx

/-! Tuples that are known to be of the plain kind, and dict(t) of a tuple of pairs. -/
namespace L2.Hx
open PySem PySem.Spec PyProof.Rows
def PlO (o : Obj) : Prop := o.cls = .type "tuple" ∧ o.dict = none
def PlT (H : Hp) (a : Addr) (xs : List V) : Prop := ∃ o, PlO o ∧ H a = some (.frz o (.tup xs))
theorem PlT.sqT {K : PySem.W.Frag} {H : Hp} {a : Addr} {xs : List V} (h : PlT H a xs) : SqT K H a xs := by
  obtain ⟨o, _, e⟩ := h
  exact .inl (.inr ⟨o, e⟩)
theorem PlT.same {G H : Hp} {a : Addr} {xs : List V} (s : Same G H) (h : PlT G a xs) : PlT H a xs := by
  obtain ⟨o, p, e⟩ := h
  exact ⟨o, p, s _ _ e⟩
def tTupP (t : TA) : TE := fun σ H Q => t σ H fun xs H1 => xs.length ≤ sizeLine ∧ ∀ p o, PlO o → H1 p = none → Q (.ref p) (upd H1 p (.frz o (.tup xs)))
section
variable {X : Cx}
theorem pe_tupP {es : List Expr} {pos : Pos} {t : TA} {x1} (h : PA X es t) : PE X (.Tuple es x1 pos) (tTupP t) := by
  refine ⟨fun pins s σ H Q I hq => ?_⟩
  refine wpAny_Tuple_spliced (thn (h.run pos pins s σ H _ I hq) fun us s1 ⟨xs, H1, I1, r, z, q⟩ => ⟨by rw [← r.length]; exact z, ?_⟩)
  have hf : H1 s1.heap.objs.size = none := I1.hok.fresh (Nat.le_refl _)
  refine ⟨.ref s1.heap.objs.size, _, I1.laid (t' := s1.toks) (o := .frz { cls := .type "tuple", data := .seq us.toArray } (.tup xs)) (fun b u e => Heap.get?_push_of_some _ e) (Nat.le_refl _) ?_, rfl, q _ _ ⟨rfl, rfl⟩ hf⟩
  exact ⟨Heap.get?_push_size _ rfl, z, us, r, ⟨_, Heap.get?_push_size _ rfl, rfl, _, rfl⟩⟩
theorem call_tuple_ofP : CallR X (.type "tuple") (fun xs H Q => ∃ p ys, xs = [.ref p] ∧ SqL X.K H p ys ∧ ∀ l o, PlO o → H l = none → Q (.ref l) (upd H l (.frz o (.tup ys)))) := by
  intro pins s σ H xs us Q I r h
  obtain ⟨p, ys, rfl, hq, q⟩ := h
  obtain ⟨u, rfl, rx⟩ := vals1 r
  cases rx
  obtain ⟨its, r', pl, hz⟩ := I.list hq
  have hlen := r'.length
  refine call_tuple_list pl.isList (fun h' kp => ?_) (by simp only [List.size_toArray] <;> omega)
  have I1 : Inv X pins σ H { s with heap := h' } := I.kept (t' := s.toks) kp
  have I2 : Inv X pins σ (upd H h'.objs.size (.frz { cls := .type "tuple", data := .seq its.toArray } (.tup ys))) { s with heap := h'.push { cls := .type "tuple", data := .seq its.toArray } } :=
    I1.laid (t' := s.toks) (fun b o e => Heap.get?_push_of_some _ e) (Nat.le_refl _) (show ObjOk X.prog X.w _ _ _ (.frz _ (.tup ys)) from ⟨Heap.get?_push_size _ rfl, hz, its, r', IsTup.new _ _⟩)
  exact ⟨.ref h'.objs.size, _, I2, rfl, q _ _ ⟨rfl, rfl⟩ (I1.hok.fresh (Nat.le_refl _))⟩
/-- t + u, none of both empty -/
def rCatP (K : PySem.W.Frag) : R2 := fun x y H Q => ∃ a b xs ys, x = .ref a ∧ y = .ref b ∧ SqT K H a xs ∧ SqT K H b ys ∧ xs ≠ [] ∧ ys ≠ [] ∧ xs.length + ys.length ≤ sizeLine ∧ ∀ p o, PlO o → H p = none → Q (.ref p) (upd H p (.frz o (.tup (xs ++ ys))))
theorem op_catP : OpR X (binaryOp .Add) (rCatP X.K) := by
  intro pins s σ H x y v u Q I rx ry h
  obtain ⟨a, b, xs, ys, rfl, rfl, ha, hb, hx, hy, hz, q⟩ := h
  cases rx
  cases ry
  obtain ⟨its, r1, p1, _⟩ := I.tuple ha
  obtain ⟨its2, r2, p2, _⟩ := I.tuple hb
  refine HT.cat_tup p1 p2 (fun z => hx (r1.nil_iff.mp z)) (fun z => absurd (r2.nil_iff.mp z) hy) (fun z => ?_) (by rw [← r1.length, ← r2.length]; exact hz)
  refine ⟨.ref s.heap.objs.size, _, I.laid (t' := s.toks) (o := .frz { cls := .type "tuple", data := .seq (its ++ its2).toArray } (.tup (xs ++ ys))) (fun b ob q => Heap.get?_push_of_some _ q) (Nat.le_refl _) ?_, rfl, q _ _ ⟨rfl, rfl⟩ (I.hok.fresh (Nat.le_refl _))⟩
  exact ⟨Heap.get?_push_size _ rfl, by rw [List.length_append]; exact hz, _, r1.append r2, IsTup.new _ _⟩
theorem pairs_v {pins : List (Addr × Obj)} {σ : L2.St} {H : Hp} {s : Shared} (I : Inv X pins σ H s) : ∀ {ps : List Addr} {kvs : List (Key × V)}, Paired (fun p kv => SqT X.K H p [kV kv.1, kv.2]) ps kvs →
    ∃ (prs : List (Key × Value)) (vvs : List (Value × Value)), KV kvs prs ∧ prs.length = ps.length ∧ vvs.length = ps.length ∧ ∀ (j : Nat) (k v : Value), vvs[j]? = some (k, v) → ∃ (b : Addr) (key : Key), ps[j]? = some b ∧ IsTup s.heap b #[k, v] ∧ prs[j]? = some (key, v) ∧ keyIs key k = true
  | _, _, .nil => ⟨[], [], .nil, rfl, rfl, fun j k v e => by simp at e⟩
  | _, _, .cons (a := p) (b := kv) h t => by
    obtain ⟨prs, vvs, r, hl, hl2, hp⟩ := pairs_v I t
    obtain ⟨its, rv, ht, _⟩ := I.tuple h
    obtain ⟨u, y, ei, ru, ry⟩ := vals2 rv
    subst ei
    refine ⟨(kv.1, y) :: prs, (u, y) :: vvs, .cons ⟨rfl, ry⟩ r, by rw [List.length_cons, List.length_cons, hl], by rw [List.length_cons, List.length_cons, hl2], fun j k v e => ?_⟩
    cases j with
    | zero =>
      have e' : (u, y) = (k, v) := Option.some.inj e
      cases e'
      exact ⟨p, kv.1, rfl, ht, rfl, kV_is (P := X.prog) (w := X.w) ru⟩
    | succ j =>
      obtain ⟨b, key, e1, e2, e3, e4⟩ := hp j k v (by simpa using e)
      exact ⟨b, key, by simpa using e1, e2, by simpa using e3, e4⟩
/-- dict(t), t a plain tuple of pairs -/
def rDictT (K : PySem.W.Frag) : List V → Hp → VK → Prop := fun xs H Q => ∃ (a : Addr) (ps : List Addr) (kvs : List (Key × V)), xs = [.ref a] ∧ PlT H a (ps.map V.ref) ∧ Paired (fun p kv => SqT K H p [kV kv.1, kv.2]) ps kvs ∧
  ∀ p, H p = none → Q (.ref p) (upd H p (.dK (mergeK [] kvs)))
theorem call_dictPT (hcalm : X.calm = true) : CallR X (.type "dict") (rDictT X.K) := by
  intro pins s σ H xs us Q I r q
  obtain ⟨a, ps, kvs, ex, ⟨ob, ⟨oc, od⟩, ha⟩, hp, q⟩ := q
  subst ex
  obtain ⟨u, eu, rx⟩ := vals1 r
  subst eu
  cases rx
  obtain ⟨e, hz, its, rv, o2, ho2, hc2, n, hd2⟩ := I.hok a _ ha
  have eo : ob = o2 := by
    rw [e] at ho2
    exact Option.some.inj ho2
  subst eo
  have ei := refs_at rv
  subst ei
  rw [List.length_map] at hz
  obtain ⟨prs, vvs, rel, hl, hl2, hpr⟩ := pairs_v I hp
  refine PySem.call_dict_pairs (knd := mixKind X.prog X.w) (kvs := prs) (PairArg.tuple a (ps.map Value.ref).toArray (fun j => ps.getD j 0) vvs) (I.ok.hd hcalm) ⟨⟨ob, n, e, oc, od, hd2⟩, by rw [List.size_toArray, List.length_map, hl2], fun j k v hj => ?_⟩ ⟨by rw [hl, hl2], fun i key v hv => ?_⟩ (by rw [hl2]; exact hz) fun h' tk hd' hk => ?_
  · obtain ⟨b, key, e1, e2, e3, e4⟩ := hpr j k v hj
    have eb : ps.getD j 0 = b := by rw [List.getD_eq_getElem?_getD, e1]; rfl
    refine ⟨?_, .inl ?_⟩
    · show _ = some (Value.ref (ps.getD j 0))
      rw [List.getElem?_toArray, List.getElem?_map, e1, eb]
      rfl
    · show s.heap.IsTuple (ps.getD j 0) _
      rw [eb]
      exact e2
  · obtain ⟨b, kk, e1, e2, e3, e4⟩ := hpr i key v hv
    exact ⟨kk, e3, e4⟩
  · have hm : (s.heap.objs.size == sysModules) = false := beq_eq_false_iff_ne.mpr (Nat.ne_of_gt I.big)
    have hlen : (mergeK [] kvs).length ≤ sizeLine := by
      refine Nat.le_trans (length_mergeK kvs []) ?_
      rw [List.length_nil, Nat.zero_add, rel.length, hl]
      exact hz
    exact ⟨.ref s.heap.objs.size, upd H s.heap.objs.size (.dK (mergeK [] kvs)), I.laid (t' := tk) (fun b o e => hk b o List.not_mem_nil e) (Nat.le_refl _) (show ObjOk X.prog X.w _ _ _ (.dK (mergeK [] kvs)) from ⟨hlen, hm, merged [] prs, KV.merge rel .nil, hd'⟩), rfl, q _ (I.hok.fresh (Nat.le_refl _))⟩
end
/-- a def by the names of its parameters, in any order: g puts them in order -/
theorem pe_kwg {X : Cx} {k j : Nat} {x : Str} {ps ks : List Str} {sp : Sp} {p pos : Pos} {kws : List Keyword} {tk : TA} {g : {α : Type} → List α → List α} (F : ∃ f fd, FnG X.prog X.w X.K X.mg X.base CX0 k f fd ps sp ∧ X.mg x = some (.ref f) ∧ PySem.W.keepIn X.K (.ref f) = true ∧ KwBinds X.K fd ps ks g) (hgd : X.A.guards = some []) (hr : Room j X.A) (hkw : PK X kws tk)
    (hrel : ∀ {zs : List V} {ws : List Value}, Vals zs ws → Vals (g zs) (g ws)) (hj : k ≤ j := by first | exact Nat.le_refl _ | decide)
    (hg : Gl X x := by rfl) (hall : (backToKw pos (keywordEach kws X.env)).all (·.1.isSome) = true := by rfl) (hks : (backToKw pos (keywordEach kws X.env)).filterMap (·.1) = ks := by rfl) (hdb : (x == ("__debug__" : Str)) = false := by decide)
    (hpl : ((backTo pos (starEach [] X.env)).any (·.1) || (backToKw pos (keywordEach kws X.env)).any (·.1.isNone)) = false := by rfl) :
    PE X (.Call (.Name x p) [] kws pos) (tKw sp g ps.length E0 tk) := by
  obtain ⟨f, fd, a, b, c, d⟩ := F
  exact pe_kw a hgd (hr.mono hj) hg b c d pass0 hkw hrel hall hks hdb hpl
/-- three by turns: the last two come first -/
def rot3 {α : Type} : List α → List α
  | [a, b, c] => [b, c, a]
  | l => l
def swap2 {α : Type} : List α → List α
  | [a, b] => [b, a]
  | l => l
theorem rot3_rel {zs : List V} {ws : List Value} (h : Vals zs ws) : Vals (rot3 zs) (rot3 ws) := by
  match zs, ws, h with
  | [], [], .nil => exact .nil
  | [_], [_], .cons a .nil => exact .cons a .nil
  | [_, _], [_, _], .cons a (.cons b .nil) => exact .cons a (.cons b .nil)
  | [_, _, _], [_, _, _], .cons a (.cons b (.cons c .nil)) => exact .cons b (.cons c (.cons a .nil))
  | _ :: _ :: _ :: _ :: _, _ :: _ :: _ :: _ :: _, h => exact h
theorem swap2_rel {zs : List V} {ws : List Value} (h : Vals zs ws) : Vals (swap2 zs) (swap2 ws) := by
  match zs, ws, h with
  | [], [], .nil => exact .nil
  | [_], [_], .cons a .nil => exact .cons a .nil
  | [_, _], [_, _], .cons a (.cons b .nil) => exact .cons b (.cons a .nil)
  | _ :: _ :: _ :: _, _ :: _ :: _ :: _, h => exact h
end L2.Hx

/-! A tuple turned about, and a tuple beside the empty one. -/
namespace L2.Hx
open PySem PySem.Spec PyProof.Rows HT
section
variable {prog : Program} {w : World} {A : Around} {E : Value → Shared → Prop} {s : Shared}
theorem adjust_rev (n : Nat) : Builtin.Slice.sliceAdjust none none (-1) (n : Int) = ((n : Int) - 1, -1) := by
  unfold Builtin.Slice.sliceAdjust
  simp
theorem places_rev (n : Nat) : Builtin.Slice.slicePlaces ((n : Int) - 1) (-1) (-1) = n := by
  unfold Builtin.Slice.slicePlaces
  have h1 : ¬ ((-1 : Int) > 0) := by omega
  have h2 : (-(-1) : Int) = 1 := by omega
  simp only [h1, if_false, h2, Int.ediv_one]
  split <;> omega
theorem fm_congr {α : Type} {f g : Nat → Option α} : ∀ {l : List Nat}, (∀ m ∈ l, f m = g m) → l.filterMap f = l.filterMap g
  | [], _ => rfl
  | m :: l, h => by
    rw [List.filterMap_cons, List.filterMap_cons, h m List.mem_cons_self, fm_congr fun x hx => h x (List.mem_cons_of_mem _ hx)]
theorem sliceApplied_rev {sl : Addr} {vs : Value} {n : Nat} {Q : Int × Int × Nat → Shared → Prop} (hs : s.heap.IsSliceOf sl .none .none vs) (ps : IsPart vs (some (-1))) (h : Q ((n : Int) - 1, -1, n) s) :
    wpAny (model prog w) A (Builtin.Slice.sliceApplied (.ref sl) (pure (n : Int))) Q E s := by
  obtain ⟨os, hos, hcs, hds⟩ := id hs
  unfold Builtin.Slice.sliceApplied Builtin.Slice.sliceFields
  refine wpAny_bind (wpAny_bind (wpAny_field hos hds (x := .none) rfl (wpAny_bind (wpAny_field hos hds (x := .none) rfl (wpAny_bind (wpAny_field hos hds (x := vs) rfl (wpAny_pure ?_)))))))
  refine wpAny_bind (slicePart_ ps ?_)
  show wpAny _ _ (if ((-1 : Int) == 0) = true then _ else _) _ _ s
  rw [if_neg (by decide)]
  refine wpAny_bind (PyProof.Rows.slicePart_none (wpAny_bind (PyProof.Rows.slicePart_none (wpAny_bind (wpAny_pure ?_)))))
  show wpAny _ _ (match Builtin.Slice.sliceAdjust none none (-1) (n : Int) with | (lo, hi) => pure (lo, (-1 : Int), Builtin.Slice.slicePlaces lo hi (-1))) _ _ s
  rw [adjust_rev]
  show wpAny _ _ (pure ((n : Int) - 1, (-1 : Int), Builtin.Slice.slicePlaces ((n : Int) - 1) (-1) (-1))) _ _ s
  rw [places_rev]
  exact wpAny_pure h
theorem pick_rev (xs : Array Value) : ((List.range xs.size).filterMap fun (m : Nat) => xs[(((xs.size : Int) - 1) + (m : Int) * (-1)).toNat]?).toArray = xs.toList.reverse.toArray := by
  have e : (List.range xs.size).filterMap (fun (m : Nat) => xs[(((xs.size : Int) - 1) + (m : Int) * (-1)).toNat]?) = (List.range xs.size).filterMap (fun (m : Nat) => (xs.toList.reverse.toArray)[(((0 : Nat) : Int) + (m : Int) * 1).toNat]?) := by
    refine fm_congr fun m hm => ?_
    have hm := List.mem_range.mp hm
    rw [show (((0 : Nat) : Int) + (m : Int) * 1).toNat = m by omega, show xs.toList.reverse.toArray[m]? = xs.toList.reverse[m]? by simp, List.getElem?_reverse (by rw [Array.length_toList]; exact hm), Array.getElem?_toList, Array.length_toList]
    congr 1
    omega
  rw [e, pick_gen, List.drop_zero, List.toList_toArray, List.take_of_length_le (by simp)]
theorem getItem_tuple_rev {t sl : Addr} {items : Array Value} {vs : Value} {Q : Value → Shared → Prop} (ht : IsTup s.heap t items) (hs : s.heap.IsSliceOf sl .none .none vs) (ps : IsPart vs (some (-1)))
    (h : Q (.ref s.heap.objs.size) { s with heap := s.heap.push { cls := .type "tuple", data := .seq items.toList.reverse.toArray } }) (hsz : items.size ≤ sizeLine) : wpAny (model prog w) A (getItem (.ref t) (.ref sl)) Q E s := by
  have htake : sizeOk (.seq items.toList.reverse.toArray) := by
    show items.toList.reverse.toArray.size ≤ sizeLine
    rw [List.size_toArray, List.length_reverse, Array.length_toList]
    exact hsz
  obtain ⟨os, hos, hcs, hds⟩ := id hs
  have hTs : s.TypeIs (.ref sl) "slice" := ⟨os, hos, hcs⟩
  unfold getItem
  try with_reducible refine wpAny_holding ?_
  first | refine wpAny_bind (wpAny_pure ?_) | skip
  refine wpAny_bind (wpAny_sequenceKey ht.typeIs (by decide) ?_)
  refine wpAny_bind (wpAny_callSpecial?_slot (name := Str.ofString "__getitem__") ht.typeIs PyProof.Rows.slot_tuple_getitem
    (wpAny_call_entry PyProof.Rows.slot_tuple_getitem ht.typeIs entry_tuple_getitem ?_ (args_tuple_getitem _ _)))
  show wpAny _ _ (Builtin.Tuple.tupleItemsOf (.ref t) >>= _) _ _ s
  refine wpAny_bind (tupleItemsOf_ ht ?_)
  refine wpAny_bind (wpAny_typeOf hTs ?_)
  rw [if_pos (by decide)]
  refine wpAny_bind (sliceApplied_rev hs ps ?_)
  have hno : ¬ ((((items.size : Int) - 1) == 0 && (-1 : Int) == 1 && items.size == items.size) = true) := by simp
  show wpAny _ _ (if (((items.size : Int) - 1) == 0 && (-1 : Int) == 1 && items.size == items.size) = true then _ else _) _ _ s
  rw [if_neg hno, pick_rev]
  first
    | exact wpAny_bind (m := Builtin.Tuple.tupleExact _) (wpAny_newObj_type (wpAny_pure ⟨_, rfl, wpAny_pure h⟩) htake)
    | exact wpAny_bind (m := Builtin.Tuple.tupleExact _) (wpAny_newObj_type (wpAny_bind (wpAny_pure (wpAny_pure ⟨_, rfl, wpAny_pure h⟩))) htake)
    | exact wpAny_bind (wpAny_bind (m := Builtin.Tuple.tupleExact _) (wpAny_newObj_type (wpAny_pure (wpAny_pure ⟨_, rfl, wpAny_pure h⟩)) htake))
    | exact wpAny_bind (wpAny_bind (m := Builtin.Tuple.tupleExact _) (wpAny_newObj_type (wpAny_pure ⟨_, rfl, wpAny_pure h⟩) htake))
end
/-- t[::-1] -/
def tRevT (K : PySem.W.Frag) (te : TE) : TE := fun σ H Q => te σ H fun x H1 => ∃ a xs, x = .ref a ∧ SqT K H1 a xs ∧ ∀ p, H1 p = none → Q (.ref p) (upd H1 p (.tup xs.reverse))
theorem pe_revT {X : Cx} {e : Expr} {te : TE} {k : Nat} {p1 p2 p3 pos : Pos} (he : PE X e te) : PE X (.Subscript e (.Slice none none (some (.UnaryOp .USub (.Constant (.int 1) k p1) p2)) p3) pos) (tRevT X.K te) := by
  refine ⟨fun pins s σ H Q I h => ?_⟩
  refine Subscript_ (thn (he.run pins s σ H _ I h) fun v s1 ⟨x, H1, I1, r1, q1⟩ => ?_)
  obtain ⟨a, xs, ex, hx, q⟩ := q1
  subst ex
  cases r1
  have hst : PO X (some (.UnaryOp .USub (.Constant (.int 1) k p1) p2)) (tPart (tUn (rU fun i => .int (-i)) (tC (.int 1)))) := po_some (pe_un un_neg pe_int)
  refine wpAny_Slice (thn (po_none.run pins s1 σ H1 (fun o H2 => o = none ∧ H2 = H1) I1 ⟨rfl, rfl⟩) fun vl s2 ⟨l, H2, I2, pl, el, e2⟩ => ?_)
  subst el e2
  refine thn (po_none.run pins s2 σ H2 (fun o H3 => o = none ∧ H3 = H2) I2 ⟨rfl, rfl⟩) fun vu s3 ⟨u, H3, I3, pu, eu, e3⟩ => ?_
  subst eu e3
  refine thn (hst.run pins s3 σ H3 (fun o H4 => o = some (-1) ∧ H4 = H3) I3 ⟨1, rfl, -1, rfl, rfl, rfl⟩) fun vs s4 ⟨o, H4, I4, ps, eo, e4⟩ => ?_
  subst eo e4
  have I5 : Inv X pins σ H4 { s4 with heap := s4.heap.push { cls := .type "slice", data := .fields #[vl, vu, vs] } } := I4.kept (t' := s4.toks) fun b ob q => Heap.get?_push_of_some _ q
  obtain ⟨its, r, ht, hz⟩ := I5.tuple hx
  have hlen := r.length
  cases pl
  cases pu
  show wpAny (model X.prog X.w) X.A (subscriptTail e (.Slice none none (some (.UnaryOp .USub (.Constant (.int 1) k p1) p2)) p3) (.ref a) (.ref s4.heap.objs.size)) (EP X pins σ Q) X.xe { s4 with heap := s4.heap.push { cls := .type "slice", data := .fields #[.none, .none, vs] } }
  refine tail_any (ops := [.ref a, .ref s4.heap.objs.size]) ht.typeIs (PyProof.Rows.slot_tuple_getitem.lookup) ?_ (by with_unfolding_all rfl)
  refine getItem_tuple_rev ht (Heap.IsSliceOf.new _ .none .none vs) ps ?_ (by rw [List.size_toArray]; omega)
  refine ⟨.ref _, _, I5.laid (t' := s4.toks) (o := .tup xs.reverse) (fun b ob q => Heap.get?_push_of_some _ q) (Nat.le_refl _) ?_, rfl, q _ (I5.hok.fresh (Nat.le_refl _))⟩
  exact ⟨by rw [List.length_reverse]; omega, its.reverse, r.reverse, ⟨_, Heap.get?_push_size _ rfl, rfl, _, rfl⟩⟩
/-! ### t == () -/
def rEqNil (K : PySem.W.Frag) : R2 := fun x y H Q => ∃ a b xs, x = .ref a ∧ y = .ref b ∧ SqT K H a xs ∧ SqT K H b [] ∧ Q (.bl xs.isEmpty) H
theorem op_eqNil {X : Cx} (hu : X.A.units + 64 < cLine) : OpR X (compareOp .Eq) (rEqNil X.K) := by
  intro pins s σ H x y v u Q I rx ry h
  obtain ⟨a, b, xs, rfl, rfl, ha, hb, q⟩ := h
  cases rx
  cases ry
  obtain ⟨its, r1, p1, _⟩ := I.tuple ha
  obtain ⟨its2, r2, p2, _⟩ := I.tuple hb
  cases r2
  refine SeqAt.RcAt.tuples (e := fun _ => true) p1 p2 (by omega) (fun j h1 h2 => absurd h2 (by simp)) _ _ _ _ ⟨.bl _, H, I, rfl, ?_⟩
  have e : ((List.range (min its.toArray.size ([] : List Value).toArray.size)).all (fun _ => true) && its.toArray.size == ([] : List Value).toArray.size) = xs.isEmpty := by
    cases xs with
    | nil =>
      cases r1
      rfl
    | cons x xs =>
      cases r1
      rfl
  rw [e]
  exact q
end L2.Hx

/-! sorted of pairs of a text and an int; dict(zip(xs, ys)) of ints; x in t, t a tuple of data. -/
namespace L2.Sk
open PySem PySem.Spec PyProof.Rows Srt
section
variable {prog : Program} {w : World} {A : Around} {E : Value → Shared → Prop} {s : Shared}
theorem oneLt_str {a b : Str} {t u : Tok} {Q : Bool → Shared → Prop} (h : Q (decide (a.cps.toList < b.cps.toList)) s) : wpAny (model prog w) A (oneLt' true (.str a t) (.str b u)) Q E s := by
  rw [oneLt'_eq]
  simp only [if_true]
  refine wpAny_bind (wpAny_cRoomFor_byValue rfl ?_)
  refine wpAny_bind (wpAny_callSpecialIfBound?_slot (typeIs_str s a t) slot_str_lt (call_str_lt ?_))
  exact wpAny_truthy_bool h
def IsPairS (h : Heap) (v : Value) (x : Str) (y : Int) : Prop := ∃ a o t u n, v = .ref a ∧ h.get? a = some o ∧ o.cls = .type "tuple" ∧ o.data = .seq #[.str x t, .int y u] n
theorem IsPairS.keeps {h h' : Heap} {v : Value} {x : Str} {y : Int} (p : IsPairS h v x y) (k : ∀ b o, h.get? b = some o → o.cls = .type "tuple" → h'.get? b = some o) : IsPairS h' v x y := by
  obtain ⟨a, o, t, u, n, e, ho, hc, hd⟩ := p
  exact ⟨a, o, t, u, n, e, k _ _ ho hc, hc, hd⟩
theorem pair_tot {vs : List Value} (hp : ∀ v ∈ vs, ∃ x y, IsPairS s.heap v x y) : Tot prog w A s (tuples' true) (fun p => p.1 ∈ vs) := by
  intro p q hm hm'
  obtain ⟨x, y, a, o, t, u, n, e, ho, hc, hd⟩ := hp _ hm
  obtain ⟨x', y', a', o', t', u', n', e', ho', hc', hd'⟩ := hp _ hm'
  rw [e, e']
  refine ⟨if (x == x') = true then (if y = y' then false else decide (y < y')) else decide (x.cps.toList < x'.cps.toList), ?_⟩
  refine PySem.W.kat_lt ho hd ho' hd' ?_
  show PySem.W.KatLex prog w A true (decide (2 < 2)) _ [(.str x t, .str x' t'), (.int y u, .int y' u')] 0 s
  refine PySem.W.kat_cons (SeqAt.EqAt.str_str x t x' t' prog w _ _ ?_)
  refine PySem.W.kat_go (fun e1 => ?_) (fun e1 => ?_)
  · refine PySem.W.kat_yes (PySem.W.kat_cons (SeqAt.EqAt.int_int y u y' u' prog w _ _ ?_))
    refine PySem.W.kat_go (fun e2 => ?_) (fun e2 => ?_)
    · have ey : y = y' := by simpa using e2
      have e3 : (if (x == x') = true then (if y = y' then false else decide (y < y')) else decide (x.cps.toList < x'.cps.toList)) = false := by rw [if_pos e1, if_pos ey]
      exact PySem.W.kat_yes (PySem.W.kat_nil ⟨rfl, e3.symm⟩)
    · have ey : ¬ y = y' := by simpa using e2
      have e3 : (if (x == x') = true then (if y = y' then false else decide (y < y')) else decide (x.cps.toList < x'.cps.toList)) = decide (y < y') := by rw [if_pos e1, if_neg ey]
      refine PySem.W.kat_no (PySem.W.kat_one _ _ (PyProof.Rows.lt_int ?_))
      exact (show s = s ∧ decide (y < y') = (if (x == x') = true then (if y = y' then false else decide (y < y')) else decide (x.cps.toList < x'.cps.toList)) from ⟨rfl, e3.symm⟩)
  · have e3 : (if (x == x') = true then (if y = y' then false else decide (y < y')) else decide (x.cps.toList < x'.cps.toList)) = decide (x.cps.toList < x'.cps.toList) := by rw [if_neg (by rw [e1]; exact Bool.false_ne_true)]
    exact PySem.W.kat_no (oneLt_str ⟨rfl, e3.symm⟩)
theorem firsts_of {h : Heap} : ∀ {vs : List Value}, (∀ v ∈ vs, ∃ x y, IsPairS h v x y) → ∃ fs : List Value, PySem.W.KatTups h vs fs ∧ fs.length = vs.length ∧ ∀ f ∈ fs, ∃ x t, f = Value.str x t
  | [], _ => ⟨[], PySem.W.KatTups.nil, rfl, fun _ hm => by simp at hm⟩
  | v :: vs, hp => by
    obtain ⟨fs, h1, h2, h3⟩ := firsts_of (vs := vs) fun v' hm => hp v' (List.mem_cons_of_mem _ hm)
    obtain ⟨x, y, a, o, t, u, n, e, ho, hc, hd⟩ := hp v (List.mem_cons_self ..)
    subst e
    refine ⟨.str x t :: fs, PySem.W.KatTups.cons ho hc hd rfl h1, by rw [List.length_cons, List.length_cons, h2], fun f hm => ?_⟩
    rcases List.mem_cons.mp hm with rfl | hm
    · exact ⟨x, t, rfl⟩
    · exact h3 f hm
theorem pairs_sortable {a : Addr} {vs : List Value} (h0 : 0 < vs.length) (hp : ∀ v ∈ vs, ∃ x y, IsPairS s.heap v x y) (ha : ∀ o, s.heap.get? a = some o → o.cls ≠ .type "tuple") : Sortable prog w A s a vs := by
  intro h' keep
  have hp' : ∀ v ∈ vs, ∃ x y, IsPairS h' v x y := fun v hm => by
    obtain ⟨x, y, p⟩ := hp v hm
    exact ⟨x, y, p.keeps fun b o e c => keep b o (fun z => by subst z; exact ha o e c) e⟩
  obtain ⟨fs, h1, h2, h3⟩ := firsts_of hp'
  refine ⟨tuples' true, fun Q E hq => ?_, pair_tot hp'⟩
  refine PySem.W.kat_kind (T := .type "str") h1 (by omega) (fun f hm => ?_) (by rfl) ?_
  · obtain ⟨x, t, rfl⟩ := h3 f hm
    exact PySem.W.Looks.now
  · have e : (Value.type "str" != Value.type "tuple") = true := by first | decide +kernel | rfl | decide
    rw [e]
    exact hq
theorem sorted_pairs {l : Addr} {vs : List Value} {Q : Value → Shared → Prop} (hl : s.heap.IsList l vs.toArray) (hz : vs.length ≤ sizeLine) (hp : ∀ v ∈ vs, ∃ x y, IsPairS s.heap v x y)
    (h : ∀ (h' : Heap) (d : Addr) (out : List Value), out.Perm vs → (∀ b o, s.heap.get? b = some o → h'.get? b = some o) → s.heap.objs.size ≤ d → (∃ n, h'.get? d = some (seqObj "list" out.toArray n)) → Q (.ref d) { s with heap := h' }) :
    wpAny (model prog w) A (call (.builtin "sorted") [.ref l]) Q E s := by
  refine sorted_any hl hz (fun h2 h₁ a ha k => ?_) fun out ho => ?_
  · refine pairs_sortable (s := { s with heap := h₁ }) (by omega) (fun v hm => ?_) fun o e => ?_
    · obtain ⟨x, y, p⟩ := hp v hm
      exact ⟨x, y, p.keeps fun b o e _ => (k b o e).2⟩
    · have e' : some o = some (seqObj "list" vs.toArray 0) := e.symm.trans ha
      cases e'
      intro c
      exact absurd (Value.type.inj c) (by decide)
  · exact h _ _ out ho (fun b o e => sortedAll_old e) (Nat.le_succ _) (sortedAll_at s.heap vs out.toArray)
end
end L2.Sk
namespace L2
open PySem PySem.Spec PyProof.Rows
section
variable {X : Cx}
/-- sorted(xs), xs a list of pairs of a text and an int: the same in another order -/
def rSortedSP (K : PySem.W.Frag) : List V → Hp → VK → Prop := fun vs H Q => ∃ a xs, vs = [V.ref a] ∧ SqL K H a xs ∧ (∀ x ∈ xs, ∃ t i j, x = V.ref t ∧ SqT K H t [.str i, .int j]) ∧
  ∀ ys p, ys.Perm xs → H p = none → Q (.ref p) (upd H p (.lst ys))
theorem cr_sortedSP : CallR X (.builtin "sorted") (rSortedSP X.K) := by
  intro pins s σ H vs us Q I r h
  obtain ⟨a, xs, rfl, hs, hx, q⟩ := h
  obtain ⟨its, rv, hl, hz⟩ := I.list hs
  obtain ⟨u, rfl, ru⟩ := vals1 r
  obtain rfl : u = Value.ref a := ru
  obtain ⟨e1, e2⟩ := refs_back rv fun x m => by
    obtain ⟨t, _, _, e, _⟩ := hx x m
    exact ⟨t, e⟩
  refine Sk.sorted_pairs hl.isList (by rw [← rv.length]; exact hz) (fun v hv => ?_) fun h' d out hp k hd hn => ?_
  · obtain ⟨t, rfl⟩ := e2 v hv
    have hm : V.ref t ∈ xs := by rw [e1]; exact List.mem_map.mpr ⟨_, hv, rfl⟩
    obtain ⟨t', i, j, e, ht⟩ := hx _ hm
    cases e
    obtain ⟨its2, r2, ⟨o, ho, hc, n, hd⟩, _⟩ := I.tuple ht
    obtain ⟨u1, u2, rfl, ri, rj⟩ := vals2 r2
    obtain ⟨t1, rfl⟩ := ri
    obtain ⟨t2, rfl⟩ := rj
    exact ⟨i, j, t, o, t1, t2, n, rfl, ho, hc, hd⟩
  · have h3 : ∀ u ∈ out, ∃ a, u = Value.ref a := fun u hu => e2 u (hp.mem_iff.mp hu)
    obtain ⟨n, hn⟩ := hn
    refine ⟨.ref d, upd H d (.lst (out.map backV)), I.laid (t' := s.toks) k hd ⟨?_, out, n, vals_back h3, hn⟩, rfl, q _ d ?_ (I.hok.fresh hd)⟩
    · rw [List.length_map, hp.length_eq, ← rv.length]; exact hz
    · rw [e1]; exact hp.map backV
/-- sorted(xs), xs a list of pairs of ints that stand anywhere: a new list, sorted -/
def rSortedPT (K : PySem.W.Frag) : List V → Hp → VK → Prop := fun vs H Q => ∃ (a : Addr) (xs : List V) (k : V → Int × Int), vs = [V.ref a] ∧ SqL K H a xs ∧ (∀ x ∈ xs, ∃ t, x = V.ref t ∧ SqT K H t [.int (k x).1, .int (k x).2]) ∧
  ∀ ys p, SrtO.Srtd (ltP k) ys → ys.Perm xs → H p = none → Q (.ref p) (upd H p (.lst ys))
theorem cr_sortedPT : CallR X (.builtin "sorted") (rSortedPT X.K) := by
  intro pins s σ H vs us Q I r h
  obtain ⟨a, xs, k, rfl, hs, hx, q⟩ := h
  obtain ⟨its, rv, hl, hz⟩ := I.list hs
  obtain ⟨u, rfl, ru⟩ := vals1 r
  obtain rfl : u = Value.ref a := ru
  obtain ⟨e1, e2⟩ := refs_back rv fun x m => by
    obtain ⟨t, e, _⟩ := hx x m
    exact ⟨t, e⟩
  refine SrtO.sorted_pairsO (k := fun u => k (backV u)) hl.isList (by rw [← rv.length]; exact hz) (fun v hv => ?_) fun h' d out h1 h2 kp hd hn => ?_
  · obtain ⟨t, rfl⟩ := e2 v hv
    have hm : V.ref t ∈ xs := by rw [e1]; exact List.mem_map.mpr ⟨_, hv, rfl⟩
    obtain ⟨t', e, ht⟩ := hx _ hm
    cases e
    obtain ⟨its2, r2, ⟨o, ho, hc, n, hd⟩, _⟩ := I.tuple ht
    obtain ⟨u1, u2, rfl, ri, rj⟩ := vals2 r2
    obtain ⟨t1, rfl⟩ := ri
    obtain ⟨t2, rfl⟩ := rj
    exact ⟨t, o, t1, t2, n, rfl, ho, hc, hd⟩
  · have h3 : ∀ u ∈ out, ∃ a, u = Value.ref a := fun u hu => e2 u (h2.perm.mem_iff.mp hu)
    obtain ⟨n, hn⟩ := hn
    have hb : SrtO.Stb (ltP k) (out.map backV) xs := by
      rw [e1]
      exact SrtO.Stb.map (ltP_swo k) backV h2
    refine ⟨.ref d, upd H d (.lst (out.map backV)), I.laid (t' := s.toks) kp hd ⟨?_, out, n, vals_back h3, hn⟩, rfl, q _ d (SrtO.srtd_map h1) hb.perm (I.hok.fresh hd)⟩
    rw [hb.len]
    exact hz
theorem units65 {k : Nat} {A : Around} (r : Room k A) : A.units + 65 < cLine := by have := r.un; omega
/-- x in t, both any data, t a tuple -/
def rInT (K : PySem.W.Frag) : R2 := fun x y H Q => ∃ d ds, Dp K H x d ∧ Dp K H y (.tuple ds) ∧ SeqAt.shaped d = true ∧ SeqAt.shaped (.tuple ds) = true ∧ Q (.bl (ds.any fun z => PyData.eqv z d)) H
theorem op_inT (hu : X.A.units + 65 < cLine) : OpR X (compareOp .In) (rInT X.K) := by
  intro pins s σ H x y v u Q I rx ry h
  obtain ⟨d, ds, hd, he, sd, se, q⟩ := h
  obtain ⟨as, r1⟩ := Dp.reads I d x v hd rx
  obtain ⟨bs, r2⟩ := Dp.reads I (.tuple ds) y u he ry
  exact SeqAt.in_tuple_reads r2 r1 (SeqAt.canLay_of_shaped se) (SeqAt.canLay_of_shaped sd) (room_in_shaped sd hu) ⟨.bl _, H, I, rfl, q⟩
/-- d != {} -/
def rNeDct : R2 := fun x y H Q => ∃ a b ks, x = .ref a ∧ y = .ref b ∧ H a = some (.dK ks) ∧ H b = some (.dK []) ∧ Q (.bl (!ks.isEmpty)) H
theorem op_neDct (hu : X.A.units < cLine) : OpR X (compareOp .NotEq) rNeDct := by
  intro pins s σ H x y v u Q I rx ry h
  obtain ⟨a, b, ks, rfl, rfl, ea, eb, q⟩ := h
  obtain rfl : v = Value.ref a := rx
  obtain rfl : u = Value.ref b := ry
  obtain ⟨_, ya, va, ra, da⟩ := (show ObjOk X.prog X.w H s.heap a (.dK ks) from I.hok a _ ea)
  obtain ⟨_, yb, vb, rb, db⟩ := (show ObjOk X.prog X.w H s.heap b (.dK []) from I.hok b _ eb)
  have l1 := ra.length
  have l2 := rb.length
  refine PySem.W.keq_ne (knd := mixKind X.prog X.w) (r := true) ya yb da db hu (fun e => ?_) (fin_bl I q ?_)
  · have e0 : ks = [] := List.length_eq_zero_iff.mp (by rw [l1, e, ← l2]; rfl)
    subst e0
    exact hits_all rb ra fun p m => absurd m List.not_mem_nil
  · rw [← l1, ← l2]
    cases ks <;> rfl
/-- dict(zip(xs, ys)), two lists of ints -/
def rDictZip (K : PySem.W.Frag) : List V → Hp → VK → Prop := fun zs H Q => ∃ (a b : Addr) (ns us : List Int), zs = [.ref a, .ref b] ∧ SqL K H a (ns.map V.int) ∧ SqL K H b (us.map V.int) ∧ ns.length ≤ us.length ∧
  ∀ p, H p = none → Q (.ref p) (upd H p (.dK (mergeK [] ((ns.zip us).map fun q => ((.inl q.1 : Key), V.int q.2)))))
def tDictZip (K : PySem.W.Frag) (ta : TA) : TE := fun σ H Q => ta σ H fun zs H1 => rDictZip K zs H1 Q
theorem zip_rel {xs ys : List Value} {ns us : List Int} (r1 : Vals (ns.map V.int) xs) (r2 : Vals (us.map V.int) ys) : KV ((ns.zip us).map fun q => ((.inl q.1 : Key), V.int q.2)) ((ns.zip ys).map fun q => ((.inl q.1 : Key), q.2)) := by
  induction ns generalizing us xs ys with
  | nil => exact .nil
  | cons n ns ih =>
    cases us with
    | nil =>
      cases r2
      exact .nil
    | cons u us =>
      cases r1 with
      | cons a1 b1 =>
        cases r2 with
        | cons a2 b2 => exact .cons ⟨rfl, a2⟩ (ih b1 b2)
theorem pe_dictZip {e e2 : Expr} {ta : TA} {p pz pz2 pos : Pos} (hc : X.calm = true) (hg : Gl X "dict") (hm : X.mg "dict" = none) (hgz : Gl X "zip") (hmz : X.mg "zip" = none) (ha : PA X [e, e2] ta) (hv : bootBuiltins "dict" = some (.type "dict") := by rfl)
    (hs : starEach [e, e2] X.env = (false, eval e X.env) :: starEach [e2] X.env := by rfl) (hpl : (backTo pz2 (starEach [e2] X.env)).any (·.1) = false := by rfl)
    (hs1 : starEach [.Call (.Name "zip" pz) [e, e2] [] pz2] X.env = (false, eval (.Call (.Name "zip" pz) [e, e2] [] pz2) X.env) :: starEach [] X.env := by rfl) :
    PE X (.Call (.Name "dict" p) [.Call (.Name "zip" pz) [e, e2] [] pz2] [] pos) (tDictZip X.K ta) := by
  refine ⟨fun pins s σ H Q I hq => ?_⟩
  refine wpAny_Call_Name_kw (ld_blt I hg hm hv ?_)
  refine PyProof.Rows.callWith_type1 ?_ hs1 rfl
  rw [hs1]
  show wpAny _ _ (spliced ((false, eval (.Call (.Name "zip" pz) [e, e2] [] pz2) X.env) :: backTo pos (starEach [] X.env))) _ _ s
  refine Calls.spliced_cons ?_
  refine Call_ (ld_blt I hgz hmz PyProof.Rows.boot_zip (PyProof.Rows.callWith_type1 (thn (ha.run pz2 pins s σ H _ I hq) fun us s1 ⟨vs, H1, I1, r1, q1⟩ => ?_) hs hpl))
  obtain ⟨a, b, ns, ms, ex, hqx, hqy, hlen, q⟩ := q1
  subst ex
  cases r1 with
  | cons r rr =>
    cases rr with
    | cons r' rr =>
      cases rr
      cases r
      cases r'
      obtain ⟨its, rv, p1, z1⟩ := I1.list hqx
      obtain ⟨its2, rv2, p2, _⟩ := I1.list hqy
      have la : a < s1.heap.objs.size := p1.lt
      have lb : b < s1.heap.objs.size := p2.lt
      have n1 := rv.length
      have n2 := rv2.length
      rw [List.length_map] at n1 n2
      refine call_zip_2 p1.isList p2.isList fun h' hz hTI hTO h1 h2 hsz hk => ?_
      refine Calls.spliced_nil ?_
      have I2 : Inv X pins σ H1 { s1 with heap := h' } := I1.kept (t' := s1.toks) hk
      have ml : min its.toArray.size its2.toArray.size = ns.length := by rw [List.size_toArray, List.size_toArray]; omega
      refine PySem.call_dict_pairs (s := { s1 with heap := h' }) (knd := mixKind X.prog X.w) (kvs := (ns.zip its2).map fun q => ((.inl q.1 : Key), q.2)) (PairArg.zip (s1.heap.objs.size + 4) (s1.heap.objs.size + 2) (s1.heap.objs.size + 3) s1.heap.objs.size (s1.heap.objs.size + 1) a b (PySem.W.ktu_apart s1.heap.objs.size a b la lb) its.toArray its2.toArray)
        (I2.ok.hd hc) ⟨hz, hTI, ⟨_, _, hTO⟩, h1, h2, p1.isList.at fun o e => hk _ o e, p2.isList.at fun o e => hk _ o e⟩ ⟨by rw [List.length_map, List.length_zip, ml]; omega, fun i key v hv => ?_⟩ (by rw [ml]; rw [List.length_map] at z1; exact z1) fun h2' tk hd' hk2 => ?_
      · obtain ⟨e1, e2⟩ := hv
        rw [List.getElem?_toArray] at e1 e2
        have hi : i < ns.length := by
          have := (List.getElem?_eq_some_iff.mp e1).1
          omega
        obtain ⟨u, f1, f2⟩ := rv.get (i := i) (x := .int ns[i]) (by rw [List.getElem?_map, List.getElem?_eq_getElem hi]; rfl)
        rw [e1] at f1
        cases f1
        obtain ⟨t, rfl⟩ := f2
        refine ⟨.inl ns[i], ?_, keyIs_int _ t⟩
        have ez : (ns.zip its2)[i]? = some (ns[i], v) := List.getElem?_zip_eq_some.mpr ⟨List.getElem?_eq_getElem hi, e2⟩
        rw [List.getElem?_map, ez]
        rfl
      · have big : s1.heap.objs.size ≤ h'.objs.size := by rw [hsz]; exact Nat.le_add_right _ _
        have hm0 : (h'.objs.size == sysModules) = false := beq_eq_false_iff_ne.mpr (Nat.ne_of_gt I2.big)
        have rel := zip_rel rv rv2
        have hlen2 : (mergeK [] ((ns.zip ms).map fun q => ((.inl q.1 : Key), V.int q.2))).length ≤ sizeLine := by
          refine Nat.le_trans (length_mergeK _ []) ?_
          rw [List.length_nil, Nat.zero_add, List.length_map, List.length_zip]
          rw [List.length_map] at z1
          omega
        refine ⟨.ref h'.objs.size, upd H1 h'.objs.size (.dK (mergeK [] ((ns.zip ms).map fun q => ((.inl q.1 : Key), V.int q.2)))), I1.laid (t' := tk) (fun c o e => ?_) big (show ObjOk X.prog X.w _ _ _ (.dK _) from ⟨hlen2, hm0, merged [] _, KV.merge rel .nil, hd'⟩), rfl, q _ (I1.hok.fresh big)⟩
        have lc := Heap.lt_size e
        refine hk2 c o (fun m => ?_) (hk c o e)
        rcases List.mem_cons.mp m with rfl | m
        · exact Nat.lt_irrefl _ (Nat.lt_of_le_of_lt (Nat.le_add_right _ _) lc)
        rcases List.mem_cons.mp m with rfl | m
        · exact Nat.lt_irrefl _ (Nat.lt_of_le_of_lt (Nat.le_add_right _ _) lc)
        rcases List.mem_cons.mp m with rfl | m
        · exact Nat.lt_irrefl _ lc
        · rw [List.mem_singleton.mp m] at lc
          exact Nat.lt_irrefl _ (Nat.lt_of_le_of_lt (Nat.le_add_right _ _) lc)
end
end L2

/-! sorted of data: lists of tuples; the items of a dict. -/
namespace L2
open PySem PySem.Spec PyProof.Rows
theorem each_of_paired {α β : Type} {F : α → β → Prop} : ∀ {as : List α} {bs : List β}, Paired F as bs → PySem.W.EachIs F as bs
  | _, _, .nil => .nil
  | _, _, .cons h t => .cons h (each_of_paired t)
theorem paired_of_each {α β : Type} {F : α → β → Prop} : ∀ {as : List α} {bs : List β}, PySem.W.EachIs F as bs → Paired F as bs
  | _, _, .nil => .nil
  | _, _, .cons h t => .cons h (paired_of_each t)
theorem paired_back {β : Type} {F : V → β → Prop} : ∀ {us : List Value} {bs : List β}, Paired (fun u b => F (backV u) b) us bs → Paired F (us.map backV) bs
  | _, _, .nil => .nil
  | _, _, .cons h t => .cons h (paired_back t)
theorem paired_val {β : Type} {F : V → β → Prop} : ∀ {us : List Value} {bs : List β}, Paired F (us.map backV) bs → Paired (fun u b => F (backV u) b) us bs
  | [], _, h => by cases h; exact .nil
  | _ :: us, _, h => by
    cases h with
    | cons a t => exact .cons a (paired_val t)
theorem sortVals_perm {κ : PyProof.Rows.KeyKind} {b : Bool} {vs : List Value} : (PySem.W.sortVals κ b vs vs).Perm vs := by
  unfold PySem.W.sortVals
  have h := (List.mergeSort_perm (vs.zip vs) (PySem.W.sortLe κ.toKeyOrd b fun p : Keyed => PySem.W.keyD κ p.1)).map Prod.snd
  rw [List.map_snd_zip (Nat.le_refl _)] at h
  exact h
section
variable {X : Cx}
theorem paired_reads {pins : List (Addr × Obj)} {σ : L2.St} {H : Hp} {s : Shared} {β : Type} {enc : β → PyData} (I : Inv X pins σ H s) : ∀ {us : List Value} {bs : List β}, Paired (fun u b => Dp X.K H (backV u) (enc b)) us bs → (∀ u ∈ us, ∃ a, u = Value.ref a) → Paired (fun v b => ∃ as, Reads s.heap v (enc b) as) us bs
  | _, _, .nil, _ => .nil
  | u :: us, b :: bs, .cons h t, e2 => by
    refine .cons ?_ (paired_reads I t fun u m => e2 u (List.mem_cons_of_mem _ m))
    obtain ⟨c, rfl⟩ := e2 u List.mem_cons_self
    exact Dp.reads I (enc b) (.ref c) (.ref c) h rfl
/-- sorted(xs), xs a list of tuples that compare; R is what is known of them -/
def rSortedT2 (K : PySem.W.Frag) : List V → Hp → VK → Prop := fun vs H Q => ∃ (a : Addr) (xs : List V) (β : Type) (bs : List β) (enc : β → PyData) (R : V → β → Prop), vs = [V.ref a] ∧ SqL K H a xs ∧ (∀ x ∈ xs, ∃ t, x = V.ref t) ∧
  Paired R xs bs ∧ Paired (fun x b => Dp K H x (enc b)) xs bs ∧ (∀ b b', PySem.W.alike (enc b) (enc b') = true) ∧ (∀ b, ∃ x r, enc b = .tuple (x :: r)) ∧ (∀ b, b ∈ bs → (enc b).depth ≤ 60) ∧
  ∀ ys p, ys.Perm xs → Paired R ys (bs.mergeSort (PySem.W.dataLe false enc)) → H p = none → Q (.ref p) (upd H p (.lst ys))
theorem cr_sortedT2 (hu : X.A.units + 64 < cLine) : CallR X (.builtin "sorted") (rSortedT2 X.K) := by
  intro pins s σ H vs us Q I r h
  obtain ⟨a, xs, β, bs, enc, R, rfl, hs, hx, hR, hD, al, tp, dp, q⟩ := h
  obtain ⟨its, rv, hl, hz⟩ := I.list hs
  obtain ⟨u, rfl, ru⟩ := vals1 r
  obtain rfl : u = Value.ref a := ru
  obtain ⟨e1, e2⟩ := refs_back rv hx
  have er : PySem.W.EachIs (fun v b => ∃ as, Reads s.heap v (enc b) as) its bs := by
    refine each_of_paired ?_
    rw [e1] at hD
    exact paired_reads I (paired_val hD) e2
  have eR : PySem.W.EachIs (fun v b => R (backV v) b) its bs := by
    rw [e1] at hR
    exact each_of_paired (paired_val hR)
  have er' : PySem.W.EachIs (fun v b => ∃ as, Reads (PySem.W.sortingHeap (PySem.W.copyHeap s.heap its) (s.heap.objs.size + 1) its) v (enc b) as) its bs := er.mono fun _ _ ⟨as, r⟩ => ⟨as, PyProof.Rows.Reads.keeps (fun _ _ => PySem.W.sorting_copy_old) r⟩
  have hal := PySem.W.AllAlike.of (bs := bs) al
  have dm : ∀ d, d ∈ bs.map enc → d.depth ≤ 60 := fun d m => by
    obtain ⟨b, mb, rfl⟩ := List.mem_map.mp m
    exact dp b mb
  refine PySem.W.sorted_vals hl.isList (PySem.W.SortsAt.data (s := { s with heap := PySem.W.sortingHeap (PySem.W.copyHeap s.heap its) (s.heap.objs.size + 1) its }) (PySem.W.each_map (R := fun v d => ∃ as, Reads (PySem.W.sortingHeap (PySem.W.copyHeap s.heap its) (s.heap.objs.size + 1) its) v d as) enc er') hal (PySem.W.Sortable.tuples tp) (fun d m => ?_)) (by rw [← rv.length]; exact hz) ?_
  · have := dm d m
    show X.A.units + 1 + 1 + d.depth < cLine
    omega
  · have hp : (PySem.W.sortVals (PySem.W.dataKind (PySem.W.sortingHeap (PySem.W.copyHeap s.heap its) (s.heap.objs.size + 1) its) (bs.map enc)) false its its).Perm its := sortVals_perm
    have hb := paired_back (paired_of_each (PySem.W.sortVals_data (h' := PySem.W.sortingHeap (PySem.W.copyHeap s.heap its) (s.heap.objs.size + 1) its) false eR er' hal))
    generalize PySem.W.sortVals (PySem.W.dataKind (PySem.W.sortingHeap (PySem.W.copyHeap s.heap its) (s.heap.objs.size + 1) its) (bs.map enc)) false its its = out at hp hb ⊢
    have h3 : ∀ u ∈ out, ∃ a, u = Value.ref a := fun u hu => e2 u (hp.mem_iff.mp hu)
    obtain ⟨n, hn⟩ := sortedAll_at s.heap its out.toArray
    refine ⟨.ref (s.heap.objs.size + 1), upd H (s.heap.objs.size + 1) (.lst (out.map backV)), I.laid (t' := s.toks) (fun b o e => sortedAll_old e) (Nat.le_succ _) ⟨?_, out, n, vals_back h3, hn⟩, rfl, q _ _ ?_ hb (I.hok.fresh (Nat.le_succ _))⟩
    · rw [List.length_map, hp.length_eq, ← rv.length]; exact hz
    · rw [e1]; exact hp.map backV
end
end L2

/-! sorted(d.items()), a dict of ints. -/
namespace L2
open PySem PySem.Spec PyProof.Rows L2.DX
abbrev pairI (q : Int × Int) : PyData := .tuple [.int q.1, .int q.2]
def ipK (hp : List (Int × Int)) : List (Key × V) := hp.map fun q => (.inl q.1, .int q.2)
theorem refs_pair {β : Type} {R : Value → β → Prop} (h : ∀ u b, R u b → ∃ t, u = Value.ref t) : ∀ {out : List Value} {bs : List β}, Paired R out bs → ∃ ts : List Addr, out = ts.map Value.ref ∧ Paired (fun t b => R (.ref t) b) ts bs
  | _, _, .nil => ⟨[], rfl, .nil⟩
  | _, _, .cons r t => by
    obtain ⟨ts, e, p⟩ := refs_pair h t
    obtain ⟨a, rfl⟩ := h _ _ r
    exact ⟨a :: ts, by rw [e]; rfl, .cons r p⟩
theorem paired_left {α β : Type} {F : α → β → Prop} : ∀ {xs : List α} {ys : List β} {a : α}, Paired F xs ys → a ∈ xs → ∃ b, F a b
  | _, _, _, .nil, m => absurd m List.not_mem_nil
  | _, _, _, .cons r t, m => by
    rcases List.mem_cons.mp m with rfl | m
    · exact ⟨_, r⟩
    · exact paired_left t m
theorem paired_mp {α β : Type} {F G : α → β → Prop} : ∀ {xs : List α} {ys : List β}, (∀ a b, F a b → G a b) → Paired F xs ys → Paired G xs ys
  | _, _, _, .nil => .nil
  | _, _, h, .cons r t => .cons (h _ _ r) (paired_mp h t)
section
variable {X : Cx}
def rItemsK : V → List V → Hp → VK → Prop := fun x xs H Q => ∃ (a : Addr) (kvs : List (Key × V)), x = .ref a ∧ xs = [] ∧ H a = some (.dK kvs) ∧ ∀ p, H p = none → Q (.ref p) (upd H p (itemsO p a))
theorem mt_itemsK : MtR X "dict.items" rItemsK := by
  intro pins s σ H x xs v us Q I rx rxs h
  obtain ⟨a, kvs, rfl, rfl, ha, q⟩ := h
  cases rx
  cases rxs
  obtain ⟨_, hs, vs, r, o, es, ep, h1, h2, h3, _, h5, _⟩ := (show ObjOk X.prog X.w H s.heap a (.dK kvs) from I.hok a _ ha)
  refine DT.callItems (es := es) (ep := ep) hs ⟨o, h1, h2, h3⟩ ?_
  exact ⟨.ref s.heap.objs.size, upd H s.heap.objs.size (itemsO s.heap.objs.size a), I.laid (t' := s.toks) (fun b u e => Heap.get?_push_of_some _ e) (Nat.le_refl _) (itemsO_ok (Heap.get?_push_size _ rfl)), rfl, q _ (I.hok.fresh (Nat.le_refl _))⟩
def rSortedItI : List V → Hp → VK → Prop := fun vs H Q => ∃ (p a : Addr) (hp : List (Int × Int)), vs = [.ref p] ∧ H p = some (itemsO p a) ∧ H a = some (.dK (ipK hp)) ∧
  ∀ (H' : Hp) (l : Addr) (ts : List Addr), (∀ b o, H b = some o → H' b = some o) → H l = none → H' l = some (.lst (ts.map V.ref)) → Paired (fun (t : Addr) (q : Int × Int) => H' t = some (.tup [.int q.1, .int q.2])) ts (hp.mergeSort (PySem.W.dataLe false pairI)) → (∀ t ∈ ts, H t = none) → Q (.ref l) H'
theorem cr_sortedItI (hc : X.calm = true) (hu : X.A.units + 64 < cLine) : CallR X (.builtin "sorted") rSortedItI := by
  intro pins s σ H xs us Q I r h
  obtain ⟨p, a, hp, rfl, hpp, ha, q⟩ := h
  obtain rfl := Vals.ref1 r
  have view : s.heap.IsItemsView p a := (show ObjOk X.prog X.w H s.heap p (itemsO p a) from I.hok p _ hpp).1
  obtain ⟨hz, hs, vs, r, o, es, ep, h1, h2, h3, _, h5, _⟩ := (show ObjOk X.prog X.w H s.heap a (.dK (ipK hp)) from I.hok a _ ha)
  obtain ⟨vk, vv⟩ := Hx.pairs_keys r h5
  have lk : hp.length = es.toList.length := by
    have := vk.length
    rw [List.length_map, List.length_map] at this
    unfold ipK at this
    rw [List.length_map] at this
    exact this
  have zh : hp.length ≤ sizeLine := by
    unfold ipK at hz
    rw [List.length_map] at hz
    exact hz
  have hh : X.A.handled = none := I.ok.hd hc
  refine DT.sortedI (es := es) (ep := ep) hh view ⟨o, h1, h2, h3⟩ (by rw [← Array.length_toList, ← lk]; exact zh) fun h' tk as hk hlt hl hG => ?_
  rw [← Array.length_toList, ← lk] at hl
  have nd : as.Nodup := List.Pairwise.imp (fun h => Nat.ne_of_lt h) hG.rise
  have pr : ∀ (j : Nat) (b : Addr), as[j]? = some b → ∃ (q : Int × Int) (t u : Tok), hp[j]? = some q ∧ h'.get? b = some { cls := .type "tuple", data := .seq #[.int q.1 t, .int q.2 u] } := by
    intro j b hj
    obtain ⟨en, he, hg⟩ := hG.pairs j b hj
    have hjl : j < hp.length := by
      have := (List.getElem?_eq_some_iff.mp hj).1
      omega
    rw [← Array.getElem?_toList] at he
    obtain ⟨k1, f1, r1⟩ := vk.get (i := j) (x := .int hp[j].1) (by unfold ipK; rw [List.getElem?_map, List.getElem?_map, List.getElem?_eq_getElem hjl]; rfl)
    obtain ⟨k2, f2, r2⟩ := vv.get (i := j) (x := .int hp[j].2) (by unfold ipK; rw [List.getElem?_map, List.getElem?_map, List.getElem?_eq_getElem hjl]; rfl)
    rw [List.getElem?_map, he] at f1 f2
    cases f1
    cases f2
    obtain ⟨t, e1⟩ := r1
    obtain ⟨u, e2⟩ := r2
    have e1 : en.key = Value.int hp[j].1 t := e1
    have e2 : en.val = Value.int hp[j].2 u := e2
    rw [e1, e2] at hg
    exact ⟨hp[j], t, u, List.getElem?_eq_getElem hjl, hg⟩
  have hob : (h'.push { cls := .type "list", data := .seq (as.map Value.ref).toArray }).get? h'.objs.size = some (seqObj "list" (as.map Value.ref).toArray 0) := Heap.get?_push_size _ rfl
  have ka : ∀ b o, h'.get? b = some o → (h'.push { cls := .type "list", data := .seq (as.map Value.ref).toArray }).get? b = some o := fun b o e => Heap.get?_push_of_some _ e
  have ne0 : ∀ b o, h'.get? b = some o → b ≠ h'.objs.size := fun b o e => Nat.ne_of_lt (Heap.lt_size e)
  generalize hh2 : h'.push { cls := .type "list", data := .seq (as.map Value.ref).toArray } = h2 at hob ka ⊢
  let R : Value → Int × Int → Prop := fun v q => ∃ b t u, v = .ref b ∧ b ∈ as ∧ h'.get? b = some { cls := .type "tuple", data := .seq #[.int q.1 t, .int q.2 u] }
  have e0 : Paired R (as.map Value.ref) hp := by
    clear hG hob hh2 ka
    have pr2 : ∀ (L : List Addr) (hq : List (Int × Int)), L.length = hq.length → (∀ b ∈ L, b ∈ as) → (∀ (j : Nat) (b : Addr), L[j]? = some b → ∃ (q : Int × Int) (t u : Tok), hq[j]? = some q ∧ h'.get? b = some { cls := .type "tuple", data := .seq #[.int q.1 t, .int q.2 u] }) → Paired R (L.map Value.ref) hq := by
      intro L
      induction L with
      | nil =>
        intro hq e _ _
        cases hq with
        | nil => exact .nil
        | cons _ _ => cases e
      | cons b L ih =>
        intro hq e m g
        cases hq with
        | nil => cases e
        | cons q hq =>
          obtain ⟨q', t, u, e1, e2⟩ := g 0 b rfl
          cases e1
          exact .cons ⟨b, t, u, rfl, m b List.mem_cons_self, e2⟩ (ih hq (Nat.succ.inj e) (fun c mc => m c (List.mem_cons_of_mem _ mc)) fun j c hc => g (j + 1) c hc)
    exact pr2 as hp hl (fun _ m => m) pr
  have er : PySem.W.EachIs (fun v b => ∃ as, Reads h2 v (pairI b) as ∧ h'.objs.size ∉ as) (as.map Value.ref) hp := by
    refine each_of_paired (paired_mp (fun v q hR => ?_) e0)
    obtain ⟨b, t, u, rfl, _, g⟩ := hR
    exact ⟨_, Reads.tuple (ka _ _ g) rfl rfl (.cons (.int _ _) (.cons (.int _ _) .nil)), by simp⟩
  have hal := PySem.W.AllAlike.of (enc := pairI) (bs := hp) fun b b' => by simp [pairI, PySem.W.alike, PySem.W.alikeAll]
  refine PySem.W.list_sort_data (s := { s with heap := h2, toks := tk }) (enc := pairI) hob (each_of_paired e0) er hal (PySem.W.Sortable.tuples fun b => ⟨_, _, rfl⟩) zh (fun b _ => ?_) fun out ho eo => ?_
  · have e : (pairI b).depth = 1 := by simp [pairI, PyData.depth, PyData.depthAll]
    rw [e]
    show X.A.units + 1 + 1 + 1 < cLine
    omega
  · show EP X pins σ Q (.ref h'.objs.size) { s with heap := sortedHeap h2 h'.objs.size (as.map Value.ref) (List.toArray out), toks := tk }
    obtain ⟨ts, rfl, pt⟩ := refs_pair (fun u b h => let ⟨t, _, _, e, _⟩ := h; ⟨t, e⟩) (paired_of_each eo)
    have kF : ∀ b o, b ≠ h'.objs.size → h2.get? b = some o → (sortedHeap h2 h'.objs.size (as.map Value.ref) (List.toArray (ts.map Value.ref))).get? b = some o := fun b o hb e => (PyProof.Rows.sortedHeap_old hb (Heap.lt_size e)).trans e
    have kS : ∀ b o, s.heap.get? b = some o → (sortedHeap h2 h'.objs.size (as.map Value.ref) (List.toArray (ts.map Value.ref))).get? b = some o := fun b o e => kF b o (ne0 _ _ (hk b o e)) (ka _ _ (hk b o e))
    obtain ⟨eF, heF⟩ := PyProof.Rows.sortedHeap_at (vs := as.map Value.ref) (out := List.toArray (ts.map Value.ref)) hob
    have I1 : Inv X pins σ H { s with heap := sortedHeap h2 h'.objs.size (as.map Value.ref) (List.toArray (ts.map Value.ref)), toks := tk } := I.kept (t' := tk) kS
    have hn0 : H h'.objs.size = none := I.hok.fresh (Nat.le_of_lt hlt)
    have lt : ts.length = hp.length := by
      have := ho
      rw [List.length_map] at this
      exact this
    have I2 : Inv X pins σ (upd H h'.objs.size (.lst (ts.map V.ref))) { s with heap := sortedHeap h2 h'.objs.size (as.map Value.ref) (List.toArray (ts.map Value.ref)), toks := tk } :=
      I1.take (h' := sortedHeap h2 h'.objs.size (as.map Value.ref) (List.toArray (ts.map Value.ref))) (t' := tk) (fun b ob _ e => e) (I.fpOk (Nat.le_of_lt hlt) hn0) ⟨by rw [List.length_map, lt]; exact zh, ts.map Value.ref, eF, LiI.vals_refs ts, heF⟩
    have above : ∀ b ∈ as, s.heap.objs.size ≤ b ∧ H b = none := fun b hb => ⟨Nat.le_of_lt (hG.above b hb), I.hok.fresh (Nat.le_of_lt (hG.above b hb))⟩
    obtain ⟨H2, I3, g, qt⟩ := takeT (P := fun b vs => ∀ q : Int × Int, (∃ t u, h'.get? b = some { cls := .type "tuple", data := .seq #[.int q.1 t, .int q.2 u] }) → vs = [.int q.1, .int q.2]) I as _ I2 nd fun b hb => by
      obtain ⟨j, hj⟩ := List.mem_iff_getElem?.mp hb
      obtain ⟨q, t, u, hq, hg⟩ := pr j b hj
      refine ⟨(above b hb).1, ?_, [.int q.1, .int q.2], fun q2 ⟨t2, u2, g2⟩ => ?_, fun H2 => ⟨by show 2 ≤ sizeLine; decide, [.int q.1 t, .int q.2 u], .cons ⟨t, rfl⟩ (.cons ⟨u, rfl⟩ .nil), ⟨_, kF b _ (ne0 _ _ hg) (ka _ _ hg), rfl, _, rfl⟩⟩⟩
      · rw [upd_ne (ne0 _ _ hg)]
        exact (above b hb).2
      · rw [hg] at g2
        have g3 := Option.some.inj g2
        have g4 : PySem.Data.seq #[.int q.1 t, .int q.2 u] 0 = PySem.Data.seq #[.int q2.1 t2, .int q2.2 u2] 0 := congrArg Obj.data g3
        injection g4 with g5
        have g6 : [Value.int q.1 t, Value.int q.2 u] = [Value.int q2.1 t2, Value.int q2.2 u2] := congrArg Array.toList g5
        injection g6 with g7 g8
        injection g8 with g9
        injection g7 with g7
        injection g9 with g9
        rw [g7, g9]
    refine ⟨.ref h'.objs.size, H2, I3, rfl, q H2 _ ts (fun b o e => g b o (by rw [upd_ne (ne_of_none e hn0)]; exact e)) hn0 (g _ _ upd_same) (paired_mp (fun t b hR => ?_) pt) fun t ht => ?_⟩
    · obtain ⟨b', t', u', e, m, hg⟩ := hR
      cases e
      obtain ⟨vs, hv, hq⟩ := qt t m
      rw [hq, hv b ⟨t', u', hg⟩]
    · have hp2 := Paired.mapP pt fun a b h => h
      have : t ∈ as := by
        obtain ⟨b, hR⟩ := paired_left pt ht
        obtain ⟨_, _, _, e, m, _⟩ := hR
        cases e
        exact m
      exact (above t this).2
end
end L2

/-! dict(zip(xs, range(n))), xs a list of n ints. -/
namespace L2.Zr
open PySem PySem.Spec PyProof.Rows L2.Zx
section
variable {prog : Program} {w : World} {A : Around} {E : Value → Shared → Prop} {s : Shared}
theorem next_rng {it : Addr} {x left : Int} {Q : Value → Shared → Prop} (hit : IsRangeIter s.heap it x left 1) (hleft : 0 < left)
    (hQ : ∀ h', IsRangeIter h' it (x + 1) (left - 1) 1 → Heap.SameBut it s.heap h' → Q (.int x s.toks) { s with heap := h', toks := s.toks + 1 }) :
    wpAny (model prog w) A (Builtin.SmallTypes.nextOf (.ref it)) Q E s := by
  have hT : s.TypeIs (.ref it) "range_iterator" := ⟨_, hit, rfl⟩
  unfold Builtin.SmallTypes.nextOf
  refine wpAny_bind (wpAny_callSpecial?_slot (name := Str.ofString "__next__") hT F.slot_range_iterator_next
    (call_meets F.slot_range_iterator_next hT F.entry_range_iterator_next (F.args_range_iterator_next_1 _) (AutoRange.range_iterator___next___range_iterator_1 it x left 1 (by omega)) ⟨hit, ?_⟩))
  exact wpAny_pure (hQ _ (Heap.get?_update_self _ (Heap.get?_update_self _ hit rfl) rfl) ((Heap.SameBut.update ..).trans (Heap.SameBut.update ..)))
theorem item_out {z TI TO i1 i2 l1 a : Addr} {f : Bool} {oa : Obj} {k : Nat} {lo left : Int} {xs : Array Value} {x : Value} {Q : Option Value → Shared → Prop} (D : ZipApart z TI TO i1 i2 l1 l1)
    (hz : ZipF s.heap z TI TO a f) (ha : s.heap.get? a = some oa) (hTI : IsPair s.heap TI (.ref i1) (.ref i2))
    (h1 : s.heap.IsListIter i1 l1 k) (h2 : IsRangeIter s.heap i2 lo left 1) (hl1 : s.heap.IsList l1 xs) (hx : xs[k]? = some x) (hy : 0 < left)
    (hQ : ∀ h', ZipF h' z TI TO a true → h'.IsListIter i1 l1 (k + 1) → IsRangeIter h' i2 (lo + 1) (left - 1) 1 → IsPair h' s.heap.objs.size x (.int lo s.toks) →
      (∀ c o, c ≠ z → c ≠ i1 → c ≠ i2 → s.heap.get? c = some o → h'.get? c = some o) → Q (some (.ref s.heap.objs.size)) { s with heap := h', toks := s.toks + 1 }) :
    wpAny (model prog w) A (pyNext (.ref z)) Q E s := by
  have hT : s.TypeIs (.ref z) "zip" := ⟨_, hz, rfl⟩
  unfold pyNext
  refine wpAny_bind (wpAny_attempt (wpAny_callSpecial?_slot (name := Str.ofString "__next__") hT F.slot_zip_next
    (wpAny_call_entry F.slot_zip_next hT F.entry_zip_next ?_ (F.args_zip_next_1 _))))
  show wpAny _ _ (field (.ref z) 2 >>= _) _ _ _
  refine wpAny_bind (wpAny_field hz rfl (x := .bool false) rfl ?_)
  show wpAny _ _ (field (.ref z) 3 >>= _) _ _ _
  refine wpAny_bind (wpAny_field hz rfl (x := .ref TI) rfl ?_)
  refine wpAny_bind (wpAny_seqItems hTI rfl ?_)
  show wpAny _ _ (Builtin.SmallTypes.ownedTupleIsFree (.ref z) >>= _) _ _ _
  refine wpAny_bind (owned_out hz ha fun h₃ hz₃ hs₃ => ?_)
  simp only [Bool.false_eq_true, if_false]
  rw [← Array.forIn_toList]
  simp only [List.forIn_cons, List.forIn_nil]
  refine wpAny_bind ?_
  refine wpAny_bind ?_
  refine wpAny_bind (wpAny_holding ?_)
  show wpAny _ _ (Builtin.SmallTypes.nextOf (.ref i1) >>= _) _ _ _
  refine wpAny_bind (wpAny_nextOf_list_item (h1.extBut hs₃.extBut D.i1z) (hl1.extBut hs₃.extBut D.l1z) hx fun h₄ h1₄ hs₄ => wpAny_pure ?_)
  refine wpAny_pure ?_
  dsimp only
  refine wpAny_bind ?_
  refine wpAny_bind (wpAny_holding ?_)
  show wpAny _ _ (Builtin.SmallTypes.nextOf (.ref i2) >>= _) _ _ _
  have h2₄ : IsRangeIter h₄ i2 lo left 1 := hs₄.extBut _ _ D.i12.symm (hs₃.extBut _ _ D.i2z h2)
  refine wpAny_bind (next_rng (s := { s with heap := h₄ }) h2₄ hy fun h₅ h2₅ hs₅ => wpAny_pure ?_)
  refine wpAny_pure ?_
  dsimp only
  refine wpAny_pure ?_
  dsimp only
  refine wpAny_bind (wpAny_newTuple (hsz := by show 2 ≤ sizeLine; decide) ?_)
  have up : ∀ c o, c ≠ z → c ≠ i1 → c ≠ i2 → s.heap.get? c = some o → h₅.get? c = some o := fun c o c1 c2 c3 e => hs₅.extBut _ _ c3 (hs₄.extBut _ _ c2 (hs₃.extBut _ _ c1 e))
  have hsz : h₅.objs.size = s.heap.objs.size := by rw [hs₅.1, hs₄.1, hs₃.1]
  refine wpAny_pure ⟨_, rfl, wpAny_pure ?_⟩
  show Q (some (.ref h₅.objs.size)) _
  have hz₅ : ZipF h₅ z TI TO a true := hs₅.extBut _ _ D.i2z.symm (hs₄.extBut _ _ D.i1z.symm hz₃)
  have h1₅ : h₅.IsListIter i1 l1 (k + 1) := h1₄.extBut hs₅.extBut D.i12
  have hT₆ : IsPair (h₅.push { cls := .type "tuple", data := .seq #[x, .int lo s.toks] }) h₅.objs.size x (.int lo s.toks) := Heap.get?_push_size _ rfl
  rw [hsz] at hT₆ ⊢
  exact hQ _ (Heap.get?_push_of_some _ hz₅) (h1₅.at fun o e => Heap.get?_push_of_some _ e) (Heap.get?_push_of_some _ h2₅) hT₆ fun c o c1 c2 c3 e => Heap.get?_push_of_some _ (up c o c1 c2 c3 e)
theorem item_new {z TI TO i1 i2 l1 : Addr} {k : Nat} {lo left : Int} {xs : Array Value} {x a b : Value} {Q : Option Value → Shared → Prop} (D : ZipApart z TI TO i1 i2 l1 l1)
    (hz : IsZip s.heap z TI TO .none) (hTI : IsPair s.heap TI (.ref i1) (.ref i2)) (hTO : IsPair s.heap TO a b)
    (h1 : s.heap.IsListIter i1 l1 k) (h2 : IsRangeIter s.heap i2 lo left 1) (hl1 : s.heap.IsList l1 xs) (hx : xs[k]? = some x) (hy : 0 < left)
    (hQ : ∀ h', ZipF h' z TI TO s.heap.objs.size false → h'.IsListIter i1 l1 (k + 1) → IsRangeIter h' i2 (lo + 1) (left - 1) 1 → IsPair h' s.heap.objs.size x (.int lo s.toks) →
      (∀ c o, c ≠ z → c ≠ TO → c ≠ i1 → c ≠ i2 → s.heap.get? c = some o → h'.get? c = some o) → Q (some (.ref s.heap.objs.size)) { s with heap := h', toks := s.toks + 1 }) :
    wpAny (model prog w) A (pyNext (.ref z)) Q E s := by
  have hT : s.TypeIs (.ref z) "zip" := ⟨_, hz, rfl⟩
  unfold pyNext
  refine wpAny_bind (wpAny_attempt (wpAny_callSpecial?_slot (name := Str.ofString "__next__") hT F.slot_zip_next
    (wpAny_call_entry F.slot_zip_next hT F.entry_zip_next ?_ (F.args_zip_next_1 _))))
  show wpAny _ _ (field (.ref z) 2 >>= _) _ _ _
  refine wpAny_bind (wpAny_field hz rfl (x := .bool false) rfl ?_)
  show wpAny _ _ (field (.ref z) 3 >>= _) _ _ _
  refine wpAny_bind (wpAny_field hz rfl (x := .ref TI) rfl ?_)
  refine wpAny_bind (wpAny_seqItems hTI rfl ?_)
  show wpAny _ _ (Builtin.SmallTypes.ownedTupleIsFree (.ref z) >>= _) _ _ _
  refine wpAny_bind ?_
  unfold Builtin.SmallTypes.ownedTupleIsFree
  refine wpAny_bind (wpAny_field hz rfl (x := .none) rfl (wpAny_pure ?_))
  simp only [if_true]
  refine wpAny_bind (wpAny_rule ?_)
  refine wpAny_bind (wpAny_field hz rfl (x := .ref TO) rfl ?_)
  refine wpAny_bind (wpAny_setField_rec hz (by simp) fun g₁ hz₁ hs₁ => ?_)
  replace hz₁ : IsZip g₁ z TI TO .ellipsis := hz₁
  refine wpAny_bind ?_
  simp only [List.zipIdx_cons, List.zipIdx_nil, List.forIn_cons, List.forIn_nil]
  refine wpAny_bind (wpAny_bind (wpAny_onRaise ?_))
  show wpAny _ _ (Builtin.SmallTypes.nextOf (.ref i1) >>= _) _ _ _
  refine wpAny_bind (wpAny_nextOf_list_item (h1.extBut hs₁.extBut D.i1z) (hl1.extBut hs₁.extBut D.l1z) hx fun g₂ h1₂ hs₂ => wpAny_pure ?_)
  have hTO₂ : IsPair g₂ TO a b := hs₂.extBut _ _ D.TOi1 (hs₁.extBut _ _ D.TOz hTO)
  refine wpAny_bind (wpAny_seqItems hTO₂ rfl ?_)
  refine wpAny_bind (wpAny_updateSeq_pair hTO₂ fun g₃ hTO₃ hs₃ => ?_)
  replace hTO₃ : IsPair g₃ TO x b := hTO₃
  refine wpAny_bind (wpAny_letGo (wpAny_pure ?_))
  refine wpAny_bind (wpAny_bind (wpAny_onRaise ?_))
  show wpAny _ _ (Builtin.SmallTypes.nextOf (.ref i2) >>= _) _ _ _
  have h2₃ : IsRangeIter g₃ i2 lo left 1 := hs₃.extBut _ _ D.TOi2.symm (hs₂.extBut _ _ D.i12.symm (hs₁.extBut _ _ D.i2z h2))
  refine wpAny_bind (next_rng (s := { s with heap := g₃ }) h2₃ hy fun g₄ h2₄ hs₄ => wpAny_pure ?_)
  have hTO₄ : IsPair g₄ TO x b := hs₄.extBut _ _ D.TOi2 hTO₃
  refine wpAny_bind (wpAny_seqItems hTO₄ rfl ?_)
  refine wpAny_bind (wpAny_updateSeq_pair (s := { s with heap := g₄, toks := s.toks + 1 }) hTO₄ fun g₅ hTO₅ hs₅ => ?_)
  replace hTO₅ : IsPair g₅ TO x (.int lo s.toks) := hTO₅
  refine wpAny_bind (wpAny_letGo (wpAny_pure (wpAny_pure ?_)))
  refine wpAny_bind (wpAny_seqItems hTO₅ rfl ?_)
  refine wpAny_bind (wpAny_newTuple ?_)
  have hsz : g₅.objs.size = s.heap.objs.size := by rw [hs₅.1, hs₄.1, hs₃.1, hs₂.1, hs₁.1]
  have hz₅ : IsZip g₅ z TI TO .ellipsis := hs₅.extBut _ _ D.TOz.symm (hs₄.extBut _ _ D.i2z.symm (hs₃.extBut _ _ D.TOz.symm (hs₂.extBut _ _ D.i1z.symm hz₁)))
  have up : ∀ c o, c ≠ z → c ≠ TO → c ≠ i1 → c ≠ i2 → s.heap.get? c = some o → g₅.get? c = some o := fun c o c1 c2 c3 c4 e => hs₅.extBut _ _ c2 (hs₄.extBut _ _ c4 (hs₃.extBut _ _ c2 (hs₂.extBut _ _ c3 (hs₁.extBut _ _ c1 e))))
  have h1₅ : g₅.IsListIter i1 l1 (k + 1) := ((h1₂.extBut hs₃.extBut D.TOi1.symm).extBut hs₄.extBut D.i12).extBut hs₅.extBut D.TOi1.symm
  have h2₅ : IsRangeIter g₅ i2 (lo + 1) (left - 1) 1 := hs₅.extBut _ _ D.TOi2.symm h2₄
  have zlt : z < g₅.objs.size := Heap.lt_size hz₅
  show wpAny _ _ (Builtin.SmallTypes.ownedTupleHandOut (.ref z) (.ref g₅.objs.size) >>= _) _ _ _
  refine wpAny_bind ?_
  unfold Builtin.SmallTypes.ownedTupleHandOut
  have hz₆ : IsZip (g₅.push { cls := .type "tuple", data := .seq #[x, .int lo s.toks] }) z TI TO .ellipsis := Heap.get?_push_of_some _ hz₅
  refine wpAny_bind (wpAny_setField_rec hz₆ (by simp) fun g₇ hz₇ hs₇ => ?_)
  replace hz₇ : IsZip g₇ z TI TO (rawInt g₅.objs.size) := hz₇
  refine wpAny_setField_rec hz₇ (by simp) fun g₈ hz₈ hs₈ => ?_
  replace hz₈ : ZipF g₈ z TI TO g₅.objs.size false := hz₈
  have up2 : ∀ c o, c ≠ z → g₅.get? c = some o → g₈.get? c = some o := fun c o c1 e => hs₈.extBut _ _ c1 (hs₇.extBut _ _ c1 (Heap.get?_push_of_some _ e))
  have hT₈ : IsPair g₈ g₅.objs.size x (.int lo s.toks) := hs₈.extBut _ _ (Nat.ne_of_gt zlt) (hs₇.extBut _ _ (Nat.ne_of_gt zlt) (Heap.get?_push_size _ rfl))
  rw [hsz] at hz₈ hT₈
  refine wpAny_pure ⟨_, rfl, wpAny_pure ?_⟩
  show Q (some (.ref g₅.objs.size)) _
  rw [hsz]
  exact hQ g₈ hz₈ (h1₅.at fun o e => up2 _ o D.i1z e) (up2 _ _ D.i2z h2₅) hT₈ fun c o c1 c2 c3 c4 e => up2 c o c1 (up c o c1 c2 c3 c4 e)
end
section
variable {prog : Program} {w : World}
theorem arg (z TI TO i1 i2 l1 : Addr) (D : ZipApart z TI TO i1 i2 l1 l1) (xs : Array Value) (n : Nat) (hn : xs.size = n) (h0 : 0 < n) :
    PairArg prog w "zip" z [z, TI, TO, i1, i2, l1] [z, TO, i1, i2] n (fun i k v => xs[i]? = some k ∧ ∃ t, v = .int (i : Int) t)
      (fun h => IsZip h z TI TO .none ∧ IsPair h TI (.ref i1) (.ref i2) ∧ (∃ a b, IsPair h TO a b) ∧ h.IsListIter i1 l1 0 ∧ IsRangeIter h i2 0 n 1 ∧ h.IsList l1 xs) where
  type := fun s ok => ⟨_, ok.1, rfl⟩
  notDict := by decide
  keep := fun h h' ok hk => by
    obtain ⟨hz, hTI, ⟨a, b, hTO⟩, h1, h2, hl1⟩ := ok
    exact ⟨hk _ _ hz, hk _ _ hTI, ⟨a, b, hk _ _ hTO⟩, h1.at fun o e => hk _ o e, hk _ _ h2, hl1.at fun o e => hk _ o e⟩
  there := fun h ok b hb => by
    obtain ⟨hz, hTI, ⟨a, c, hTO⟩, ⟨o1, h1, _⟩, h2, ⟨o3, hl1, _⟩⟩ := ok
    simp only [List.mem_cons, List.not_mem_nil, or_false] at hb
    rcases hb with rfl | rfl | rfl | rfl | rfl | rfl
    all_goals first | exact ⟨_, hz⟩ | exact ⟨_, hTI⟩ | exact ⟨_, hTO⟩ | exact ⟨_, h1⟩ | exact ⟨_, h2⟩ | exact ⟨_, hl1⟩
  sub := fun b hb => by simp at hb ⊢; rcases hb with rfl | rfl | rfl | rfl <;> simp
  noKeys := fun A s Q E hA ok h => getAttrOr_miss_zip ok.1 rfl rfl rfl zip_no_keys (by decide +kernel) hA h
  iter := fun A s d Q E hA ok hd hdf h => by
    obtain ⟨hz, hTI, ⟨a, b, hTO⟩, h1, h2, hl1⟩ := ok
    simp only [List.mem_cons, List.not_mem_nil, or_false, not_or] at hdf
    obtain ⟨dz, dTI, dTO, di1, di2, dl1⟩ := hdf
    refine wpAny_pyIter_zip hz (h z [z, TO, i1, i2] (fun i h => IsPair h TI (.ref i1) (.ref i2) ∧ h.IsListIter i1 l1 i ∧ IsRangeIter h i2 i ((n : Int) - i) 1 ∧ h.IsList l1 xs ∧
      ((i = 0 ∧ IsZip h z TI TO .none ∧ ∃ a b, IsPair h TO a b) ∨ (0 < i ∧ ∃ T f oT, ZipF h z TI TO T f ∧ h.get? T = some oT ∧ T ≠ z ∧ T ≠ i1 ∧ T ≠ i2 ∧ T ≠ d))) s.heap s.toks ?_
      ⟨hTI, h1, by simpa using h2, hl1, .inl ⟨rfl, hz, a, b, hTO⟩⟩ (fun _ _ e => e) fun b hb => .inl hb)
    exact {
      off := fun hm => by
        simp only [List.mem_cons, List.not_mem_nil, or_false] at hm
        rcases hm with e | e | e | e
        · exact dz e
        · exact dTO e
        · exact di1 e
        · exact di2 e
      frame := fun i g g' st hk => by
        obtain ⟨hTI, h1, h2, hl1, hz⟩ := st
        refine ⟨hk _ _ (Ne.symm dTI) hTI, h1.at fun o e => hk _ o (Ne.symm di1) e, hk _ _ (Ne.symm di2) h2, hl1.at fun o e => hk _ o (Ne.symm dl1) e, ?_⟩
        rcases hz with ⟨i0, hz, a, b, hTO⟩ | ⟨i0, T, f, oT, hz, hT, r1, r2, r3, r4⟩
        · exact .inl ⟨i0, hk _ _ (Ne.symm dz) hz, a, b, hk _ _ (Ne.symm dTO) hTO⟩
        · exact .inr ⟨i0, T, f, oT, hk _ _ (Ne.symm dz) hz, hk _ _ r4 hT, r1, r2, r3, r4⟩
      item := fun i s₁ Q₁ E₁ hi st hds hQ => by
        obtain ⟨hTI, h1, h2, hl1, hz⟩ := st
        have ex := Array.getElem?_eq_getElem (xs := xs) (i := i) (by omega)
        have lt : ∀ {c o}, s₁.heap.get? c = some o → s₁.heap.objs.size ≠ c := fun e => Nat.ne_of_gt (Heap.lt_size e)
        have n1 : s₁.heap.objs.size ≠ i1 := let ⟨_, e, _⟩ := h1; lt e
        have n2 : s₁.heap.objs.size ≠ i2 := lt h2
        have e1 : ((i : Int) + 1) = ((i + 1 : Nat) : Int) := by omega
        have e2 : (n : Int) - i - 1 = (n : Int) - ((i + 1 : Nat) : Int) := by omega
        rcases hz with ⟨i0, hz, a, b, hTO⟩ | ⟨i0, T, f, oT, hz, hT, r1, r2, r3, r4⟩
        · refine item_new D hz hTI hTO h1 h2 hl1 ex (by omega) fun g a1 a3 a4 a5 hk => ?_
          rw [e1, e2] at a4
          exact hQ s₁.heap.objs.size _ _ g _ ⟨ex, _, rfl⟩ (.inl ⟨_, a5, rfl, _, rfl⟩)
            ⟨hk _ _ D.TIz D.TITO D.TIi1 D.TIi2 hTI, a3, a4, hl1.at fun o e => hk _ o D.l1z D.l1TO D.l1i1 D.l1i2 e, .inr ⟨Nat.succ_pos i, s₁.heap.objs.size, false, _, a1, a5, lt hz, n1, n2, Nat.ne_of_gt hds⟩⟩
            fun c o hc e => hk c o (fun x => hc (by simp [x])) (fun x => hc (by simp [x])) (fun x => hc (by simp [x])) (fun x => hc (by simp [x])) e
        · refine item_out D hz hT hTI h1 h2 hl1 ex (by omega) fun g a1 a3 a4 a5 hk => ?_
          rw [e1, e2] at a4
          exact hQ s₁.heap.objs.size _ _ g _ ⟨ex, _, rfl⟩ (.inl ⟨_, a5, rfl, _, rfl⟩)
            ⟨hk _ _ D.TIz D.TIi1 D.TIi2 hTI, a3, a4, hl1.at fun o e => hk _ o D.l1z D.l1i1 D.l1i2 e, .inr ⟨Nat.succ_pos i, T, true, oT, a1, hk _ _ r1 r2 r3 hT, r1, r2, r3, r4⟩⟩
            fun c o hc e => hk c o (fun x => hc (by simp [x])) (fun x => hc (by simp [x])) (fun x => hc (by simp [x])) e
      done := fun s₁ Q₁ E₁ st hQ => by
        obtain ⟨hTI, h1, h2, hl1, hz⟩ := st
        rcases hz with ⟨i0, _⟩ | ⟨i0, T, f, oT, hz, hT, r1, r2, r3, r4⟩
        · omega
        · exact end_out hA D hz hT hTI h1 hl1 (Array.getElem?_eq_none (by omega)) fun g hk => hQ g s₁.toks fun c o hc e => hk c o (fun x => hc (by simp [x])) (fun x => hc (by simp [x])) e }
end
end L2.Zr

/-! zip(xs, range(n)) is made; dict of it. -/
namespace L2.Zr
open PySem PySem.Spec PyProof.Rows L2.Zx
abbrev g1 (h : Heap) (l1 : Addr) : Heap := h.push { cls := .type "list_iterator", data := .fields #[.ref l1, .int 0 0] }
abbrev g2 (h : Heap) (l1 : Addr) (n : Int) : Heap := (g1 h l1).push { cls := .type "range_iterator", data := .fields #[rawInt 0, rawInt n, rawInt 1] }
abbrev g3 (h : Heap) (l1 : Addr) (n : Int) : Heap := (g2 h l1 n).push { cls := .type "tuple", data := .seq #[.ref h.objs.size, .ref (g1 h l1).objs.size] }
abbrev g4 (h : Heap) (l1 : Addr) (n : Int) : Heap := (g3 h l1 n).push { cls := .type "tuple", data := .seq #[.none, .none] }
abbrev g5 (h : Heap) (l1 : Addr) (n : Int) : Heap := (g4 h l1 n).push { cls := .type "zip", data := .fields #[.none, .bool false, .bool false, .ref (g2 h l1 n).objs.size, .ref (g3 h l1 n).objs.size] }
theorem zip_made (l1 r : Addr) (xs : Array Value) (n : Int) (t u v : Tok) (hs : Builtin.Range.small 0 n 1 = true) (hz : Builtin.Range.rangeSize 0 n 1 = n) :
    Meets (Builtin.«zip.__new__» ⟨[.type "zip", .ref l1, .ref r], []⟩) (fun _ R s => s.heap.IsList l1 xs ∧ IsRange s.heap r 0 n 1 t u v ∧
      R (.ok (.ret (.ref (g4 s.heap l1 n).objs.size))) { s with heap := g5 s.heap l1 n }) :=
  .of_wp fun prog w A R s h => by
    obtain ⟨hp, g, d, tk, os⟩ := s; obtain ⟨hl1, hr, h⟩ := h
    have hsub := sub_zip
    have hL1 : Heap.IsList (Shared.heap ⟨hp, g, d, tk, os⟩) l1 xs := hl1
    have hR : IsRange (Shared.heap ⟨hp.push { cls := .type "list_iterator", data := .fields #[.ref l1, .int 0 0] }, g, d, tk, os⟩) r 0 n 1 t u v := Heap.get?_push_of_some _ hr
    wp_walk using wpAny_pyIter_list hL1, wpAny_pyIter_range hR hs
    rw [hz]
    exact ⟨_, rfl, h⟩
section
variable {prog : Program} {w : World} {A : Around} {E : Value → Shared → Prop} {s : Shared}
theorem call_zip_rng {l1 r : Addr} {xs : Array Value} {n : Int} {t u v : Tok} {Q : Value → Shared → Prop} (hl1 : s.heap.IsList l1 xs) (hr : IsRange s.heap r 0 n 1 t u v) (hs : Builtin.Range.small 0 n 1 = true) (hz : Builtin.Range.rangeSize 0 n 1 = n)
    (h : ∀ h', IsZip h' (s.heap.objs.size + 4) (s.heap.objs.size + 2) (s.heap.objs.size + 3) .none → IsPair h' (s.heap.objs.size + 2) (.ref s.heap.objs.size) (.ref (s.heap.objs.size + 1)) →
      IsPair h' (s.heap.objs.size + 3) .none .none → h'.IsListIter s.heap.objs.size l1 0 → IsRangeIter h' (s.heap.objs.size + 1) 0 n 1 → h'.objs.size = s.heap.objs.size + 5 →
      (∀ c o, s.heap.get? c = some o → h'.get? c = some o) → Q (.ref (s.heap.objs.size + 4)) { s with heap := h' }) :
    wpAny (model prog w) A (call (.type "zip") [.ref l1, .ref r]) Q E s := by
  refine callType_new F.called_zip (by decide) (F.typeCall_zip_2 _ _) (F.newCall_zip_2 _ _) (fun obj => F.args_object_init_3 obj _ _) F.entry_zip_new (zip_made l1 r xs n t u v hs hz) ⟨hl1, hr, ?_⟩
  have z1 : (g1 s.heap l1).objs.size = s.heap.objs.size + 1 := Heap.size_push ..
  have z2 : (g2 s.heap l1 n).objs.size = s.heap.objs.size + 2 := by rw [Heap.size_push, z1]
  have z3 : (g3 s.heap l1 n).objs.size = s.heap.objs.size + 3 := by rw [Heap.size_push, z2]
  have z4 : (g4 s.heap l1 n).objs.size = s.heap.objs.size + 4 := by rw [Heap.size_push, z3]
  have z5 : (g5 s.heap l1 n).objs.size = s.heap.objs.size + 5 := by rw [Heap.size_push, z4]
  have e5 : (g5 s.heap l1 n).get? (g4 s.heap l1 n).objs.size = some _ := Heap.get?_push_size _ rfl
  have e4 : (g5 s.heap l1 n).get? (g3 s.heap l1 n).objs.size = some _ := Heap.get?_push_of_some _ (Heap.get?_push_size _ rfl)
  have e3 : (g5 s.heap l1 n).get? (g2 s.heap l1 n).objs.size = some _ := Heap.get?_push_of_some _ (Heap.get?_push_of_some _ (Heap.get?_push_size _ rfl))
  have e2 : (g5 s.heap l1 n).get? (g1 s.heap l1).objs.size = some _ := Heap.get?_push_of_some _ (Heap.get?_push_of_some _ (Heap.get?_push_of_some _ (Heap.get?_push_size _ rfl)))
  have e1 : (g5 s.heap l1 n).get? s.heap.objs.size = some _ := Heap.get?_push_of_some _ (Heap.get?_push_of_some _ (Heap.get?_push_of_some _ (Heap.get?_push_of_some _ (Heap.get?_push_size _ rfl))))
  show _ ∧ _
  rw [z2, z3, z4] at e5
  rw [z1, z2] at e3
  rw [z3] at e4
  rw [z1] at e2
  rw [z4]
  exact ⟨⟨_, e5, rfl⟩, h _ e5 e3 e4 ⟨_, e1, rfl, rfl⟩ e2 z5 fun c o x => Heap.get?_push_of_some _ (Heap.get?_push_of_some _ (Heap.get?_push_of_some _ (Heap.get?_push_of_some _ (Heap.get?_push_of_some _ x))))⟩
end
def rows (ns : List Int) (vs : List Value) : List (Key × Value) := (ns.zip vs).map fun q => (.inl q.1, q.2)
theorem rows_len (ns : List Int) (vs : List Value) : (rows ns vs).length ≤ vs.length := by
  unfold rows
  rw [List.length_map, List.length_zip]
  exact Nat.min_le_right _ _
theorem rows_snoc : ∀ {ns : List Int} {vs : List Value} {n : Int} {v : Value}, ns[vs.length]? = some n → rows ns (vs ++ [v]) = rows ns vs ++ [(.inl n, v)]
  | [], _, _, _, h => by cases h
  | m :: ns, [], n, v, h => by
    cases h
    show rows (m :: ns) [v] = [(.inl m, v)]
    unfold rows
    rw [List.zip_cons_cons, List.zip_nil_right]
    rfl
  | m :: ns, u :: vs, n, v, h => by
    have ih := rows_snoc (ns := ns) (vs := vs) (n := n) (v := v) (by simpa using h)
    show rows (m :: ns) (u :: (vs ++ [v])) = _
    unfold rows at ih ⊢
    rw [List.zip_cons_cons, List.map_cons, ih, List.zip_cons_cons, List.map_cons]
    rfl
theorem rows_rel : ∀ {ns : List Int} {k : Nat} (vs : List Value), vs.length = ns.length → (∀ (j : Nat) (v : Value), vs[j]? = some v → ∃ t, v = Value.int ((k + j : Nat) : Int) t) → KV ((ns.zipIdx k).map fun q => ((.inl q.1 : Key), V.int (q.2 : Int))) (rows ns vs)
  | [], _, vs, _, _ => by
    unfold rows
    rw [List.zip_nil_left]
    exact .nil
  | n :: ns, k, [], e, _ => by cases e
  | n :: ns, k, v :: vs, e, h => by
    obtain ⟨t, ht⟩ := h 0 v rfl
    rw [List.zipIdx_cons, List.map_cons]
    have ih := rows_rel (ns := ns) (k := k + 1) vs (Nat.succ.inj e) fun j u hj => by
      obtain ⟨t, e⟩ := h (j + 1) u hj
      exact ⟨t, by rw [e]; congr 2; omega⟩
    unfold rows at ih ⊢
    rw [List.zip_cons_cons, List.map_cons]
    exact .cons ⟨rfl, t, by rw [ht]; rfl⟩ ih
end L2.Zr
namespace L2
open PySem PySem.Spec PyProof.Rows
section
variable {X : Cx}
/-- range(n) as a value -/
def rRng1 : List V → Hp → VK → Prop := fun vs H Q => ∃ n : Int, vs = [.int n] ∧ ∀ p, H p = none → Q (.ref p) (upd H p (.rng 0 n))
theorem cr_rng1 : CallR X (.type "range") rRng1 := by
  intro pins s σ H vs us Q I r h
  obtain ⟨n, rfl, q⟩ := h
  obtain ⟨u, rfl, ru⟩ := vals1 r
  obtain ⟨t, rfl⟩ := ru
  refine call_range_1 ⟨.ref s.heap.objs.size, upd H s.heap.objs.size (.rng 0 n), I.laid (t' := _) (fun b o e => Heap.get?_push_of_some _ e) (Nat.le_refl _) ?_, rfl, q _ (I.hok.fresh (Nat.le_refl _))⟩
  exact ⟨_, _, _, Heap.get?_push_size _ rfl⟩
/-- dict(zip(xs, range(n))), xs n ints -/
def rDictZipR (K : PySem.W.Frag) : List V → Hp → VK → Prop := fun zs H Q => ∃ (a b : Addr) (ns : List Int), zs = [.ref a, .ref b] ∧ SqL K H a (ns.map V.int) ∧ H b = some (.rng 0 (ns.length : Int)) ∧ 0 < ns.length ∧ ns.length ≤ 1000000 ∧
  ∀ p, H p = none → Q (.ref p) (upd H p (.dK (mergeK [] (ns.zipIdx.map fun q => ((.inl q.1 : Key), V.int (q.2 : Int))))))
def tDictZipR (K : PySem.W.Frag) (ta : TA) : TE := fun σ H Q => ta σ H fun zs H1 => rDictZipR K zs H1 Q
theorem pe_dictZipR {e e2 : Expr} {ta : TA} {p pz pz2 pos : Pos} (hc : X.calm = true) (hg : Gl X "dict") (hm : X.mg "dict" = none) (hgz : Gl X "zip") (hmz : X.mg "zip" = none) (ha : PA X [e, e2] ta) (hv : bootBuiltins "dict" = some (.type "dict") := by rfl)
    (hs : starEach [e, e2] X.env = (false, eval e X.env) :: starEach [e2] X.env := by rfl) (hpl : (backTo pz2 (starEach [e2] X.env)).any (·.1) = false := by rfl)
    (hs1 : starEach [.Call (.Name "zip" pz) [e, e2] [] pz2] X.env = (false, eval (.Call (.Name "zip" pz) [e, e2] [] pz2) X.env) :: starEach [] X.env := by rfl) :
    PE X (.Call (.Name "dict" p) [.Call (.Name "zip" pz) [e, e2] [] pz2] [] pos) (tDictZipR X.K ta) := by
  refine ⟨fun pins s σ H Q I hq => ?_⟩
  refine wpAny_Call_Name_kw (ld_blt I hg hm hv ?_)
  refine PyProof.Rows.callWith_type1 ?_ hs1 rfl
  rw [hs1]
  show wpAny _ _ (spliced ((false, eval (.Call (.Name "zip" pz) [e, e2] [] pz2) X.env) :: backTo pos (starEach [] X.env))) _ _ s
  refine Calls.spliced_cons ?_
  refine Call_ (ld_blt I hgz hmz PyProof.Rows.boot_zip (PyProof.Rows.callWith_type1 (thn (ha.run pz2 pins s σ H _ I hq) fun us s1 ⟨vs, H1, I1, r1, q1⟩ => ?_) hs hpl))
  obtain ⟨a, b, ns, ex, hqx, hqy, h0, hlen, q⟩ := q1
  subst ex
  cases r1 with
  | cons r rr =>
    cases rr with
    | cons r' rr =>
      cases rr
      cases r
      cases r'
      obtain ⟨its, rv, p1, z1⟩ := I1.list hqx
      obtain ⟨t, u, v, hr⟩ := (show ObjOk X.prog X.w H1 s1.heap b (.rng 0 (ns.length : Int)) from I1.hok b _ hqy)
      have la : a < s1.heap.objs.size := p1.lt
      have n1 := rv.length
      rw [List.length_map] at n1
      have hrs : Builtin.Range.rangeSize 0 (ns.length : Int) 1 = (ns.length : Int) := by
        rw [rangeSize_nat]
        omega
      refine Zr.call_zip_rng p1.isList hr (small_one (by omega) (by omega) (by omega) (by omega)) hrs fun h' hz hTI hTO h1 h2 hsz hk => ?_
      refine Calls.spliced_nil ?_
      have I2 : Inv X pins σ H1 { s1 with heap := h' } := I1.kept (t' := s1.toks) hk
      have D : ZipApart (s1.heap.objs.size + 4) (s1.heap.objs.size + 2) (s1.heap.objs.size + 3) s1.heap.objs.size (s1.heap.objs.size + 1) a a := PySem.W.ktu_apart s1.heap.objs.size a a la la
      have ez : its.toArray.size = ns.length := by rw [List.size_toArray]; exact n1.symm
      have ok0 : IsZip h' (s1.heap.objs.size + 4) (s1.heap.objs.size + 2) (s1.heap.objs.size + 3) .none ∧ IsPair h' (s1.heap.objs.size + 2) (.ref s1.heap.objs.size) (.ref (s1.heap.objs.size + 1)) ∧ (∃ a b, IsPair h' (s1.heap.objs.size + 3) a b) ∧ h'.IsListIter s1.heap.objs.size a 0 ∧ IsRangeIter h' (s1.heap.objs.size + 1) 0 ns.length 1 ∧ h'.IsList a its.toArray :=
        ⟨hz, hTI, ⟨_, _, hTO⟩, h1, h2, p1.isList.at fun o e => hk _ o e⟩
      have P0 := Zr.arg (prog := X.prog) (w := X.w) (s1.heap.objs.size + 4) (s1.heap.objs.size + 2) (s1.heap.objs.size + 3) s1.heap.objs.size (s1.heap.objs.size + 1) a D its.toArray ns.length ez h0
      refine PySem.call_dict_arg (s := { s1 with heap := h' }) P0 ok0 fun s₁ hs₁ hdf ok₁ => ?_
      subst hs₁
      have hzl : ns.length ≤ sizeLine := by
        rw [List.length_map] at z1
        exact z1
      refine PySem.updateFrom_arg (A := X.A.in1) (Tab := fun i h => ∃ vs : List Value, vs.length = i ∧ (∀ (j : Nat) (v : Value), vs[j]? = some v → ∃ t, v = Value.int (j : Int) t) ∧ h.DictOf (mixKind X.prog X.w) h'.objs.size (merged [] (Zr.rows ns vs))) P0 .none (I2.ok.hd hc) ok₁ hdf ⟨[], rfl, fun j v e => (by cases e), by rw [show Zr.rows ns [] = [] by unfold Zr.rows; rw [List.zip_nil_right]; rfl]; exact Heap.DictOf.new h'⟩ (fun _ _ ⟨_, _, _, tb⟩ => tb.lt_size)
        (fun i h g wr' hd _ ⟨vs, e1, e2, tb⟩ hk => ⟨vs, e1, e2, tb.at' fun o e => hk _ o hd e⟩) ?_ ?_
      · intro i key v s' Q' E' hi hrel ⟨vs, e1, e2, tb⟩ _ hQ
        obtain ⟨ek, t, rfl⟩ := hrel
        rw [List.getElem?_toArray] at ek
        obtain ⟨u, f1, f2⟩ := rv.get (i := i) (x := .int ns[i]) (by rw [List.getElem?_map, List.getElem?_eq_getElem hi]; rfl)
        rw [ek] at f1
        cases f1
        obtain ⟨t2, rfl⟩ := f2
        have hl : (merged [] (Zr.rows ns vs)).length ≤ vs.length := by
          refine Nat.le_trans (merged_length [] (Zr.rows ns vs)) ?_
          rw [List.length_nil, Nat.zero_add]
          exact Zr.rows_len ns vs
        refine wpAny_dictSet_pairs (hsz := by omega) (show (mixKind X.prog X.w).is (.inl ns[i]) (.int ns[i] t2) = true from keyIs_int _ t2) tb fun g hm' hs => ?_
        refine hQ g _ ⟨vs ++ [.int (i : Int) t], by rw [List.length_append, e1]; rfl, fun j v e => ?_, ?_⟩ hs
        · rcases Nat.lt_trichotomy j vs.length with h | h | h
          · rw [List.getElem?_append_left h] at e
            exact e2 j v e
          · subst h
            rw [List.getElem?_append_right (Nat.le_refl _), Nat.sub_self] at e
            cases e
            exact ⟨t, by rw [e1]⟩
          · rw [List.getElem?_eq_none (by rw [List.length_append, List.length_singleton]; omega)] at e
            cases e
        · rw [Zr.rows_snoc (n := ns[i]) (by rw [e1]; exact List.getElem?_eq_getElem hi)]
          unfold merged at hm' ⊢
          rw [List.foldl_append]
          exact hm'
      · rintro g tk ⟨vs, e1, e2, tb⟩ hk2
        refine ⟨rfl, ?_⟩
        have big : s1.heap.objs.size ≤ h'.objs.size := by rw [hsz]; exact Nat.le_add_right _ _
        have hm0 : (h'.objs.size == sysModules) = false := beq_eq_false_iff_ne.mpr (Nat.ne_of_gt I2.big)
        have rel := Zr.rows_rel (ns := ns) (k := 0) vs e1 (fun j v e => by obtain ⟨t, e⟩ := e2 j v e; exact ⟨t, by rw [Nat.zero_add]; exact e⟩)
        have hlen2 : (mergeK [] (ns.zipIdx.map fun q => ((.inl q.1 : Key), V.int (q.2 : Int)))).length ≤ sizeLine := by
          refine Nat.le_trans (length_mergeK _ []) ?_
          rw [List.length_nil, Nat.zero_add, List.length_map, List.length_zipIdx]
          exact hzl
        refine ⟨.ref h'.objs.size, upd H1 h'.objs.size (.dK (mergeK [] (ns.zipIdx.map fun q => ((.inl q.1 : Key), V.int (q.2 : Int))))), I1.laid (t' := tk) (fun c o e => ?_) big (show ObjOk X.prog X.w _ _ _ (.dK _) from ⟨hlen2, hm0, merged [] _, KV.merge rel .nil, tb⟩), rfl, q _ (I1.hok.fresh big)⟩
        have lc := Heap.lt_size e
        refine hk2 c o (fun m => ?_) (fun m => ?_) (Heap.get?_push_of_some _ (hk c o e))
        · rw [m, show ({ s1 with heap := h' } : Shared).heap.objs.size = s1.heap.objs.size + 5 from hsz] at lc
          exact Nat.lt_irrefl _ (Nat.lt_of_le_of_lt (Nat.le_add_right _ _) lc)
        · simp only [List.mem_cons, List.not_mem_nil, or_false] at m
          rcases m with rfl | rfl | rfl | rfl
          · exact Nat.lt_irrefl _ (Nat.lt_of_le_of_lt (Nat.le_add_right _ _) lc)
          · exact Nat.lt_irrefl _ (Nat.lt_of_le_of_lt (Nat.le_add_right _ _) lc)
          · exact Nat.lt_irrefl _ lc
          · exact Nat.lt_irrefl _ (Nat.lt_of_le_of_lt (Nat.le_add_right _ _) lc)
end
end L2

/-! Dicts as lists of pairs; a comprehension over a dict's keys. -/
namespace L2.Hx
open PySem PySem.Spec PyProof.Rows
section
variable {κ α : Type} [DecidableEq κ]
def kvK (ι : κ → Key) (f : α → V) (l : List (κ × α)) : List (Key × V) := l.map fun q => (ι q.1, f q.2)
def keysA (l : List (κ × α)) : List κ := l.map Prod.fst
def putA (l : List (κ × α)) (k : κ) (v : α) : List (κ × α) := if k ∈ keysA l then l.map (fun q => if q.1 = k then (q.1, v) else q) else l ++ [(k, v)]
def getA (l : List (κ × α)) (k : κ) : Option α := (l.find? fun q => decide (q.1 = k)).map Prod.snd
theorem getA_nil (k : κ) : getA ([] : List (κ × α)) k = none := rfl
theorem getA_pos {q : κ × α} {l : List (κ × α)} {k : κ} (h : q.1 = k) : getA (q :: l) k = some q.2 := by simp [getA, List.find?_cons, h]
theorem getA_neg {q : κ × α} {l : List (κ × α)} {k : κ} (h : ¬ q.1 = k) : getA (q :: l) k = getA l k := by simp [getA, List.find?_cons, h]
theorem getA_out : ∀ {l : List (κ × α)} {k : κ}, ¬ k ∈ keysA l → getA l k = none
  | [], _, _ => rfl
  | q :: l, k, h => by
    rw [getA_neg (fun e => h (by rw [← e]; exact List.mem_cons_self))]
    exact getA_out fun m => h (List.mem_cons_of_mem _ m)
theorem getA_in : ∀ {l : List (κ × α)} {k : κ}, k ∈ keysA l → ∃ v, getA l k = some v ∧ (k, v) ∈ l
  | [], _, h => absurd h List.not_mem_nil
  | q :: l, k, h => by
    by_cases e : q.1 = k
    · exact ⟨q.2, getA_pos e, by rw [← e]; exact List.mem_cons_self⟩
    · rcases List.mem_cons.mp h with h | h
      · exact absurd h.symm e
      · obtain ⟨v, a, b⟩ := getA_in h
        exact ⟨v, by rw [getA_neg e]; exact a, List.mem_cons_of_mem _ b⟩
theorem getA_mem {l : List (κ × α)} {k : κ} {v : α} (h : getA l k = some v) : (k, v) ∈ l := by
  by_cases m : k ∈ keysA l
  · obtain ⟨u, a, b⟩ := getA_in m
    rw [h] at a
    cases a
    exact b
  · rw [getA_out m] at h
    cases h
theorem mem_getA : ∀ {l : List (κ × α)} {k : κ} {v : α}, (keysA l).Nodup → (k, v) ∈ l → getA l k = some v
  | [], _, _, _, m => absurd m List.not_mem_nil
  | q :: l, k, v, nd, m => by
    have n2 := List.nodup_cons.mp nd
    rcases List.mem_cons.mp m with e | m
    · rw [← e]
      exact getA_pos rfl
    · have : ¬ q.1 = k := fun e => n2.1 (by rw [e]; exact List.mem_map.mpr ⟨_, m, rfl⟩)
      rw [getA_neg this]
      exact mem_getA n2.2 m
theorem keys_putA (l : List (κ × α)) (k : κ) (v : α) : keysA (putA l k v) = if k ∈ keysA l then keysA l else keysA l ++ [k] := by
  unfold putA
  by_cases h : k ∈ keysA l
  · rw [if_pos h, if_pos h]
    unfold keysA
    rw [List.map_map]
    refine List.map_congr_left fun q _ => ?_
    show (if q.1 = k then (q.1, v) else q).1 = q.1
    split <;> rfl
  · rw [if_neg h, if_neg h]
    unfold keysA
    rw [List.map_append]
    rfl
theorem putA_nodup {l : List (κ × α)} {k : κ} {v : α} (h : (keysA l).Nodup) : (keysA (putA l k v)).Nodup := by
  rw [keys_putA]
  split
  · exact h
  · rename_i n
    exact List.nodup_append.mpr ⟨h, by simp, fun a ha b hb e => n (by rw [List.mem_singleton.mp hb] at e; rw [← e]; exact ha)⟩
theorem putA_keys {l : List (κ × α)} {k x : κ} {v : α} : x ∈ keysA (putA l k v) ↔ x ∈ keysA l ∨ x = k := by
  rw [keys_putA]
  split
  · rename_i h
    exact ⟨.inl, fun q => q.elim id fun e => by rw [e]; exact h⟩
  · rw [List.mem_append, List.mem_singleton]
theorem putA_len (l : List (κ × α)) (k : κ) (v : α) : (putA l k v).length ≤ l.length + 1 := by
  unfold putA
  split
  · rw [List.length_map]
    omega
  · rw [List.length_append]
    exact Nat.le_refl _
theorem get_map {k x : κ} {v : α} : ∀ l : List (κ × α), getA (l.map (fun q => if q.1 = k then (q.1, v) else q)) x = if x = k then (if k ∈ keysA l then some v else none) else getA l x
  | [] => by
    show none = if x = k then (if k ∈ keysA ([] : List (κ × α)) then some v else none) else none
    rw [if_neg (show ¬ k ∈ keysA ([] : List (κ × α)) from List.not_mem_nil)]
    split <;> rfl
  | q :: l => by
    have ih := get_map (k := k) (x := x) (v := v) l
    rw [List.map_cons]
    by_cases e : q.1 = k
    · rw [if_pos e, if_pos (show k ∈ keysA (q :: l) by rw [← e]; exact List.mem_cons_self)]
      by_cases ex : x = k
      · rw [if_pos ex, getA_pos (by rw [ex]; exact e)]
      · rw [if_neg ex] at ih ⊢
        rw [getA_neg (fun z => ex (by rw [← z]; exact e)), ih, getA_neg (fun z => ex (by rw [← z]; exact e))]
    · rw [if_neg e]
      by_cases ex : x = k
      · rw [if_pos ex] at ih ⊢
        rw [getA_neg (by rw [ex]; exact e), ih]
        have : k ∈ keysA (q :: l) ↔ k ∈ keysA l := ⟨fun m => (List.mem_cons.mp m).elim (fun z => absurd z.symm e) id, List.mem_cons_of_mem _⟩
        by_cases m : k ∈ keysA l
        · rw [if_pos m, if_pos (this.mpr m)]
        · rw [if_neg m, if_neg (fun z => m (this.mp z))]
      · rw [if_neg ex] at ih ⊢
        by_cases e2 : q.1 = x
        · rw [getA_pos e2, getA_pos e2]
        · rw [getA_neg e2, getA_neg e2, ih]
theorem get_app {k x : κ} {v : α} : ∀ l : List (κ × α), ¬ k ∈ keysA l → getA (l ++ [(k, v)]) x = if x = k then some v else getA l x
  | [], _ => by
    show getA [(k, v)] x = _
    by_cases e : x = k
    · rw [if_pos e, getA_pos e.symm]
    · rw [if_neg e, getA_neg (fun z => e z.symm)]
  | q :: l, h => by
    have ih := get_app (k := k) (x := x) (v := v) l fun m => h (List.mem_cons_of_mem _ m)
    rw [List.cons_append]
    by_cases e : q.1 = x
    · rw [getA_pos e, getA_pos e, if_neg (fun z => h (by rw [← z, ← e]; exact List.mem_cons_self))]
    · rw [getA_neg e, getA_neg e, ih]
theorem get_putA {l : List (κ × α)} {k x : κ} {v : α} : getA (putA l k v) x = if x = k then some v else getA l x := by
  unfold putA
  by_cases h : k ∈ keysA l
  · rw [if_pos h, get_map, if_pos h]
  · rw [if_neg h, get_app l h]
variable {ι : κ → Key} {f : α → V}
theorem kv_get (hi : ∀ a b, ι a = ι b → a = b) (k : κ) : ∀ l : List (κ × α), valV (kvK ι f l) (ι k) = (getA l k).map f
  | [] => rfl
  | q :: l => by
    by_cases e : q.1 = k
    · rw [getA_pos e]
      exact valV_pos (p := (ι q.1, f q.2)) (by rw [e])
    · rw [getA_neg e, ← kv_get hi k l]
      exact valV_neg (p := (ι q.1, f q.2)) (fun z => e (hi _ _ z))
theorem kv_any (hi : ∀ a b, ι a = ι b → a = b) (k : κ) : ∀ l : List (κ × α), ((kvK ι f l).any fun kv => decide (kv.1 = ι k)) = decide (k ∈ keysA l)
  | [] => rfl
  | q :: l => by
    have ih := kv_any hi k l
    show (decide (ι q.1 = ι k) || (kvK ι f l).any fun kv => decide (kv.1 = ι k)) = _
    rw [ih]
    by_cases e : q.1 = k
    · rw [decide_eq_true (show ι q.1 = ι k by rw [e]), decide_eq_true (show k ∈ keysA (q :: l) by rw [← e]; exact List.mem_cons_self), Bool.true_or]
    · rw [decide_eq_false (fun z => e (hi _ _ z)), Bool.false_or]
      by_cases m : k ∈ keysA l
      · rw [decide_eq_true m, decide_eq_true (show k ∈ keysA (q :: l) from List.mem_cons_of_mem _ m)]
      · rw [decide_eq_false m]
        exact (decide_eq_false (show ¬ k ∈ keysA (q :: l) from fun z => (List.mem_cons.mp z).elim (fun y => e y.symm) m)).symm
theorem kv_put (hi : ∀ a b, ι a = ι b → a = b) (l : List (κ × α)) (k : κ) (v : α) : putK (kvK ι f l) (ι k) (f v) = kvK ι f (putA l k v) := by
  unfold putK putA
  rw [kv_any hi]
  by_cases h : k ∈ keysA l
  · rw [if_pos (decide_eq_true h), if_pos h]
    unfold kvK
    rw [List.map_map, List.map_map]
    refine List.map_congr_left fun q _ => ?_
    show (if ι q.1 = ι k then (ι q.1, f v) else (ι q.1, f q.2)) = (ι (if q.1 = k then (q.1, v) else q).1, f (if q.1 = k then (q.1, v) else q).2)
    by_cases e : q.1 = k
    · rw [if_pos (by rw [e]), if_pos e]
    · rw [if_neg (fun z => e (hi _ _ z)), if_neg e]
  · rw [if_neg (by rw [decide_eq_false h]; exact Bool.false_ne_true), if_neg h]
    unfold kvK
    rw [List.map_append]
    rfl
theorem kv_len (l : List (κ × α)) : (kvK ι f l).length = l.length := List.length_map _
end
theorem inl_inj : ∀ a b : Int, (Sum.inl a : Key) = .inl b → a = b := fun _ _ h => Sum.inl.inj h
theorem inr_inj : ∀ a b : Str, (Sum.inr a : Key) = .inr b → a = b := fun _ _ h => Sum.inr.inj h
section
variable {α : Type} {f : α → V} {H : Hp} {d : Addr}
theorem dgetIR {l : List (Int × α)} (h : Rd H d (.dK (kvK Sum.inl f l))) (k : Int) : DGet H d (.int k) ((getA l k).map f) := .inl ⟨_, .inl k, h, rfl, (kv_get inl_inj k l).symm⟩
theorem dgetSR {l : List (Str × α)} (h : Rd H d (.dK (kvK Sum.inr f l))) (k : Str) : DGet H d (.str k) ((getA l k).map f) := .inl ⟨_, .inr k, h, rfl, (kv_get inr_inj k l).symm⟩
theorem dgetI {l : List (Int × α)} (h : H d = some (.dK (kvK Sum.inl f l))) (k : Int) : DGet H d (.int k) ((getA l k).map f) := dgetIR (.of h) k
theorem dgetS {l : List (Str × α)} (h : H d = some (.dK (kvK Sum.inr f l))) (k : Str) : DGet H d (.str k) ((getA l k).map f) := dgetSR (.of h) k
theorem dputI {l : List (Int × α)} (h : H d = some (.dK (kvK Sum.inl f l))) (k : Int) (v : α) (hz : l.length < sizeLine) : DPut H d (.int k) (f v) (upd H d (.dK (kvK Sum.inl f (putA l k v)))) := by
  rw [← kv_put inl_inj]
  exact DPut.k (k := Sum.inl k) h (by rw [kv_len]; exact hz)
theorem dputS {l : List (Str × α)} (h : H d = some (.dK (kvK Sum.inr f l))) (k : Str) (v : α) (hz : l.length < sizeLine) : DPut H d (.str k) (f v) (upd H d (.dK (kvK Sum.inr f (putA l k v)))) := by
  rw [← kv_put inr_inj]
  exact DPut.k (k := Sum.inr k) h (by rw [kv_len]; exact hz)
end
/-- what is kept: all tuples but what stands at d -/
def Kp (d : Addr) (H H' : Hp) : Prop := ∀ b ys, b ≠ d → H b = some (.tup ys) → H' b = some (.tup ys)
def But (d : Addr) (H H' : Hp) : Prop := ∀ b o, b ≠ d → H b = some o → H' b = some o
theorem But.refl (d : Addr) (H : Hp) : But d H H := fun _ _ _ h => h
theorem But.trans {d : Addr} {H1 H2 H3 : Hp} (a : But d H1 H2) (b : But d H2 H3) : But d H1 H3 := fun c o n h => b c o n (a c o n h)
theorem Same.but {d : Addr} {H H' : Hp} (s : Same H H') : But d H H' := fun b o _ h => s b o h
theorem But.add {d : Addr} {H H' : Hp} (s : But d H H') {a : Addr} {o : HO} (h : H' a = none) : But d H (upd H' a o) := fun b u n q => by
  have q2 := s b u n q
  rw [upd_ne (ne_of_none q2 h)]
  exact q2
/-- [e for k in d if t]: the dict d stands still meanwhile -/
theorem lc_keysE {σ : St} {H : Hp} {Q : VK} {j slot : Nat} {d : Addr} {kvs : List (Key × V)} {tt : TT} {te : TE} (hi : σ[slot]? = some (some (.ref d))) (hd : H d = some (.dK kvs)) (out : Nat → List V → Hp → Prop)
    (mono : ∀ i xs H1 H2, Kp d H1 H2 → out i xs H1 → out i xs H2) (h0 : out 0 [] H)
    (step : ∀ od i kk v H3 xs (Ny : V → Hp → Prop) (Nn : Hp → Prop), kvs[i]? = some (kk, v) → H3 d = some (.frz od (.dK kvs)) → But d H H3 → out i xs H3 → xs.length ≤ i →
      (∀ y H6, H6 d = some (.frz od (.dK kvs)) → But d H3 H6 → out (i + 1) (xs ++ [y]) H6 → Ny y H6) → (∀ H5, H5 d = some (.frz od (.dK kvs)) → But d H3 H5 → out (i + 1) xs H5 → Nn H5) →
      tt ((σ.set j none).set j (some (kV kk))) H3 fun b H5 => if b = true then te ((σ.set j none).set j (some (kV kk))) H5 Ny else Nn H5)
    (hz : kvs.length < sizeLine)
    (fin : ∀ L xs H', Same H H' → H L = none → H' L = some (.lst xs) → out kvs.length xs H' → xs.length ≤ kvs.length → Q (.ref L) H') : ∃ (d' : Addr) (u : HO), H d' = some u ∧ Mut (some u) ∧ ∀ od, tLc (iKeys (tVar slot)) (gName j) tt te [j] σ (upd H d' (.frz od u)) fun v H' => H' d' = some (.frz od u) ∧ Q v (upd H' d' u) := by
  refine ⟨d, .dK kvs, hd, trivial, fun od => ?_⟩
  refine ⟨_, hi, d, od, rfl, .inl ⟨kvs, upd_same, fun L hL => ?_⟩⟩
  have nDL : d ≠ L := fun e => by
    rw [← e, upd_same] at hL
    cases hL
  have freeL : H L = none := by
    rw [upd_ne nDL.symm] at hL
    exact hL
  have b0 : But d H (upd H d (.frz od (.dK kvs))) := fun b o n q => by rw [upd_ne n]; exact q
  refine lc_it (walk_keys (d := d) (o := od) (kvs := kvs)) (fun i H3 => But d H H3 ∧ H3 d = some (.frz od (.dK kvs)) ∧ ∃ xs, H3 L = some (.lst xs) ∧ out i xs H3 ∧ xs.length ≤ i)
    ⟨b0.add hL, by rw [upd_ne nDL]; exact upd_same, [], upd_same, mono _ _ _ _ (fun b ys n q => ?_) h0, Nat.le_refl _⟩ (fun i H3 _ q => q.2.1) ?_ ?_
  · have q2 := b0 b _ n q
    rw [upd_ne (ne_of_none q2 hL)]
    exact q2
  · rintro i x H3 H4 hi ⟨b3, h3, xs, l3, o3, z3⟩ ⟨rfl, kk, vv, hk, rfl⟩
    refine ⟨set_none σ, ?_⟩
    have hlt := (List.getElem?_eq_some_iff.mp hk).1
    refine step od i kk vv H4 xs _ _ hk h3 b3 o3 z3 (fun y H6 h6 b6 o6 => ?_) (fun H5 h5 b5 o5 => ?_)
    · have l6 := b6 L _ nDL.symm l3
      refine ⟨xs, l6, by omega, fun b o n q => ?_, by rw [upd_ne nDL]; exact h6, xs ++ [y], upd_same, mono _ _ _ _ (fun b ys n q => ?_) o6, by rw [List.length_append, List.length_singleton]; omega⟩
      · rw [upd_ne (ne_of_none q freeL)]
        exact b6 b o n (b3 b o n q)
      · rw [upd_ne (ne_of q l6 (by intro z; cases z))]
        exact q
    · exact ⟨b3.trans b5, h5, xs, b5 L _ nDL.symm l3, o5, Nat.le_succ_of_le z3⟩
  · rintro H3 ⟨b3, h3, xs, l3, o3, z3⟩
    refine ⟨h3, fin L xs _ (fun b o q => ?_) freeL (by rw [upd_ne nDL.symm]; exact l3) (mono _ _ _ _ (fun b ys n q => by rw [upd_ne n]; exact q) o3) z3⟩
    by_cases e : b = d
    · rw [e] at q ⊢
      rw [upd_same, ← hd]
      exact q
    · rw [upd_ne e]
      exact b3 b o e q
/-- [e for k in d if t]: the dict d stands still meanwhile -/
theorem lc_keys {σ : St} {H : Hp} {Q : VK} {j slot : Nat} {d : Addr} {kvs : List (Key × V)} {tt : TT} {te : TE} (hi : σ[slot]? = some (some (.ref d))) (hd : H d = some (.dK kvs)) (out : Nat → List V → Hp → Prop)
    (mono : ∀ i xs H1 H2, Kp d H1 H2 → out i xs H1 → out i xs H2) (h0 : out 0 [] H)
    (step : ∀ od i kk v H3 xs (Ny : V → Hp → Prop) (Nn : Hp → Prop), kvs[i]? = some (kk, v) → H3 d = some (.frz od (.dK kvs)) → But d H H3 → out i xs H3 → xs.length ≤ i →
      (∀ y H6, H6 d = some (.frz od (.dK kvs)) → But d H3 H6 → out (i + 1) (xs ++ [y]) H6 → Ny y H6) → (∀ H5, H5 d = some (.frz od (.dK kvs)) → But d H3 H5 → out (i + 1) xs H5 → Nn H5) →
      tt ((σ.set j none).set j (some (kV kk))) H3 fun b H5 => if b = true then te ((σ.set j none).set j (some (kV kk))) H5 Ny else Nn H5)
    (hz : kvs.length < sizeLine)
    (fin : ∀ L xs H', Same H H' → H L = none → H' L = some (.lst xs) → out kvs.length xs H' → xs.length ≤ kvs.length → Q (.ref L) H') : tLockE (tLc (iKeys (tVar slot)) (gName j) tt te [j]) σ H Q := lc_keysE hi hd out mono h0 step hz fin
end L2.Hx

/-! list(d.values()); d == {}; a walk over a dict's pairs. -/
namespace L2
open PySem PySem.Spec PyProof.Rows
def tListVals (te : TE) : TE := fun σ H Q => te σ H fun x H1 => ∃ (d : Addr) (kvs : List (Key × V)), x = .ref d ∧ H1 d = some (.dK kvs) ∧ ∀ p, H1 p = none → Q (.ref p) (upd H1 p (.lst (kvs.map Prod.snd)))
section
variable {X : Cx} {e : Expr} {te : TE} {p apos cpos pos : Pos}
theorem kv_vals : ∀ {kvs : List (Key × V)} {vs : List (Key × Value)}, KV kvs vs → Vals (kvs.map Prod.snd) (vs.map Prod.snd)
  | [], _, .nil => .nil
  | _ :: _, _, .cons r t => .cons r.2 (kv_vals t)
/-- list(e.values()) -/
theorem pe_listVals (hc : X.calm = true) (he : PE X e te) (hg : Gl X "list") (hm : X.mg "list" = none) (hv : bootBuiltins "list" = some (.type "list")) (hbase : attributeBase e "values" X.env (eval e X.env) = eval e X.env := by rfl) (hline : (apos.endLine == cpos.line) = true := by rfl)
    (hs : starEach [.Call (.Attribute e "values" apos) [] [] cpos] X.env = (false, eval (.Call (.Attribute e "values" apos) [] [] cpos) X.env) :: starEach [] X.env := by rfl) :
    PE X (.Call (.Name "list" p) [.Call (.Attribute e "values" apos) [] [] cpos] [] pos) (tListVals te) := by
  refine ⟨fun pins s σ H Q I hq => ?_⟩
  refine wpAny_Call_Name_kw (ld_blt I hg hm hv ?_)
  refine PyProof.Rows.callWith_type1 ?_ hs rfl
  rw [hs]
  show wpAny _ _ (spliced ((false, eval (.Call (.Attribute e "values" apos) [] [] cpos) X.env) :: backTo pos (starEach [] X.env))) _ _ s
  refine Calls.spliced_cons ?_
  refine wpAny_Call_method (T := "dict") (id := "dict.values") hbase rfl hline F.plainAttrs_dict F.slot_dict_values F.type_dict_values (thn (he.run pins s σ H _ I hq) fun u s1 ⟨x, H1, I1, rx, d, kvs, ex, hd, q⟩ => ?_)
  subst ex
  obtain rfl : u = Value.ref d := rx
  obtain ⟨hz, hs0, vs, kv, hdo⟩ := I1.hok d _ hd
  obtain ⟨ep, hat⟩ := hdo.dictAt
  have lk : kvs.length = vs.length := Paired.length kv
  have I2 : Inv X pins σ H1 { s1 with heap := s1.heap.push { cls := .type "dict_values", data := .fields #[.ref d] } } := I1.kept (t' := s1.toks) fun b ob q => Heap.get?_push_of_some _ q
  refine ⟨hdo.typeIs, hdo.mapOf.noDict, ?_⟩
  show wpAny _ _ (callWith cpos (.builtin "dict.values") [.ref d] [] []) _ X.xe s1
  refine method_meetsIn F.slot_dict_values F.entry_dict_values rfl (PySem.evalArgs_none ⟨rfl, hdo.typeIs, F.args_dict_values_1 _, _, meets_dict_values (mixKind X.prog X.w) d hs0, ⟨vs, hdo⟩, ?_⟩)
  refine Calls.spliced_nil ?_
  have hlt : d < s1.heap.objs.size := by
    obtain ⟨o, _, ho, _⟩ := hat
    exact Heap.lt_size ho
  refine PySem.W.kdl_call (PySem.W.kdl_values (knd := mixKind X.prog X.w) (r := s1.heap.objs.size) (d := d) (kvs := vs) (ep := ep)) (I1.ok.hd hc) ⟨⟨_, Heap.get?_push_size _ rfl, rfl, rfl⟩, hat.push _⟩ (by omega) fun h' tk acc c' hk hD hacc => ?_
  have ev : acc.toList = vs.map Prod.snd := PySem.W.kdl_vals_eq acc.toList (by rw [Array.length_toList]; exact hacc.1) fun j v e => hacc.2 j v (by rw [← Array.getElem?_toList]; exact e)
  refine ⟨.ref _, upd H1 _ (.lst (kvs.map Prod.snd)), I2.laid (t' := tk) hk (Nat.le_refl _)
    (show ObjOk X.prog X.w _ _ _ (.lst (kvs.map Prod.snd)) from ⟨by rw [List.length_map]; exact hz, acc.toList, c', by rw [ev]; exact kv_vals kv, by rw [Array.toArray_toList]; exact hD⟩), rfl, q _ (I2.hok.fresh (Nat.le_refl _))⟩
end
namespace Hx
/-- d == {} -/
def rEqDct : R2 := fun x y H Q => ∃ a b ks, x = .ref a ∧ y = .ref b ∧ H a = some (.dK ks) ∧ H b = some (.dK []) ∧ Q (.bl ks.isEmpty) H
theorem op_eqDct {X : Cx} (hu : X.A.units < cLine) : OpR X (compareOp .Eq) rEqDct := by
  intro pins s σ H x y v u Q I rx ry h
  obtain ⟨a, b, ks, rfl, rfl, ea, eb, q⟩ := h
  obtain rfl : v = Value.ref a := rx
  obtain rfl : u = Value.ref b := ry
  obtain ⟨_, ya, va, ra, da⟩ := (show ObjOk X.prog X.w H s.heap a (.dK ks) from I.hok a _ ea)
  obtain ⟨_, yb, vb, rb, db⟩ := (show ObjOk X.prog X.w H s.heap b (.dK []) from I.hok b _ eb)
  have l1 := ra.length
  have l2 := rb.length
  refine PySem.W.keq_eq (knd := mixKind X.prog X.w) (r := true) ya yb da db hu (fun e => ?_) (fin_bl I q ?_)
  · have e0 : ks = [] := List.length_eq_zero_iff.mp (by rw [l1, e, ← l2]; rfl)
    subst e0
    exact hits_all rb ra fun p m => absurd m List.not_mem_nil
  · rw [← l1, ← l2]
    cases ks <;> rfl
/-- {k: e for x in ..} over a walk -/
theorem dc_it {J : It} {n : Nat} {G : Hp → Prop} {Y : Nat → Hp → V → Hp → Prop} (w : Walk J n G Y) {g : TG} {tt : TT} {tk tv : TE} {vs : List Nat} {σ : St} {H1 : Hp} {D : Addr} {Qd : Hp → Prop} (Pv : Nat → Hp → Prop) (h0 : Pv 0 (upd H1 D (.dK []))) (hG : ∀ i H, i ≤ n → Pv i H → G H)
    (hs : ∀ i x H H', i < n → Pv i H → Y i H x H' → g x (wipe σ vs) H' fun σ2 H2 => wipe σ2 vs = wipe σ vs ∧ tt σ2 H2 fun b H3 =>
      if b = true then tk σ2 H3 fun y H4 => tv σ2 H4 fun z H5 => ∃ kvs k, y = kV k ∧ H5 D = some (.dK kvs) ∧ kvs.length < sizeLine ∧ Pv (i + 1) (upd H5 D (.dK (putK kvs k z))) else Pv (i + 1) H3) (hd : ∀ H, Pv n H → Qd H) :
    ∃ W : Nat → Nat → Hp → Prop, (∃ m, W 0 m (upd H1 D (.dK []))) ∧ ∀ i m H, W i m H →
      (J.stop i H ∧ Qd H) ∨ (J.go i H ∧ ∃ Nx : Hp → Prop, (∀ H', Nx H' → ∃ m', m' < m ∧ W (i + 1) m' H') ∧ ∀ x H', J.yld i H x H' → g x (wipe σ vs) H' fun σ2 H2 => wipe σ2 vs = wipe σ vs ∧ tt σ2 H2 fun b H3 =>
        if b = true then tk σ2 H3 fun y H4 => tv σ2 H4 fun z H5 => ∃ kvs k, y = kV k ∧ H5 D = some (.dK kvs) ∧ kvs.length < sizeLine ∧ Nx (upd H5 D (.dK (putK kvs k z))) else Nx H3) := by
  refine ⟨fun i m H => m = n - i ∧ i ≤ n ∧ Pv i H, ⟨n, by simp, Nat.zero_le _, h0⟩, ?_⟩
  rintro i m H ⟨rfl, hi, p⟩
  have q := hG i H hi p
  by_cases hlt : i < n
  · refine .inr ⟨w.goes i H hlt q, Pv (i + 1), fun H' p' => ⟨n - (i + 1), by omega, rfl, hlt, p'⟩, fun x H' y => hs i x H H' hlt p (w.yields i H x H' hlt q y)⟩
  · have e : i = n := by omega
    subst e
    exact .inl ⟨w.stops H q, hd H p⟩
/-- [e for (k, v) in d.items() if t]: the dict d stands still meanwhile -/
theorem lc_itemsE {σ : St} {H : Hp} {Q : VK} {vs : List Nat} {g : TG} {slot : Nat} {d : Addr} {kvs : List (Key × V)} {tt : TT} {te : TE} (hi : σ[slot]? = some (some (.ref d))) (hd : H d = some (.dK kvs)) (out : Nat → List V → Hp → Prop)
    (mono : ∀ i xs H1 H2, Kp d H1 H2 → out i xs H1 → out i xs H2) (h0 : out 0 [] H)
    (step : ∀ od i kk v T H3 xs (Ny : V → Hp → Prop) (Nn : Hp → Prop), kvs[i]? = some (kk, v) → H3 d = some (.frz od (.dK kvs)) → But d H H3 → H3 T = some (.tup [kV kk, v]) → out i xs H3 → xs.length ≤ i →
      (∀ y H6, H6 d = some (.frz od (.dK kvs)) → But d H3 H6 → out (i + 1) (xs ++ [y]) H6 → Ny y H6) → (∀ H5, H5 d = some (.frz od (.dK kvs)) → But d H3 H5 → out (i + 1) xs H5 → Nn H5) →
      g (.ref T) (wipe σ vs) H3 fun σ2 H2 => wipe σ2 vs = wipe σ vs ∧ tt σ2 H2 fun b H5 => if b = true then te σ2 H5 Ny else Nn H5)
    (hz : kvs.length < sizeLine)
    (fin : ∀ L xs H', Same H H' → H L = none → H' L = some (.lst xs) → out kvs.length xs H' → xs.length ≤ kvs.length → Q (.ref L) H') : ∃ (d' : Addr) (u : HO), H d' = some u ∧ Mut (some u) ∧ ∀ od, tLc (iItems (tVar slot)) g tt te vs σ (upd H d' (.frz od u)) fun v H' => H' d' = some (.frz od u) ∧ Q v (upd H' d' u) := by
  refine ⟨d, .dK kvs, hd, trivial, fun od => ?_⟩
  refine ⟨_, hi, d, od, kvs, rfl, upd_same, fun L hL => ?_⟩
  have nDL : d ≠ L := fun e => by
    rw [← e, upd_same] at hL
    cases hL
  have freeL : H L = none := by
    rw [upd_ne nDL.symm] at hL
    exact hL
  have b0 : But d H (upd H d (.frz od (.dK kvs))) := fun b o n q => by rw [upd_ne n]; exact q
  refine lc_it (walk_items (d := d) (o := od) (kvs := kvs)) (fun i H3 => But d H H3 ∧ H3 d = some (.frz od (.dK kvs)) ∧ ∃ xs, H3 L = some (.lst xs) ∧ out i xs H3 ∧ xs.length ≤ i)
    ⟨b0.add hL, by rw [upd_ne nDL]; exact upd_same, [], upd_same, mono _ _ _ _ (fun b ys n q => ?_) h0, Nat.le_refl _⟩ (fun i H3 _ q => q.2.1) ?_ ?_
  · have q2 := b0 b _ n q
    rw [upd_ne (ne_of_none q2 hL)]
    exact q2
  · rintro i x H3 H4 hi ⟨b3, h3, xs, l3, o3, z3⟩ ⟨T, a, v, rfl, hT, rfl, e1, e2⟩
    obtain ⟨⟨kk, vv⟩, hk, rfl⟩ := Option.map_eq_some_iff.mp e1
    dsimp only at e1 e2
    rw [hk] at e2
    obtain rfl : vv = v := Option.some.inj e2
    have nT : d ≠ T := ne_of_none h3 hT
    have b4 : But d H3 (upd H3 T (.tup [kV kk, vv])) := (But.refl d H3).add hT
    refine step od i kk vv T _ xs _ _ hk (by rw [upd_ne nT]; exact h3) (b3.trans b4) upd_same (mono _ _ _ _ (fun b ys n q => b4 b _ n q) o3) z3 (fun y H6 h6 b6 o6 => ?_) (fun H5 h5 b5 o5 => ?_)
    · have l6 := b6 L _ nDL.symm (b4 L _ nDL.symm l3)
      refine ⟨xs, l6, by omega, fun b o n q => ?_, by rw [upd_ne nDL]; exact h6, xs ++ [y], upd_same, mono _ _ _ _ (fun b ys n q => ?_) o6, by rw [List.length_append, List.length_singleton]; omega⟩
      · rw [upd_ne (ne_of_none q freeL)]
        exact b6 b o n (b4 b o n (b3 b o n q))
      · rw [upd_ne (ne_of q l6 (by intro z; cases z))]
        exact q
    · exact ⟨b3.trans (b4.trans b5), h5, xs, b5 L _ nDL.symm (b4 L _ nDL.symm l3), o5, Nat.le_succ_of_le z3⟩
  · rintro H3 ⟨b3, h3, xs, l3, o3, z3⟩
    refine ⟨h3, fin L xs _ (fun b o q => ?_) freeL (by rw [upd_ne nDL.symm]; exact l3) (mono _ _ _ _ (fun b ys n q => by rw [upd_ne n]; exact q) o3) z3⟩
    by_cases e : b = d
    · rw [e] at q ⊢
      rw [upd_same, ← hd]
      exact q
    · rw [upd_ne e]
      exact b3 b o e q
end Hx
end L2

/-! name = {k: v for ..} on one line, the name a local. -/
namespace L2
open PySem PySem.Spec PyProof.Rows
section
variable {X : Cx}
theorem ps_setDc {i : Nat} {y : Str} {py : Pos} {kx vx tg iter : Expr} {ifs : List Expr} {scope : Scope} {own : List (Str × Nat)} {pos spos : Pos} {wi : TI} {g : TG} {tt : TT} {tk tv : TE} (hc : X.calm = true) (hN : X.N.Nodup) (hy : X.N[i]? = some y) (hyl : X.env.scope.names.lookup y = some .local)
    (hsw : swapsWith (.DictComp kx vx [⟨tg, iter, ifs, 0⟩] scope pos) (some (.Name y py)) spos.line X.env = pure true) (hi : PI X tg iter wi) (ok : BlkOk X.N X.env.scope scope own)
    (hg : ∀ (s : Shared) (H : Hp) (C : Addr) (cl : List (Str × Addr)) (fp : List Addr), PG (X.blk s H scope (compEnvC scope cl C X.env) fp) tg g) (ht : ∀ (s : Shared) (H : Hp) (C : Addr) (cl : List (Str × Addr)) (fp : List Addr), PTs (X.blk s H scope (compEnvC scope cl C X.env) fp) ifs tt)
    (hk : ∀ (s : Shared) (H : Hp) (C : Addr) (cl : List (Str × Addr)) (fp : List Addr), PE (X.blk s H scope (compEnvC scope cl C X.env) fp) kx tk)
    (he : ∀ (s : Shared) (H : Hp) (C : Addr) (cl : List (Str × Addr)) (fp : List Addr), PE (X.blk s H scope (compEnvC scope cl C X.env) fp) vx tv) (hs : ∀ x, foldedSetIterable iter X.env x = pure x := by intro _; rfl) :
    PS X (.Assign [.Name y py] (.DictComp kx vx [⟨tg, iter, ifs, 0⟩] scope pos) spos) (tAsg (tDc wi g tt tk tv (own.map (·.2))) (gName i)) := by
  refine ⟨fun pins s σ H D I h => ?_⟩
  rw [exec_Assign_Name_used _ _ _ _ hsw]
  refine wpAny_bind (wpAny_standAt (wpAny_bind ?_))
  show wpAny _ X.A (do let _ ← comprehension (.DictComp kx vx [⟨tg, iter, ifs, 0⟩] scope pos) scope X.env (firstIterPos [⟨tg, iter, ifs, 0⟩] pos) newDict false (eval iter X.env) (some (assign (.Name y py) X.env))) _ _ s
  have h : tDc wi g tt tk tv (own.map (·.2)) σ H (fun x H1 => gName i x σ H1 D.nx) := h
  refine wpAny_bind (thn (dc_core (Qf := fun _ s' => SP X pins D .next s') hc hN I hi ok hg ht hk he hs h fun L C s' m H' I' q hn f => ?_) fun _ s' hq => wpAny_pure (wpAny_pure hq))
  show wpAny _ _ (assign (.Name y py) X.env (.ref L)) _ _ _
  refine wpAny_assign_Name (store_ok2 (v := V.ref L) I' hN hy (.inl hyl) rfl (fun s2 I2 ⟨a, sb, ha⟩ => ?_) (.inr hyl))
  obtain ⟨f0, f1, f2, f3, f4, f5⟩ := f
  have haC : C ≠ a := by
    rcases ha with z | z
    · rw [z]; exact f1
    · exact fun e => f4 y a z e.symm
  refine ⟨m, hn.sameBut sb haC, fun h3 sb3 => ?_⟩
  exact ⟨_, H', I2.turned (t' := s2.toks) (fun b o hb e => (sb3.2 b hb).trans e) f0 f1 f3 f4 f5, q⟩
theorem sw_trueD {kx vx : Expr} {gs : List Comprehension} {scope : Scope} {pos py : Pos} {y : Str} {l : Nat} {env : Env} (hk : env.scope.kind = .function) (hy : env.scope.names.lookup y = some .local) (hl : (py.line == pos.line) = true)
    (ha : (scope.names.any fun (n, k) => n == y && (k == .local || k == .cell)) = false) : swapsWith (.DictComp kx vx gs scope pos) (some (.Name y py)) l env = pure true := by
  have ky : env.kindOf y = some .local := hy
  have hb : env.blockKind = .function := by unfold Env.blockKind; rw [hk]; rfl
  unfold swapsWith
  simp only [hb, ky, ha, Expr.pos, hl]
  rfl
end
end L2

/-! {**d, k: v, ..}: a dict display that begins with all pairs of a dict. -/
namespace PySem
open Sem (wp)
section
variable {prog : Program} {w : World} {K : Type} [DecidableEq K] {knd : KeyKind prog w K} {A : Around} {E : Value → Shared → Prop} {s : Shared}
theorem wpAny_dictPut_pairs {d : Addr} {kvs : List (K × Value)} {k : K} {key v : Value} {Q : Unit → Shared → Prop} (hkey : knd.is k key = true) (hm : s.heap.DictOf knd d kvs)
    (hQ : ∀ h', h'.DictOf knd d (stored kvs k v) → Heap.SameBut d s.heap h' → Q () { s with heap := h' })
    (hsz : kvs.length ≤ sizeLine := by size_fits) :
    wpAny (model prog w) A (dictPut d (knd.hash k) key v) Q E s := by
  obtain ⟨o, es, ep, ho, hc, hd, hk, hp, hn⟩ := hm
  have hes : es.size ≤ sizeLine := by have e1 := hp.length; have e2 : es.toList.length = es.size := by simp
                                      omega
  unfold dictPut
  refine wpAny_bind (wpAny_dictFind_of hkey ho hd hk ?_)
  have hidx : (es.findIdx? fun e => knd.is k e.key) = kvs.findIdx? fun kv => decide (kv.1 = k) := by
    rw [← hp.findIdx k]; obtain ⟨l⟩ := es; simp
  cases hi : es.findIdx? fun e => knd.is k e.key with
  | some i =>
    refine wpAny_updateDict ho hd (hQ _ ⟨_, _, ep, Heap.get?_update_self _ ho (Obj.isFreed_of_dict (Obj.data_mapDict hd _)),
      hc.mapDict _, Obj.data_mapDict hd _, hk.modify _ _, ?_, ?_⟩ (Heap.SameBut.update ..))
    · rw [stored, if_pos (any_of_findIdx_some (hidx ▸ hi))]
      have hl : (es.toList.findIdx? fun e => knd.is k e.key) = some i := by rw [← hi]; obtain ⟨l⟩ := es; simp
      have := hp.modify hn hl v
      obtain ⟨l⟩ := es
      simpa using this
    · rw [stored, if_pos (any_of_findIdx_some (hidx ▸ hi)), keys_map_store]; exact hn
  | none =>
    have hnot : k ∉ kvs.map (·.1) := not_mem_of_findIdx_none (hidx ▸ hi)
    have hany : ¬ (kvs.any fun kv => decide (kv.1 = k)) = true := by
      rw [List.any_eq_true]; rintro ⟨kv, hkv, he⟩
      exact hnot (List.mem_map.mpr ⟨kv, hkv, of_decide_eq_true he⟩)
    refine wpAny_updateDictKeys (hz := hes) ho hd (hQ _ ⟨_, _, ep + 1, Heap.get?_update_self _ ho (Obj.isFreed_of_dict (Obj.data_mapDictKeys hd _)),
      hc.mapDictKeys _, Obj.data_mapDictKeys hd _, hk.push hkey _, ?_, ?_⟩ (Heap.SameBut.update ..))
    · rw [stored, if_neg hany]
      have := hp.append hkey (knd.hash k) v
      obtain ⟨l⟩ := es
      simpa using this
    · rw [stored, if_neg hany, List.map_append, List.nodup_append]
      refine ⟨hn, by simp, ?_⟩
      intro a ha b hb
      simp only [List.map_cons, List.map_nil, List.mem_singleton] at hb
      subst hb
      exact fun e => hnot (e ▸ ha)
theorem wpAny_mergeMapping {d o : Addr} {kvs more : List (K × Value)} {Q : Unit → Shared → Prop} (hdo : d ≠ o) (hoS : (o == sysModules) = false)
    (hd : s.heap.DictOf knd d kvs) (ho : s.heap.DictOf knd o more)
    (hQ : ∀ h', h'.DictOf knd d (merged kvs more) → h'.DictOf knd o more → Heap.SameBut d s.heap h' → Q () { s with heap := h' })
    (hsz : kvs.length + more.length ≤ sizeLine := by size_fits) :
    wpAny (model prog w) A (mergeMapping d (.ref o) false) Q E s := by
  obtain ⟨od, esd, epd, hod, hcd, hdd, hkd, hpd, hnd⟩ := id hd
  obtain ⟨oo, eso, epo, hoo, hco, hdo', hko, hpo, hno⟩ := id ho
  unfold mergeMapping
  refine wpAny_bind (wpAny_isInstance ho.typeIs isSubtype_dict_dict ?_)
  simp only [if_true]
  refine wpAny_bind (wpAny_specialOf ho.typeIs F.slot_dict_iter.lookup ?_)
  simp only [beq_self_eq_true, pure_bind]
  rw [if_neg (by rw [hoS]; exact Bool.false_ne_true)]
  have hlen : more.length = eso.size := by rw [← hpo.length]; simp
  simp only [Bool.false_eq_true, if_false]
  have loop : wpAny (model prog w) A (do
      let l ← dictEntries o
      let epoch ← dictEpoch o
      forIn (List.range l.size) PUnit.unit fun i (_ : PUnit) => (do
          let l' ← dictEntries o
          match l'[i]? with
            | some e => do
              holding [e.key, e.val] (dictPut d e.hash e.key e.val)
              let ep' ← dictEpoch o
              if (ep' != epoch) = true then do
                  (unsupported "dict.changed-during-merge" : Sem PUnit)
                  pure (ForInStep.yield PUnit.unit)
                else pure (ForInStep.yield PUnit.unit)
            | _ => do
              (unsupported "dict.changed-during-merge" : Sem PUnit)
              pure (ForInStep.yield PUnit.unit) : Sem (ForInStep PUnit))
      pure ()) Q E s := by
    refine wpAny_bind (wpAny_dictEntries hoo hdo' ?_)
    refine wpAny_bind (wpAny_dictEpoch hoo hdo' ?_)
    refine wpAny_bind ?_
    refine wpAny_forIn_list _
      (fun rest _ s' => ∃ h' i, s' = { s with heap := h' } ∧ rest = List.range' i (eso.size - i) ∧ i ≤ eso.size ∧ h'.DictOf knd d (merged kvs (more.take i)) ∧ h'.get? o = some oo ∧ Heap.SameBut d s.heap h')
      _ ?_ ?_ _ _ ⟨s.heap, 0, rfl, by simp [List.range_eq_range'], Nat.zero_le _, by simpa [merged] using hd, hoo, Heap.SameBut.refl _ _⟩
    · rintro x rest b s' ⟨h', i, rfl, hr, hi, hd', hoo', hs'⟩
      have hlt : i < eso.size := by
        rcases Nat.lt_or_ge i eso.size with h | h
        · exact h
        · rw [Nat.sub_eq_zero_of_le h] at hr; simp at hr
      obtain ⟨rfl, hrest⟩ : x = i ∧ rest = List.range' (i + 1) (eso.size - (i + 1)) := by
        have e : eso.size - i = (eso.size - (i + 1)) + 1 := by omega
        rw [e, List.range'_succ] at hr
        injection hr with h1 h2
        exact ⟨h1, h2⟩
      refine wpAny_bind (wpAny_dictEntries hoo' hdo' ?_)
      rw [Array.getElem?_eq_getElem hlt]
      obtain ⟨kv, hkv⟩ : ∃ kv, more[x]? = some kv := ⟨more[x]'(by rw [hlen]; exact hlt), List.getElem?_eq_getElem _⟩
      obtain ⟨k, v⟩ := kv
      obtain ⟨hkey, hval⟩ := hpo.get? (e := eso[x]) (by simp [hlt]) hkv
      obtain ⟨k', hkey', hhash⟩ := hko eso[x] (Array.getElem_mem hlt)
      obtain rfl : k' = k := knd.inj _ _ _ hkey' hkey
      show wpAny _ _ (holding [eso[x].key, eso[x].val] (dictPut d eso[x].hash eso[x].key eso[x].val) >>= _) _ _ _
      rw [hhash, hval]
      have hmx : (merged kvs (more.take x)).length ≤ sizeLine := by
        have e1 := merged_length_le kvs (more.take x)
        have e2 : (more.take x).length ≤ more.length := by rw [List.length_take]; omega
        omega
      refine wpAny_bind (wpAny_holding (wpAny_dictPut_pairs (hsz := hmx) hkey hd' fun h'' hd'' hs'' => ?_))
      have hoo'' : h''.get? o = some oo := (hs''.2 o (Ne.symm hdo)).trans hoo'
      refine wpAny_bind (wpAny_dictEpoch hoo'' hdo' ?_)
      rw [if_neg (by simp)]
      exact wpAny_pure ⟨h'', x + 1, rfl, hrest, hlt, by rw [merged_take_succ kvs more x (k', v) hkv]; exact hd'', hoo'', hs'.trans hs''⟩
    · rintro b s' ⟨h', i, rfl, hr, hi, hd', hoo', hs'⟩
      have hin : i = eso.size := by
        rcases Nat.lt_or_ge i eso.size with h | h
        · have e : eso.size - i = (eso.size - (i + 1)) + 1 := by omega
          rw [e, List.range'_succ] at hr; exact nomatch hr
        · exact Nat.le_antisymm hi h
      refine wpAny_pure (hQ h' ?_ ⟨oo, eso, epo, hoo', hco, hdo', hko, hpo, hno⟩ hs')
      rw [hin, ← hlen, List.take_length] at hd'; exact hd'
  refine wpAny_bind (wpAny_dictEntries hod hdd ?_)
  split
  · refine wpAny_bind (wpAny_dictEntries hoo hdo' ?_)
    refine wpAny_bind (wpAny_of_eq (a := PUnit.unit) ?_ loop)
    rw [← Array.forIn_toList]
    refine forIn_yield_id _ fun e he c => ?_
    obtain ⟨k, hkey, _⟩ := hko e (Array.mem_toList_iff.mp he)
    have z := knd.byValue k _ hkey
    cases q : e.key with
    | ref a => rw [q] at z; exact absurd z Bool.false_ne_true
    | _ => rfl
  · exact loop

theorem forIn_gatherM (m : Option Addr) (f : (Option (Sem Value) × Sem Value) → (Option Addr × List (Sem Value × Sem Value)) → Sem (ForInStep (Option Addr × List (Sem Value × Sem Value))))
    (hf : ∀ (p : Sem Value × Sem Value) (run : List (Sem Value × Sem Value)), run.length + 1 < 17 → f (some p.1, p.2) (m, run) = pure (.yield (m, run ++ [p]))) :
    ∀ (items run : List (Sem Value × Sem Value)), run.length + items.length < 17 → forIn (items.map fun p => (some p.1, p.2)) (m, run) f = pure (m, run ++ items)
  | [], run, _ => by simp
  | p :: rest, run, h => by
    rw [List.map_cons, List.forIn_cons, hf p run (by simp at h; omega), pure_bind]
    have := forIn_gatherM m f hf rest (run ++ [p]) (by simp at h ⊢; omega)
    simpa using this
/-- a dict display of all pairs of v, then of some written ones -/
theorem wpAny_dictDisplay_spread {v : Sem Value} {pairs : List (Sem Value × Sem Value)} {Q : Value → Shared → Prop} (h0 : pairs ≠ []) (hlen : pairs.length < 17)
    (h : wpAny (model prog w) A v (fun m s₁ => ∃ o kvs, m = .ref o ∧ s.heap.objs.size ≠ o ∧ (o == sysModules) = false ∧ s₁.heap.DictOf knd s.heap.objs.size [] ∧ s₁.heap.DictOf knd o kvs ∧ kvs.length ≤ sizeLine ∧
      ∀ h', h'.DictOf knd s.heap.objs.size (merged [] kvs) → Heap.SameBut s.heap.objs.size s₁.heap h' → wpAny (model prog w) A (subDict pairs) (fun q s₂ => ∃ kvs2 more, s.heap.objs.size ≠ q ∧ (q == sysModules) = false ∧ s₂.heap.DictOf knd s.heap.objs.size kvs2 ∧ s₂.heap.DictOf knd q more ∧ kvs2.length + more.length ≤ sizeLine ∧
        ∀ h', h'.DictOf knd s.heap.objs.size (merged kvs2 more) → Heap.SameBut s.heap.objs.size s₂.heap h' → Q (.ref s.heap.objs.size) { s₂ with heap := h' }) E { s₁ with heap := h' }) E
      { s with heap := s.heap.push { cls := .type "dict", data := .dict #[] } }) :
    wpAny (model prog w) A (dictDisplay ((none, v) :: pairs.map fun p => (some p.1, p.2))) Q E s := by
  unfold dictDisplay
  dsimp only
  rw [List.forIn_cons]
  simp only [List.isEmpty_nil, if_true, pure_bind, bind_assoc]
  refine wpAny_bind (wpAny_alloc ?_)
  refine wpAny_bind (wpAny_holding ?_)
  refine wpAny_mono h (fun m s₁ hm => ?_) fun _ _ e => e
  obtain ⟨o, kvs, rfl, hdo, hoS, hd, ho, hz, k⟩ := hm
  refine wpAny_bind (wpAny_onRaise (wpAny_tryCatch (wpAny_onRaise (wpAny_holding (wpAny_mergeMapping (hsz := by rw [List.length_nil]; omega) hdo hoS hd ho fun h' hd' ho' hs' => ?_)))))
  rw [forIn_gatherM (some s.heap.objs.size) _ (fun p run h => by
    have hne : ((run ++ [(p.1, p.2)]).length == 17) = false := by simp; omega
    simp only [hne, Bool.false_eq_true, if_false]) pairs [] (by simpa using hlen)]
  have hne : pairs.isEmpty = false := by cases pairs <;> first | rfl | exact absurd rfl h0
  simp only [List.nil_append, pure_bind, hne, Bool.false_eq_true, if_false, bind_assoc]
  refine wpAny_bind (wpAny_holding (wpAny_mono (k h' hd' hs') (fun q s₂ h₂ => ?_) fun _ _ e => e))
  obtain ⟨kvs2, more, hdq, hqS, hd2, hq2, hz2, k2⟩ := h₂
  refine wpAny_bind (wpAny_onRaise (wpAny_holding (wpAny_mergeMapping (hsz := hz2) hdq hqS hd2 hq2 fun h'' hd'' _ hs'' => ?_)))
  exact wpAny_pure (k2 h'' hd'' hs'')
end
end PySem
namespace L2.Hx
open PySem PySem.Spec PyProof.Rows
/-- {**d, k: v, ..} with keys ints and texts: the new dict p, then all of d in it, then the written pairs in a dict q of their own, then these in p -/
def tSpread (te : TE) (trs : List (TE × TE)) : TE := fun σ H Q => ∀ p, H p = none → te σ (upd H p (.dK [])) fun v H1 => ∃ (a : Addr) (kvs : List (Key × V)), v = .ref a ∧ H1 p = some (.dK []) ∧ H1 a = some (.dK kvs) ∧ p ≠ a ∧ kvs.length ≤ 1000 ∧
  ∀ q, upd H1 p (.dK kvs) q = none → tPairs trs σ (upd (upd H1 p (.dK kvs)) q (.dK [])) fun ps H3 => H3 q = some (.dK []) ∧ H3 p = some (.dK kvs) ∧ ∃ more : List (Key × V), ps = more.map (fun kv => (kV kv.1, kv.2)) ∧ more.length ≤ 15 ∧
    Q (.ref p) (upd (upd H3 q (.dK (mergeK [] more))) p (.dK (mergeK kvs (mergeK [] more))))
theorem pe_spread {X : Cx} {pos : Pos} {e : Expr} {keys : List (Option Expr)} {values : List Expr} {te : TE} {trs : List (TE × TE)} (he : PE X e te) (h : PPs X pos keys values trs) (hall : keys.all (·.isSome) = true) (hl : keys.length = values.length) (h0 : keys ≠ [])
    (h15 : keys.length ≤ 15) : PE X (.Dict (none :: keys) (e :: values) pos) (tSpread te trs) := by
  refine ⟨fun pins s σ H Q I q => ?_⟩
  have hn := I.hok.fresh (Nat.le_refl s.heap.objs.size)
  have I1 := I.laid (a := s.heap.objs.size) (o := .dK []) (h' := s.heap.push { cls := .type "dict", data := .dict #[] }) (t' := s.toks) (fun _ _ q => Heap.get?_push_of_some _ q) (Nat.le_refl _) (dk_empty s.heap I.big)
  have hpl := pairTrees_length keys values X.env pos hall hl
  have hp0 : pairTrees keys values X.env pos ≠ [] := by
    intro e
    rw [e] at hpl
    exact h0 (List.length_eq_zero_iff.mp hpl.symm)
  have shape : (evalEachOpt (none :: keys) X.env).zip ((evalEach (e :: values) X.env).map fun v => do let x ← v; standAt pos; pure x) = (none, (do let x ← eval e X.env; standAt pos; pure x)) :: (pairTrees keys values X.env pos).map fun p => (some p.1, p.2) := by
    show (none, (do let x ← eval e X.env; standAt pos; pure x)) :: (evalEachOpt keys X.env).zip ((evalEach values X.env).map fun v => do let x ← v; standAt pos; pure x) = _
    rw [zip_pairTrees keys values X.env pos hall hl]
  rw [arm_eval_Dict, shape]
  refine wpAny_bind (wpAny_standAt (wpAny_dictDisplay_spread (knd := mixKind X.prog X.w) hp0 (by omega) ?_))
  refine wpAny_bind (thn (he.run pins _ σ _ _ I1 (q _ hn)) fun u s1 ⟨x, H1, J1, rx, a, kvs, ex, hp, ha, hpa, hz, k⟩ => wpAny_bind (wpAny_standAt (wpAny_pure ?_)))
  subst ex
  obtain rfl : u = Value.ref a := rx
  obtain ⟨z, hd, vs, rel, dd⟩ := dk_of J1.hok ha
  obtain ⟨z0, hd0, vs0, r0, dd0⟩ := dk_of J1.hok hp
  cases r0
  have lvs : kvs.length = vs.length := Paired.length rel
  have hm : merged [] vs = vs := by
    obtain ⟨_, _, _, _, _, _, _, _, hno⟩ := id dd
    exact merged_nil_of_nodup vs hno
  have big : (2000 : Nat) ≤ sizeLine := by decide
  refine ⟨a, vs, rfl, hpa, hd, dd0, dd, by omega, fun h' dd' hs' => ?_⟩
  rw [hm] at dd'
  have he' : ∃ q, h'.get? s.heap.objs.size = some q := let ⟨q, _, _, hq, _⟩ := dd'; ⟨q, hq⟩
  have J2 : Inv X pins σ (upd H1 s.heap.objs.size (.dK kvs)) { s1 with heap := h', toks := s1.toks } := d_write J1 (by rw [hp]; exact True.intro) hs' he' (dk_new z hd0 rel dd')
  have hq := J2.hok.fresh (Nat.le_refl h'.objs.size)
  have J3 := J2.laid (a := h'.objs.size) (o := .dK []) (h' := h'.push { cls := .type "dict", data := .dict #[] }) (t' := s1.toks) (fun _ _ q => Heap.get?_push_of_some _ q) (Nat.le_refl _) (dk_empty h' J2.big)
  refine wpAny_subDict (knd := mixKind X.prog X.w) (by omega) (thn (h.run pins _ σ _ _ J3 (k _ hq)) fun ws s2 ⟨ps, H3, J4, rel4, e4, e5, more, ep, lk, q2⟩ => ?_)
  subst ep
  obtain ⟨rs, c, rk⟩ := carries_of (P := X.prog) (w := X.w) rel4
  obtain ⟨z4, hd4, vs4, r4, dd4⟩ := dk_of J4.hok e4
  cases r4
  refine ⟨rs, c, dd4, fun h3 dd3 hs3 => ?_⟩
  have hz3 : (mergeK [] more).length ≤ 15 := by
    have h1 := length_mergeK more []
    rw [List.length_nil] at h1
    omega
  have he3 : ∃ q, h3.get? h'.objs.size = some q := let ⟨q, _, _, hq, _⟩ := dd3; ⟨q, hq⟩
  have npq : s.heap.objs.size ≠ h'.objs.size := fun e => by
    have := hq
    rw [← e, upd_same] at this
    cases this
  have J5 : Inv X pins σ (upd H3 h'.objs.size (.dK (mergeK [] more))) { s2 with heap := h3, toks := s2.toks + ws.length } := d_write J4 (by rw [e4]; exact True.intro) hs3 he3 (dk_new (by omega) hd4 (rk.merge .nil) dd3)
  have e6 : upd H3 h'.objs.size (.dK (mergeK [] more)) s.heap.objs.size = some (.dK kvs) := by rw [upd_ne npq]; exact e5
  obtain ⟨z6, hd6, vs6, r6, dd6⟩ := dk_of J5.hok e6
  have l6 : kvs.length = vs6.length := Paired.length r6
  have l3 : (mergeK [] more).length = (merged [] rs).length := Paired.length (rk.merge .nil)
  refine ⟨vs6, merged [] rs, npq, hd4, dd6, dd3, by omega, fun h4 dd7 hs4 => ⟨.ref s.heap.objs.size, _, ?_, rfl, q2⟩⟩
  have he4 : ∃ q, h4.get? s.heap.objs.size = some q := let ⟨q, _, _, hq, _⟩ := dd7; ⟨q, hq⟩
  have hz4 : (mergeK kvs (mergeK [] more)).length ≤ sizeLine := by
    have h1 := length_mergeK (mergeK [] more) kvs
    omega
  exact d_write J5 (by rw [e6]; exact True.intro) hs4 he4 (dk_new hz4 hd0 ((rk.merge .nil).merge r6) dd7)
end L2.Hx

/-! Defs that raise, as promises; calls of them in a try; an own error class without arguments. -/
namespace L2.Hx
open PySem PySem.Spec PyProof.Rows
section
variable {P : Program} {w : World} {K : PySem.W.Frag} {mg : Str → Option Value} {base : Heap} {f : Addr} {fd : FuncData} {ps : List Str} {sp : Sp} {k : Nat}
/-- as okG, for a def that may raise -/
theorem okGX {x qual : Str} {st : Stmt} {N : List Str} (F : Fun K x qual st f fd) (S : FnScope N ps (defScope st)) (hn : ∀ vs H Q E, sp vs H Q E → vs.length = ps.length)
    (hbody : ∀ (cdv : Value) (A : Around) (outer : List Env) (s : Shared) (H : Hp) (vs : List V) (Q : VK) (E : XK), (A.deeper (envOfC qual (defScope st) s.heap.objs.size f cdv)).guards = some [] → Room k (A.deeper (envOfC qual (defScope st) s.heap.objs.size f cdv)) → sp vs H Q E →
      ∃ t, PSs (cxOf (L2.CX P w) P w K mg base N qual (defScope st) f cdv A outer s H E) (defBody st) t ∧ t { nx := fun _ H' => Q .non H', rt := Q } (start N vs) H) :
    FnG P w K mg base (L2.CX P w) (k + 1) f fd ps sp := by
  obtain ⟨oc, od, kV, doc, pm, an, cdv, ct, osl, rfl, lk, hcd⟩ := F.ex
  exact fng_of lk hcd S hn fun A outer s H vs Q E hgd hr hsp => hbody cdv A outer s H vs Q E hgd hr hsp
/-- a def that may raise, with its promise and its text -/
def DfX (P : Program) (w : World) (K : PySem.W.Frag) (mg : Str → Option Value) (base : Heap) (k : Nat) (x : Str) (st : Stmt) (ps : List Str) (sp : Sp) : Prop := ∃ (f : Addr) (fd : FuncData), FnG P w K mg base (L2.CX P w) k f fd ps sp ∧ Src K mg x st ps f fd
theorem DfX.mk' {x : Str} {st : Stmt} {N : List Str} {f : Addr} {fd : FuncData} (S : Src K mg x st ps f fd) (sc : FnScope N ps (defScope st)) (hn : ∀ vs H Q E, sp vs H Q E → vs.length = ps.length)
    (hbody : ∀ (cdv : Value) (A : Around) (outer : List Env) (s : Shared) (H : Hp) (vs : List V) (Q : VK) (E : XK), (A.deeper (envOfC x (defScope st) s.heap.objs.size f cdv)).guards = some [] → Room k (A.deeper (envOfC x (defScope st) s.heap.objs.size f cdv)) → sp vs H Q E →
      ∃ t, PSs (cxOf (L2.CX P w) P w K mg base N x (defScope st) f cdv A outer s H E) (defBody st) t ∧ t { nx := fun _ H' => Q .non H', rt := Q } (start N vs) H) : DfX P w K mg base (k + 1) x st ps sp := ⟨f, fd, okGX S.fn sc hn hbody, S⟩
/-- .. by keywords -/
theorem DfX.kw {x : Str} {st : Stmt} {ks : List Str} {g : {α : Type} → List α → List α} (D : DfX P w K mg base k x st ps sp) (h : ∀ (kV doc pm : Value) (an : Option Addr) (cdv ct : Value) (ws : List Value), ws.length = ps.length → bindArgs (PySem.W.fnOf x x (defArgs st) (defBody st) (defScope st) .none kV doc pm an cdv ct) ⟨[], ks.zip ws⟩ = pure (ps.zip (g ws))) :
    ∃ f fd, FnG P w K mg base (L2.CX P w) k f fd ps sp ∧ mg x = some (.ref f) ∧ PySem.W.keepIn K (.ref f) = true ∧ KwBinds K fd ps ks g := by
  obtain ⟨f, fd, a, S⟩ := D
  refine ⟨f, fd, a, S.at_, S.fn.kp, ?_⟩
  obtain ⟨oc, od, kV, doc, pm, an, cdv, ct, osl, rfl, lk, hcd⟩ := S.fn.ex
  exact fun s ws _ hl => .of_eq (h kV doc pm an cdv ct ws hl)
end
section
variable {X : Cx} {CX : CXT} {k j : Nat} {f : Addr} {fd : FuncData} {ps ks : List Str} {sp : Sp} {E : St → XK} {x : Str} {st : Stmt} {p pos : Pos} {e : Expr} {es : List Expr} {kws : List Keyword} {t tk : TA}
theorem run_gS {pins : List (Addr × Obj)} {σ : St} {H : Hp} {s : Shared} {Q : VK} {us : List Value} {vs : List V} (F : FnG X.prog X.w X.K X.mg X.base CX k f fd ps sp) (hgd : X.A.guards = some []) (hr : Room k X.A) (hb : Binds X.K fd ps []) (hx : PassesAt CX X σ (E σ))
    (I : Inv X pins σ H s) (r : Vals vs us) (h : sp vs H Q (E σ)) : wpAny (model X.prog X.w) X.A (call (.ref f) us) (EP X pins σ Q) X.xe s := by
  have hl : us.length = ps.length := by rw [← r.length]; exact F.ln _ _ _ _ h
  have b := hb s us I.kIn (by rw [List.append_nil]; exact hl)
  rw [List.append_nil] at b
  refine wpAny_call (codeAny_mono (F.go X.A X.stack s H ⟨us, []⟩ us vs Q (E σ) hgd hr I.env0 b r h) fun z s' hq => ?_)
  cases z with
  | error e => exact hx pins H s e s' I hq
  | ok fl =>
    cases fl with
    | ret u => exact I.after hq
    | next => exact hq.elim
    | brk => exact hq.elim
    | cont => exact hq.elim
theorem pe_dS (F : DfX X.prog X.w X.K X.mg X.base k x st ps sp) (hgd : X.A.guards = some []) (hr : Room j X.A) (hx : ∀ σ, PassesAt (L2.CX X.prog X.w) X σ (E σ)) (ha : PA X (e :: es) t) (hj : k ≤ j := by first | exact Nat.le_refl _ | decide) (hg : Gl X x := by rfl)
    (hdb : (x == ("__debug__" : Str)) = false := by decide) (he : starEach (e :: es) X.env = (false, eval e X.env) :: starEach es X.env := by rfl) (hpl : (backTo pos (starEach es X.env)).any (·.1) = false := by rfl) :
    PE X (.Call (.Name x p) (e :: es) [] pos) (tCallS sp E t) := by
  obtain ⟨f, fd, a, S⟩ := F
  exact ⟨fun pins s σ H Q I h => wpAny_Call_Name_kw (ld_glob I hg S.at_ (PySem.W.callWith_K (h₀ := X.base) I.ok.mod.kin S.fn.kp (thn (ha.run pos pins s σ H _ I h) fun us s1 ⟨vs, H1, I1, r, q⟩ => ⟨I1.kIn, run_gS a hgd (hr.mono hj) S.bd (hx σ) I1 r q⟩) he hpl) hdb)⟩
def tKwS (sp : Sp) (g : {α : Type} → List α → List α) (n : Nat) (E : St → XK) (tk : TA) : TE := fun σ H Q => tk σ H fun zs H2 => zs.length = n ∧ sp (g zs) H2 Q (E σ)
theorem pe_kwS {g : {α : Type} → List α → List α} (F : ∃ f fd, FnG X.prog X.w X.K X.mg X.base (L2.CX X.prog X.w) k f fd ps sp ∧ X.mg x = some (.ref f) ∧ PySem.W.keepIn X.K (.ref f) = true ∧ KwBinds X.K fd ps ks g) (hgd : X.A.guards = some []) (hr : Room j X.A) (hx : ∀ σ, PassesAt (L2.CX X.prog X.w) X σ (E σ)) (hkw : PK X kws tk)
    (hrel : ∀ {zs : List V} {ws : List Value}, Vals zs ws → Vals (g zs) (g ws)) (hj : k ≤ j := by first | exact Nat.le_refl _ | decide)
    (hg : Gl X x := by rfl) (hall : (backToKw pos (keywordEach kws X.env)).all (·.1.isSome) = true := by rfl) (hks : (backToKw pos (keywordEach kws X.env)).filterMap (·.1) = ks := by rfl) (hdb : (x == ("__debug__" : Str)) = false := by decide)
    (hpl : ((backTo pos (starEach [] X.env)).any (·.1) || (backToKw pos (keywordEach kws X.env)).any (·.1.isNone)) = false := by rfl) :
    PE X (.Call (.Name x p) [] kws pos) (tKwS sp g ps.length E tk) := by
  obtain ⟨f, fd, F, hm, hk, hb⟩ := F
  refine ⟨fun pins s σ H Q I h => wpAny_Call_Name_kw (ld_glob I hg hm ?_ hdb)⟩
  refine PySem.W.callWith_KW0 (h₀ := X.base) I.ok.mod.kin hk hall ?_ hpl
  refine thn (hkw.run pos pins s σ H _ I h) fun ws s2 ⟨zs, H2, I2, rz, hz, q2⟩ => ⟨I2.kIn, ?_⟩
  rw [hks]
  have rg := hrel rz
  refine wpAny_call (codeAny_mono (F.go X.A X.stack s2 H2 ⟨[], ks.zip ws⟩ (g ws) (g zs) Q (E σ) hgd (hr.mono hj) I2.env0 (hb s2 ws I2.kIn (rz.length.symm.trans hz)) rg q2) fun z s3 hq => ?_)
  cases z with
  | error er => exact hx σ pins H2 s2 er s3 I2 hq
  | ok fl =>
    cases fl with
    | ret u => exact I2.after hq
    | next => exact hq.elim
    | brk => exact hq.elim
    | cont => exact hq.elim
end
/-- C(), C an own exception class without own __init__ -/
theorem pmk_own0 {X : Cx} {C : Addr} {bmB : List Value} {B newId initId : String} {x : Str} {p pos : Pos} (F : ExcBaseFacts B newId initId bmB) (q : PySem.W.excIn X.K C bmB newId = true) (gC : X.mg x = some (.ref C)) (kC : PySem.W.keepIn X.K (.ref C) = true) (r : Raises X (.ref C)) (hg : Gl X x := by rfl)
    (hdb : (x == ("__debug__" : Str)) = false := by decide) : PMk X (.Call (.Name x p) [] [] pos) (fun _ H Q => Q (.ref C) none H) := by
  intro pins s σ H Q I h
  refine wpAny_Call_Name_kw (ld_glob I hg gC ?_ hdb)
  refine PySem.W.callWith_K0 I.kIn kC ?_
  show wpAny _ _ (call (.ref C) []) _ _ _
  obtain ⟨bm, N, nm, qn, bs, hdct, sn, sub, ab, col, dd, k0, k1, k2, k3, k5, mN, hC, hN, hni, T⟩ := exc_obj I.kIn q
  refine wpAny_call_exc_subT F T hC hN hni (fun h' e hm => ?_) (by show 0 ≤ sizeLine; exact Nat.zero_le _)
  exact mk_of I hm r h (I.hok.gone hm.new)
/-- what the top has of an own error class over ValueError, told of a frag -/
structure OwnExc (K : PySem.W.Frag) (mg : Str → Option Value) (x : Str) (C : Addr) : Prop where
  at_ : mg x = some (.ref C)
  exc : PySem.W.excIn K C [.type "ValueError", .type "Exception", .type "BaseException", .type "object"] "ValueError.__new__" = true
  kp : PySem.W.keepIn K (.ref C) = true
  bs : PySem.W.subIn K (.ref C) (.type "BaseException") = some true
  ty : PySem.W.typeIn K (.ref C) = some (.type "type")
  hd : PySem.W.hasDictIn K C = true
  self : PySem.W.subIn K (.ref C) (.ref C) = some true
  is_ : ExcC K C
theorem OwnExc.exm {K : PySem.W.Frag} {mg : Str → Option Value} {x : Str} {C : Addr} (T : OwnExc K mg x C) : PySem.W.exmOne K (.ref C) (.ref C) = some true := PySem.W.exm_ref T.bs T.hd T.ty T.self
/-- raise C() -/
theorem ps_raise0 {X : Cx} {W : WX} {C : Addr} {x : Str} {p pos pos2 : Pos} (hc : X.calm = true) (tk : Takes X W) (T : OwnExc X.K X.mg x C) (hg : Gl X x := by rfl) (hdb : (x == ("__debug__" : Str)) = false := by decide) :
    PS X (.Raise (some (.Call (.Name x p) [] [] pos)) none pos2) (fun _ σ H => W (.ref C) none σ H) := ps_raise hc tk (pmk_own0 PySem.F.excBase_ValueError T.exc T.at_ T.kp (raises_own T.bs T.ty) hg hdb)
end L2.Hx

/-! Long arrows opened: its defs by their places. -/
namespace L2.Hx
open PySem PySem.Spec PyProof.Rows
abbrev pw : Program := PySem.Challenge.pw_heldapart_k56_whole_long_arrows_opened
def top (i : Nat) : Stmt := pw.main.body.getD i (.Pass ⟨0, 0, 0, 0⟩)
abbrev s_leads_of : Stmt := top 4
theorem sc_leads_of : FnScope ["arrows", "begin", "kind", "end"] ["arrows"] (defScope s_leads_of) := ⟨rfl, rfl, rfl, by decide +kernel, rfl, by decide +kernel, by decide +kernel⟩
abbrev s_settled : Stmt := top 5
theorem sc_settled : FnScope ["lots", "leads", "rows", "spot", "lot", "named", "_", "order", "numbers", "number", "gone", "begin", "at", "arrows", "kind", "end"] ["lots", "leads"] (defScope s_settled) := ⟨rfl, rfl, rfl, by decide +kernel, rfl, by decide +kernel, by decide +kernel⟩
abbrev s_opened : Stmt := top 7
theorem sc_opened : FnScope ["names", "case", "begin", "ahead", "_"] ["names", "case", "begin"] (defScope s_opened) := ⟨rfl, rfl, rfl, by decide +kernel, rfl, by decide +kernel, by decide +kernel⟩
abbrev s_opened_ways : Stmt := top 8
theorem sc_opened_ways : FnScope ["case", "begin", "lots", "arrows", "leads", "end", "new", "one", "more"] ["case", "begin"] (defScope s_opened_ways) := ⟨rfl, rfl, rfl, by decide +kernel, rfl, by decide +kernel, by decide +kernel⟩
abbrev s_l_deck : Stmt := top 10
theorem sc_l_deck : FnScope ["script", "cells", "stirred", "cell"] ["script"] (defScope s_l_deck) := ⟨rfl, rfl, rfl, by decide +kernel, rfl, by decide +kernel, by decide +kernel⟩
abbrev s_l_draw : Stmt := top 11
theorem sc_l_draw : FnScope ["deck", "many", "cell", "mixed"] ["deck", "many"] (defScope s_l_draw) := ⟨rfl, rfl, rfl, by decide +kernel, rfl, by decide +kernel, by decide +kernel⟩
abbrev s_l_pick : Stmt := top 12
theorem sc_l_pick : FnScope ["deck", "items"] ["deck", "items"] (defScope s_l_pick) := ⟨rfl, rfl, rfl, by decide +kernel, rfl, by decide +kernel, by decide +kernel⟩
abbrev s_l_mixed : Stmt := top 13
theorem sc_l_mixed : FnScope ["deck", "items", "rest", "got"] ["deck", "items"] (defScope s_l_mixed) := ⟨rfl, rfl, rfl, by decide +kernel, rfl, by decide +kernel, by decide +kernel⟩
abbrev s_l_names : Stmt := top 14
theorem sc_l_names : FnScope ["deck", "most"] ["deck", "most"] (defScope s_l_names) := ⟨rfl, rfl, rfl, by decide +kernel, rfl, by decide +kernel, by decide +kernel⟩
abbrev s_l_home : Stmt := top 15
theorem sc_l_home : FnScope ["case", "home", "spot", "lot", "name"] ["case"] (defScope s_l_home) := ⟨rfl, rfl, rfl, by decide +kernel, rfl, by decide +kernel, by decide +kernel⟩
abbrev s_l_ways : Stmt := top 16
theorem sc_l_ways : FnScope ["case", "begin", "kind", "end"] ["case"] (defScope s_l_ways) := ⟨rfl, rfl, rfl, by decide +kernel, rfl, by decide +kernel, by decide +kernel⟩
abbrev s_l_numbered : Stmt := top 17
theorem sc_l_numbered : FnScope ["home", "ways", "rows", "name", "order", "row", "spot", "begin", "seen", "here", "places", "lots", "own"] ["home", "ways"] (defScope s_l_numbered) := ⟨rfl, rfl, rfl, by decide +kernel, rfl, by decide +kernel, by decide +kernel⟩
abbrev s_l_any_case : Stmt := top 18
theorem sc_l_any_case : FnScope ["deck", "names", "nameless", "home", "top", "name", "spots", "ways", "spot", "end", "kind", "turn", "case", "met", "begin"] ["deck", "names", "nameless"] (defScope s_l_any_case) := ⟨rfl, rfl, rfl, by decide +kernel, rfl, by decide +kernel, by decide +kernel⟩
abbrev s_l_one_case : Stmt := top 19
theorem sc_l_one_case : FnScope ["deck", "most", "names"] ["deck", "most"] (defScope s_l_one_case) := ⟨rfl, rfl, rfl, by decide +kernel, rfl, by decide +kernel, by decide +kernel⟩
abbrev s_l_heap : Stmt := top 20
theorem sc_l_heap : FnScope ["deck", "case", "most", "lots", "cells", "pool", "far", "values", "lot", "begin", "kind", "end", "here", "turn", "further", "store", "spot", "name"] ["deck", "case", "most"] (defScope s_l_heap) := ⟨rfl, rfl, rfl, by decide +kernel, rfl, by decide +kernel, by decide +kernel⟩
abbrev s_l_fits : Stmt := top 21
theorem sc_l_fits : FnScope ["ways", "known", "cells", "amid", "ready", "begin", "own", "kind", "end", "rest", "left", "here", "between", "value", "is_end", "further"] ["ways", "known", "cells", "amid"] (defScope s_l_fits) := ⟨rfl, rfl, rfl, by decide +kernel, rfl, by decide +kernel, by decide +kernel⟩
abbrev s_l_tells : Stmt := top 22
theorem sc_l_tells : FnScope ["case", "store", "heap", "values", "known", "spot", "lot", "name"] ["case", "store", "heap"] (defScope s_l_tells) := ⟨rfl, rfl, rfl, by decide +kernel, rfl, by decide +kernel, by decide +kernel⟩
abbrev s_l_ends : Stmt := top 23
theorem sc_l_ends : FnScope ["home", "ways", "begin", "one", "other", "end", "fresh", "own"] ["home", "ways", "begin"] (defScope s_l_ends) := ⟨rfl, rfl, rfl, by decide +kernel, rfl, by decide +kernel, by decide +kernel⟩
abbrev s_l_heard : Stmt := top 24
theorem sc_l_heard : FnScope ["names", "case", "begin", "is_named", "refused"] ["names", "case", "begin", "is_named"] (defScope s_l_heard) := ⟨rfl, rfl, rfl, by decide +kernel, rfl, by decide +kernel, by decide +kernel⟩
abbrev s_l_is_right : Stmt := top 25
theorem sc_l_is_right : FnScope ["deck", "names", "case", "begin", "is_named", "home", "ways", "known", "heard", "due", "own", "store", "heap"] ["deck", "names", "case", "begin", "is_named"] (defScope s_l_is_right) := ⟨rfl, rfl, rfl, by decide +kernel, rfl, by decide +kernel, by decide +kernel⟩
abbrev s_law : Stmt := top 26
theorem sc_law : FnScope ["script", "deck", "turn", "names", "case", "begins", "nth", "begin"] ["script"] (defScope s_law) := ⟨rfl, rfl, rfl, by decide +kernel, rfl, by decide +kernel, by decide +kernel⟩
structure Txt (K : PySem.W.Frag) (mg : Str → Option Value) : Prop where
  b_ValueError : mg "ValueError" = none
  b_dict : mg "dict" = none
  b_enumerate : mg "enumerate" = none
  b_int : mg "int" = none
  b_isinstance : mg "isinstance" = none
  b_len : mg "len" = none
  b_list : mg "list" = none
  b_max : mg "max" = none
  b_range : mg "range" = none
  b_repr : mg "repr" = none
  b_set : mg "set" = none
  b_sorted : mg "sorted" = none
  b_tuple : mg "tuple" = none
  b_zip : mg "zip" = none
  e_Unfit : ∃ C CH, OwnExc K mg "Unfit" C ∧ mg "HeldError" = some (.ref CH) ∧ PySem.W.kitOne K (.ref C) (.ref CH) = some true
  d_leads_of : ∃ f fd, Src K mg "leads_of" s_leads_of ["arrows"] f fd
  d_settled : ∃ f fd, Src K mg "settled" s_settled ["lots", "leads"] f fd
  d_opened : ∃ f fd, Src K mg "opened" s_opened ["names", "case", "begin"] f fd
  d_opened_ways : ∃ f fd, Src K mg "opened_ways" s_opened_ways ["case", "begin"] f fd
  d_l_deck : ∃ f fd, Src K mg "_law_deck" s_l_deck ["script"] f fd
  d_l_draw : ∃ f fd, Src K mg "_law_draw" s_l_draw ["deck", "many"] f fd
  d_l_pick : ∃ f fd, Src K mg "_law_pick" s_l_pick ["deck", "items"] f fd
  d_l_mixed : ∃ f fd, Src K mg "_law_mixed" s_l_mixed ["deck", "items"] f fd
  d_l_names : ∃ f fd, Src K mg "_law_names" s_l_names ["deck", "most"] f fd
  d_l_home : ∃ f fd, Src K mg "_law_home" s_l_home ["case"] f fd
  d_l_ways : ∃ f fd, Src K mg "_law_ways" s_l_ways ["case"] f fd
  d_l_numbered : ∃ f fd, Src K mg "_law_numbered" s_l_numbered ["home", "ways"] f fd
  d_l_any_case : ∃ f fd, Src K mg "_law_any_case" s_l_any_case ["deck", "names", "nameless"] f fd
  d_l_one_case : ∃ f fd, Src K mg "_law_one_case" s_l_one_case ["deck", "most"] f fd
  d_l_heap : ∃ f fd, Src K mg "_law_heap" s_l_heap ["deck", "case", "most"] f fd
  d_l_fits : ∃ f fd, Src K mg "_law_fits" s_l_fits ["ways", "known", "cells", "amid"] f fd
  d_l_tells : ∃ f fd, Src K mg "_law_tells" s_l_tells ["case", "store", "heap"] f fd
  d_l_ends : ∃ f fd, Src K mg "_law_ends" s_l_ends ["home", "ways", "begin"] f fd
  d_l_heard : ∃ f fd, Src K mg "_law_heard" s_l_heard ["names", "case", "begin", "is_named"] f fd
  d_l_is_right : ∃ f fd, Src K mg "_law_is_right" s_l_is_right ["deck", "names", "case", "begin", "is_named"] f fd
  d_law : ∃ f fd, Src K mg "law" s_law ["script"] f fd
section
variable {X : Cx}
theorem pe_cI {x : Str} {i : Int} {pos : Pos} (h : ∃ t, X.mg x = some (.int i t)) (hg : Gl X x := by rfl) (hd : (x == ("__debug__" : Str)) = false := by decide) : PE X (.Name x pos) (tC (.int i)) := let ⟨t, h⟩ := h; pe_glob hg h ⟨t, rfl⟩ hd
theorem pe_cS {x y : Str} {pos : Pos} (h : ∃ t, X.mg x = some (.str y t)) (hg : Gl X x := by rfl) (hd : (x == ("__debug__" : Str)) = false := by decide) : PE X (.Name x pos) (tC (.str y)) := let ⟨t, h⟩ := h; pe_glob hg h ⟨t, rfl⟩ hd
theorem pe_cR {x : Str} {a : Addr} {pos : Pos} (h : X.mg x = some (.ref a)) (hg : Gl X x := by rfl) (hd : (x == ("__debug__" : Str)) = false := by decide) : PE X (.Name x pos) (tC (.ref a)) := pe_glob hg h rfl hd
theorem pe_bT {x : Str} {n : String} {pos : Pos} (h : X.mg x = none) (hv : bootBuiltins x = some (.type n)) (hg : Gl X x := by rfl) (hn : x ≠ "__name__" := by decide) (hd : (x == ("__debug__" : Str)) = false := by decide) : PE X (.Name x pos) (tC (.ty n)) := pe_bltn hg h hv rfl hn hd
end
end L2.Hx

/-! The deck, a list: a draw. -/
namespace L2.Hx
open PySem PySem.Spec PyProof.Rows
theorem dp_ints {K : PySem.W.Frag} {H : Hp} : ∀ ns : List Int, DpAll K H (ns.map V.int) (ns.map PyData.int)
  | [] => .nil
  | n :: ns => .cons (.int n) (dp_ints ns)
theorem shaped_ints (ns : List Int) : SeqAt.shaped (.list (ns.map PyData.int)) = true := by
  have h1 : ∀ ns : List Int, PyData.canLayAll0 (ns.map PyData.int) = true := fun ns => by
    induction ns with
    | nil => rfl
    | cons n ns ih => simpa [PyData.canLayAll0, PyData.canLay0] using ih
  have h2 : ∀ ns : List Int, PyData.depthAll (ns.map PyData.int) ≤ 1 := fun ns => by
    induction ns with
    | nil => simp [PyData.depthAll]
    | cons n ns ih =>
      simp only [List.map_cons, PyData.depthAll, PyData.depth]
      omega
  have a := h1 ns
  have b := h2 ns
  unfold SeqAt.shaped
  rw [Bool.and_eq_true]
  refine ⟨by simpa [PyData.canLay0] using a, decide_eq_true ?_⟩
  simp only [PyData.depth]
  omega
theorem eqv_nil (ns : List Int) : PyData.eqv (.list (ns.map PyData.int)) (.list []) = decide (ns = []) := by
  cases ns <;> simp [PyData.eqv, PyData.eqvAll]
theorem Wd.gset {p l : Addr} {G H : Hp} (W : Wd p l G H) (ns : List Int) (hz : ns.length ≤ 63) : Ext p l G H G (upd H l (.lst (ns.map V.int))) := by
  have ne := W.ne
  refine ⟨⟨fun b u q => ?_, W.gp, W.gl, ?_, ⟨ns, hz, upd_same⟩⟩, Same.refl G, fun b u _ n2 q => by rw [upd_ne n2]; exact q, fun _ _ _ g => g⟩
  · rw [upd_ne (ne_of_none q W.gl)]
    exact W.same b u q
  · obtain ⟨m, t, m0, m1, e⟩ := W.dk
    exact ⟨m, t, m0, m1, by rw [upd_ne ne]; exact e⟩
theorem Wd.dset {p l : Addr} {G H : Hp} (W : Wd p l G H) {m t : Int} (m0 : 0 ≤ m) (m1 : m < 4294967291) : Ext p l G H G (upd H p (.lst (deckL l m t))) := by
  have ne := W.ne
  refine ⟨⟨fun b u q => ?_, W.gp, W.gl, ⟨m, t, m0, m1, upd_same⟩, ?_⟩, Same.refl G, fun b u n1 _ q => by rw [upd_ne n1]; exact q, fun _ _ _ g => g⟩
  · rw [upd_ne (ne_of_none q W.gp)]
    exact W.same b u q
  · obtain ⟨ns, z, e⟩ := W.ls
    exact ⟨ns, z, by rw [upd_ne ne.symm]; exact e⟩

theorem deck_set2 (l : Addr) (m t u : Int) : (deckL l m t).set 2 (.int u) = deckL l m u := rfl
theorem atI_zero (x : V) (xs : List V) : atI (x :: xs) 0 = some x := by
  have h : (0 : Int) < ((x :: xs).length : Int) := by rw [List.length_cons]; omega
  unfold atI ixN
  rw [if_pos (Int.le_refl 0), if_pos h]
  rfl
theorem ixN_zero (x : V) (xs : List V) : ixN (x :: xs).length 0 = some 0 := by
  have h : (0 : Int) < ((x :: xs).length : Int) := by rw [List.length_cons]; omega
  unfold ixN
  rw [if_pos (Int.le_refl 0), if_pos h]
  rfl
theorem ints_tail (n : Int) (ns : List Int) : ((n :: ns).map V.int).eraseIdx 0 = ns.map V.int := rfl
def spDraw : Sp := fun vs H Q _ => ∃ (p l : Addr) (G : Hp) (many : Int), vs = [.ref p, .int many] ∧ 1 ≤ many ∧ many < 1000000 ∧ Wd p l G H ∧ ∀ (r : Int) (H' : Hp), 0 ≤ r → r < many → Ext p l G H G H' → Q (.int r) H'
section
variable {P : Program} {w : World} {K : PySem.W.Frag} {mg : Str → Option Value} {base : Heap}
theorem D_draw (T : Txt K mg) : Df P w K mg base 1 "_law_draw" ["deck", "many"] spDraw := by
  obtain ⟨f, fd, S⟩ := T.d_l_draw
  refine Df.mk' (k := 0) S sc_l_draw (fun vs H Q E h => ?_) (fun cdv A outer s H vs Q E hgd hr h => ?_)
  · obtain ⟨p, l, G, many, rfl, _⟩ := h
    rfl
  · obtain ⟨p, l, G, many, rfl, h1, h2, W, k⟩ := h
    have hu := hu_of hr
    refine ⟨_, (pss_cons (ps_if (pt_cmpR (op_neD hr.units) (pe_ix ix_list (pv 0) pe_int (fun _ _ => rfl)) (pe_lst pa_nil) (nomark _)) (pss_cons (ps_set (i := 2) sc_l_draw.nd rfl (.inl rfl) (pe_ix ix_list (pe_ix ix_list (pv 0) pe_int (fun _ _ => rfl)) pe_int (fun _ _ => rfl)))
      (pss_cons (ps_asg (pe_op op_fdivN (pv 2) (pv 1)) (pg_sub (pe_ix ix_list (pv 0) pe_int (fun _ _ => rfl)) pe_int set_list))
      (pss_cons (ps_if (pt_cmpR op_lt (pv 2) (pv 1) (nomark _)) (pss_one (ps_expr (pe_bm PySem.F.plainAttrs_list PySem.F.slot_list_pop PySem.F.type_list_pop mt_popAt (pe_ix ix_list (pv 0) pe_int (fun _ _ => rfl)) (pa_cons pe_int pa_nil)))) pss_nil)
      (pss_one (ps_ret (pe_op op_mod (pe_callTy call_int1 (by rfl) T.b_int (by decide +kernel) (pa_cons (pv 2) pa_nil)) (pv 1))))))) pss_nil)
      (pss_cons (ps_asg (pe_op op_add (pe_ix ix_list (pv 0) pe_int (fun _ _ => rfl)) pe_int) (pg_sub (pv 0) pe_int set_list))
      (pss_cons (ps_set (i := 3) sc_l_draw.nd rfl (.inl rfl) (pe_op op_mod (pe_callTy call_int1 (by rfl) T.b_int (by decide +kernel) (pa_cons (pe_op op_add (pe_ix ix_list (pv 0) pe_int (fun _ _ => rfl)) (pe_op op_mul pe_int (pe_ix ix_list (pv 0) pe_int (fun _ _ => rfl)))) pa_nil)) pe_int))
      (pss_cons (ps_set (i := 3) sc_l_draw.nd rfl (.inl rfl) (pe_op op_mod (pe_callTy call_int1 (by rfl) T.b_int (by decide +kernel) (pa_cons (pe_op op_add (pe_op op_add (pe_op op_mul (pv 3) (pv 3)) (pe_op op_mul pe_int (pe_ix ix_list (pv 0) pe_int (fun _ _ => rfl)))) pe_int) pa_nil)) pe_int))
      (pss_cons (ps_set (i := 3) sc_l_draw.nd rfl (.inl rfl) (pe_op op_mod (pe_callTy call_int1 (by rfl) T.b_int (by decide +kernel) (pa_cons (pe_op op_add (pe_op op_mul (pv 3) (pv 3)) (pe_ix ix_list (pv 0) pe_int (fun _ _ => rfl))) pa_nil)) pe_int))
      (pss_one (ps_ret (pe_op op_mod (pe_callTy call_int1 (by rfl) T.b_int (by decide +kernel) (pa_cons (pe_op op_fdiv (pv 3) pe_int) pa_nil)) (pv 1))))))))), ?_⟩
    obtain ⟨m, t, m0, m1, hd⟩ := W.dk
    obtain ⟨ns, hz, hl⟩ := W.ls
    refine ⟨_, rfl, p, _, 0, _, rfl, rfl, SqL.of hd, rfl, Nat.zero_le _, fun q hq => ?_⟩
    have E1 := W.tmp (o := .lst []) hq
    have hq_p := W.np hq
    have hq_l := W.nl hq
    have hd1 : upd H q (.lst []) p = some (.lst (deckL l m t)) := by rw [upd_ne hq_p.symm]; exact hd
    have hl1 : upd H q (.lst []) l = some (.lst (ns.map V.int)) := by rw [upd_ne hq_l.symm]; exact hl
    refine ⟨.list (ns.map PyData.int), .list [], .lst (SqL.of hl1) (dp_ints ns), .lst (SqL.of upd_same) .nil, shaped_ints ns, rfl, _, rfl, ?_⟩
    rw [eqv_nil]
    refine ite2 (fun hc2 => ?_) (fun hc2 => ?_)
    · -- the great ones
      have hne : ns ≠ [] := by simpa using hc2
      obtain ⟨y, ns, rfl⟩ := List.exists_cons_of_ne_nil hne
      have lz : ns.length + 1 ≤ 63 := hz
      refine ⟨_, rfl, p, _, 0, _, rfl, rfl, SqL.of hd1, rfl, l, _, 0, V.int y, rfl, rfl, SqL.of hl1, atI_zero _ _, ?_⟩
      refine ⟨_, rfl, _, rfl, _, _, rfl, rfl, ⟨by omega, by omega⟩, ?_⟩
      refine ⟨_, rfl, p, _, 0, _, rfl, rfl, SqL.of hd1, rfl, l, _, 0, 0, rfl, rfl, hl1, ixN_zero _ _, ?_⟩
      have E2 := E1.trans W (E1.w.gset (y.fdiv many :: ns) (by rw [List.length_cons]; exact lz))
      rw [show ((y :: ns).map V.int).set 0 (V.int (y.fdiv many)) = (y.fdiv many :: ns).map V.int from rfl]
      generalize hH2 : upd (upd H q (.lst [])) l (.lst ((y.fdiv many :: ns).map V.int)) = H2 at E2 ⊢
      have hl2 : H2 l = some (.lst ((y.fdiv many :: ns).map V.int)) := by rw [← hH2, upd_same]
      have hd2 : H2 p = some (.lst (deckL l m t)) := by rw [← hH2, upd_ne W.ne]; exact hd1
      refine ⟨_, rfl, _, rfl, _, _, rfl, rfl, _, rfl, ite2 (fun hc3 => ?_) (fun hc3 => ?_)⟩
      · refine ⟨_, rfl, p, _, 0, _, rfl, rfl, SqL.of hd2, rfl, .inl ⟨rfl, _, SqL.of hl2⟩, l, _, 0, 0, _, rfl, rfl, hl2, by decide, by decide, by simp [seqIndex?], rfl, ?_⟩
        rw [ints_tail]
        have E3 := E2.trans W (E2.w.gset ns (by omega))
        refine ⟨_, rfl, .inl ⟨_, rfl, _, rfl, _, _, rfl, rfl, by show (0 : Int) < many; omega, ?_⟩⟩
        exact k _ _ (Int.emod_nonneg _ (by omega)) (Int.emod_lt_of_pos _ (by omega)) E3
      · refine ⟨_, rfl, .inl ⟨_, rfl, _, rfl, _, _, rfl, rfl, by show (0 : Int) < many; omega, ?_⟩⟩
        exact k _ _ (Int.emod_nonneg _ (by omega)) (Int.emod_lt_of_pos _ (by omega)) E2
    · -- the mixed ones
      refine ⟨_, rfl, p, _, 2, V.int t, rfl, rfl, SqL.of hd1, rfl, _, _, rfl, rfl, _, rfl, p, _, 2, 2, rfl, rfl, hd1, rfl, ?_⟩
      rw [deck_set2]
      have E2 := E1.trans W (E1.w.dset (t := t + 1) m0 m1)
      generalize hH2 : upd (upd H q (.lst [])) p (.lst (deckL l m (t + 1))) = H2 at E2 ⊢
      have hd2 : H2 p = some (.lst (deckL l m (t + 1))) := by rw [← hH2, upd_same]
      refine ⟨_, rfl, p, _, 1, V.int m, rfl, rfl, SqL.of hd2, rfl, _, rfl, p, _, 2, V.int (t + 1), rfl, rfl, SqL.of hd2, rfl, _, _, rfl, rfl, .inl ⟨by decide, by decide⟩, _, _, rfl, rfl, .inl ⟨_, rfl, _, _, rfl, rfl, by show (0 : Int) < 4294967291; decide, ?_⟩⟩
      generalize hn1 : (m + 2654435761 * (t + 1)) % 4294967291 = n1
      have b1 : 0 ≤ n1 ∧ n1 < 4294967291 := by omega
      refine ⟨_, rfl, _, rfl, _, _, rfl, rfl, .inl ⟨by omega, by omega⟩, _, rfl, p, _, 2, V.int (t + 1), rfl, rfl, SqL.of hd2, rfl, _, _, rfl, rfl, .inl ⟨by decide, by decide⟩, _, _, rfl, rfl, _, _, rfl, rfl, .inl ⟨_, rfl, _, _, rfl, rfl, by show (0 : Int) < 4294967279; decide, ?_⟩⟩
      generalize hn2 : (n1 * n1 + 40503 * (t + 1) + 11) % 4294967279 = n2
      have b2 : 0 ≤ n2 ∧ n2 < 4294967279 := by omega
      refine ⟨_, rfl, _, rfl, _, _, rfl, rfl, .inl ⟨by omega, by omega⟩, _, rfl, p, _, 1, V.int m, rfl, rfl, SqL.of hd2, rfl, _, _, rfl, rfl, .inl ⟨_, rfl, _, _, rfl, rfl, by show (0 : Int) < 4294967231; decide, ?_⟩⟩
      generalize hn3 : (n2 * n2 + m) % 4294967231 = n3
      refine ⟨_, rfl, _, _, rfl, rfl, ⟨by decide, by decide⟩, .inl ⟨_, rfl, _, rfl, _, _, rfl, rfl, by show (0 : Int) < many; omega, ?_⟩⟩
      exact k _ _ (Int.emod_nonneg _ (by omega)) (Int.emod_lt_of_pos _ (by omega)) E2
end
end L2.Hx

/-! What the law's own defs have in common. -/
namespace L2.Hx
open PySem PySem.Spec PyProof.Rows
section
variable {P : Program} {w : World} {K : PySem.W.Frag} {mg : Str → Option Value} {base : Heap} {p l : Addr} {σ : St} {G : Hp}
theorem sameAdd {H : Hp} {a : Addr} {o : HO} (h : H a = none) : Same H (upd H a o) := fun b u q => by
  rw [upd_ne (ne_of_none q h)]
  exact q
theorem sameOut {H0 H : Hp} {a : Addr} {o : HO} (s : Same H0 H) (h : H0 a = none) : Same H0 (upd H a o) := fun b u q => by
  rw [upd_ne (ne_of_none q h)]
  exact s b u q
theorem Da.tupI {K : PySem.W.Frag} {G : Hp} {v : V} {ds : List PyData} (h : Da K G v (.tuple ds)) : ∃ a xs, v = .ref a ∧ SqT K G a xs ∧ DaAll K G xs ds := by
  cases h with
  | tup h t => exact ⟨_, _, rfl, h, t⟩
theorem Da.strI {K : PySem.W.Frag} {G : Hp} {v : V} {z : Str} (h : Da K G v (.str z)) : v = .str z := by
  cases h
  rfl
theorem ite_of {c A B : Prop} {x : Bool} [Decidable c] (e : x = decide c) (h1 : c → A) (h2 : ¬ c → B) : if x = true then A else B := by
  subst e
  exact ite2 (fun h => h1 (of_decide_eq_true h)) fun h => h2 (of_decide_eq_false (Bool.eq_false_iff.mpr h))
theorem iteNot {c : Bool} {A B : Prop} (h1 : c = false → A) (h2 : c = true → B) : if (!c) = true then A else B := by
  cases c
  · exact iteT (h1 rfl)
  · exact iteF (h2 rfl)
theorem iteB {c : Bool} {A B : Prop} (h1 : c = true → A) (h2 : c = false → B) : if c = true then A else B := by
  cases c
  · exact iteF (h2 rfl)
  · exact iteT (h1 rfl)
theorem behindI {N I : Hp → Prop} {A : Prop} (main : (∀ H2, I H2 → N H2) → A) (fin : ∀ H2, I H2 → N H2) : A := main fin
theorem behindP {N I : V → Hp → Prop} {A : Prop} (main : (∀ u H2, I u H2 → N u H2) → A) (fin : ∀ u H2, I u H2 → N u H2) : A := main fin
theorem behind {N : Hp → Prop} {p l : Addr} {G H : Hp} {A : Prop} (main : (∀ H2 G2, Ext p l G H G2 H2 → N H2) → A) (fin : ∀ H2 G2, Ext p l G H G2 H2 → N H2) : A := main fin
theorem ite_dec {c A B : Prop} [Decidable c] (hc : c) (h : A) : if decide c = true then A else B := by
  rw [if_pos (decide_eq_true hc)]
  exact h
theorem if_no {c : Bool} {A B : Prop} (h : c = false) (b : B) : if c = true then A else B := by
  rw [h]
  exact b
theorem Wd.still {p l : Addr} {G H H' : Hp} (W : Wd p l G H) (s : Same H H') : Ext p l G H G H' := by
  refine ⟨⟨W.same.trans s, W.gp, W.gl, ?_, ?_⟩, Same.refl G, fun b o _ _ q => s b o q, fun _ _ _ g => g⟩
  · obtain ⟨m, t, m0, m1, e⟩ := W.dk
    exact ⟨m, t, m0, m1, s _ _ e⟩
  · obtain ⟨ns, z, e⟩ := W.ls
    exact ⟨ns, z, s _ _ e⟩
theorem Okd.fit {k n : Nat} {d : PyData} (h : Okd k n d) (hn : n ≤ sizeLine) : Fit d := ⟨h.ok, Nat.le_trans h.sz hn⟩
theorem cut_ints (ns : List Int) (lo hi : Option Int) : ∃ ms : List Int, cutV (ns.map V.int) lo hi = ms.map V.int ∧ ms.length ≤ ns.length := by
  refine ⟨(ns.drop (HT.sIx (ns.map V.int).length 0 lo)).take (HT.sIx (ns.map V.int).length (ns.map V.int).length hi - HT.sIx (ns.map V.int).length 0 lo), ?_, ?_⟩
  · unfold cutV
    rw [List.map_take, List.map_drop]
  · rw [List.length_take, List.length_drop]
    omega
def LsP (ψ : PyData → Prop) (d : PyData) : Prop := ∃ ds, d = .list ds ∧ 0 < ds.length ∧ ds.length < 1000000 ∧ ∀ x ∈ ds, ψ x
def spPick : Sp := fun vs H Q _ => ∃ (p l : Addr) (G : Hp) (a : Addr) (xs : List V), vs = [.ref p, .ref a] ∧ Wd p l G H ∧ H a = some (.lst xs) ∧ a ≠ p ∧ a ≠ l ∧ 0 < xs.length ∧ xs.length < 1000000 ∧ ∀ x H', x ∈ xs → Ext p l G H G H' → Q x H'
def spDrawn (K : PySem.W.Frag) (ψ φ : PyData → Prop) : Sp := fun vs H Q _ => ∃ (p l : Addr) (G : Hp) (v : V) (d : PyData), vs = [.ref p, v] ∧ Wd p l G H ∧ Da K G v d ∧ ψ d ∧ ∀ u e G2 H2, Ext p l G H G2 H2 → Da K G2 u e → φ e → Q u H2
theorem atI_nat2 {xs : List V} {i : Int} (h0 : 0 ≤ i) (h1 : i < xs.length) : ∃ x, atI xs i = some x ∧ x ∈ xs := by
  have hi : i.toNat < xs.length := by omega
  refine ⟨xs[i.toNat], ?_, List.getElem_mem hi⟩
  unfold atI ixN
  rw [if_pos h0, if_pos h1]
  show xs[i.toNat]? = _
  rw [List.getElem?_eq_getElem hi]
theorem D_pick (T : Txt K mg) : Df P w K mg base 2 "_law_pick" ["deck", "items"] spPick := by
  have D_l_draw := D_draw (P := P) (w := w) (base := base) T
  obtain ⟨f, fd, S⟩ := T.d_l_pick
  refine Df.mk' (k := 1) S sc_l_pick (fun vs H Q E h => ?_) (fun cdv A outer s H vs Q E hgd hr h => ?_)
  · obtain ⟨p, l, G, a, xs, rfl, _⟩ := h
    rfl
  · obtain ⟨p, l, G, a, xs, rfl, W, ha, n1, n2, h0, h1, k⟩ := h
    refine ⟨_, (pss_one (ps_ret (pe_ix ix_list (pv 1) (pe_d D_l_draw hgd hr (pa_cons (pv 0) (pa_cons (pe_callB call_len_seq (by rfl) T.b_len (by decide +kernel) (pa_cons (pv 1) pa_nil)) pa_nil))) (fun _ _ => rfl)))), ?_⟩
    refine ⟨_, rfl, _, rfl, _, rfl, a, xs, rfl, .inl (SqL.of ha), p, l, G, _, rfl, by omega, by omega, W, fun r H1 r0 r1 e => ?_⟩
    obtain ⟨x, hx, mx⟩ := atI_nat2 r0 r1
    exact ⟨a, xs, r, x, rfl, rfl, SqL.of (e.keep _ _ n1 n2 ha), hx, k x H1 mx e⟩
theorem td_pick {p l : Addr} {σ : St} {G : Hp} {ta : TE} {ψ : PyData → Prop} {i : Nat} (h : TD K p l σ G ta (LsP ψ)) (hd : σ[i]? = some (some (.ref p))) : TD K p l σ G (tCall spPick [] E0 (tCons (tVar i) (tCons ta tNil))) ψ := fun G1 H Q W s kk =>
  ⟨_, hd, h G1 H _ W s fun v d G2 H2 e da f => by
    obtain ⟨ds, rfl, z0, z1, o⟩ := f
    cases da with
    | @lst a xs _ t1 a1 =>
      have hl := a1.length
      refine ⟨p, l, G2, a, xs, rfl, e.w, e.w.same _ _ t1, fun q => ?_, fun q => ?_, by omega, by omega, fun x H3 mx e3 => ?_⟩
      · rw [q, e.w.gp] at t1
        cases t1
      · rw [q, e.w.gl] at t1
        cases t1
      · obtain ⟨d, md, dd⟩ := a1.mem mx
        exact kk x d G2 H3 (e.trans W e3) dd (o d md)⟩
theorem td_lstP {p l : Addr} {σ : St} {G : Hp} {tr : TA} {Φ : List PyData → Prop} (h : TDs K p l σ G tr Φ) (hz : ∀ ds, Φ ds → ds.length ≤ sizeLine) : TD K p l σ G (tLst tr) (fun d => ∃ ds, d = .list ds ∧ Φ ds) := fun G1 H Q W s k =>
  h G1 H _ W s fun vs ds G2 H2 e da f => ⟨by rw [da.length]; exact hz ds f, fun a ha => k _ _ _ _ (e.trans W (e.w.put ha)) (.lst upd_same (da.mono (e.w.put (o := .lst vs) ha).sub)) ⟨ds, rfl, f⟩⟩
theorem td_mono {t : TE} {k n k2 n2 : Nat} (h : TD K p l σ G t (Okd k n)) (hk : k ≤ k2 := by decide) (hn : n ≤ n2 := by decide) : TD K p l σ G t (Okd k2 n2) := h.imp fun d f => f.mono hk hn
theorem TD.app {t : TE} {φ : PyData → Prop} (h : TD K p l σ G t φ) {H : Hp} {Q : VK} (W : Wd p l G H) (k : ∀ v d G2 H2, Ext p l G H G2 H2 → Da K G2 v d → φ d → Q v H2) : t σ H Q := h G H Q W (Same.refl G) k
theorem TDs.asgL {H : Hp} {D : Ends} {i : Nat} {tr : TA} {Φ : List PyData → Prop} (h : TDs K p l σ G tr Φ) (W : Wd p l G H) (hz : ∀ ds, Φ ds → ds.length ≤ sizeLine)
    (k : ∀ vs ds G2 H2 r, Ext p l G H G2 H2 → DaAll K G2 vs ds → Φ ds → H2 r = none → D.nx (σ.set i (some (.ref r))) (upd H2 r (.lst vs))) : tAsg (tLst tr) (gName i) D σ H :=
  h G H _ W (Same.refl G) fun vs ds G2 H2 e da f => ⟨by rw [da.length]; exact hz ds f, fun r hr => k vs ds G2 H2 r e da f hr⟩
theorem da_strs {K : PySem.W.Frag} {G : Hp} : ∀ ws : List Str, DaAll K G (ws.map V.str) (ws.map PyData.str)
  | [] => .nil
  | n :: ns => .cons (.str n) (da_strs ns)
theorem line16 : 16000000 ≤ sizeLine := by decide
end
theorem erase_perm {α : Type} : ∀ (l : List α) (i : Nat) (h : i < l.length), (l[i] :: l.eraseIdx i).Perm l
  | [], i, h => absurd h (Nat.not_lt_zero i)
  | x :: xs, 0, _ => .refl _
  | x :: xs, i + 1, h => (List.Perm.swap x (xs[i]'(Nat.lt_of_succ_lt_succ h)) (xs.eraseIdx i)).trans ((erase_perm xs i (Nat.lt_of_succ_lt_succ h)).cons x)
def IntD (B : Int) (d : PyData) : Prop := ∃ n : Int, d = .int n ∧ 0 ≤ n ∧ n ≤ B
def AllF (φ : PyData → Prop) (m : Nat) (ds : List PyData) : Prop := ds.length = m ∧ ∀ d ∈ ds, φ d
theorem vint {a b : Int} (h : V.int a = V.int b) : a = b := by
  cases h
  rfl
theorem tup_or : ∀ d : PyData, (∃ ds, d = .tuple ds) ∨ isTup d = false
  | .tuple ds => .inl ⟨ds, rfl⟩
  | .none => .inr rfl
  | .bool _ => .inr rfl
  | .int _ => .inr rfl
  | .str _ => .inr rfl
  | .list _ => .inr rfl
  | .dict _ => .inr rfl
section
variable {K : PySem.W.Frag} {p l : Addr} {σ : St} {G : Hp} {φ : PyData → Prop} {t te : TE} {tr : TA} {m : Nat} {B : Int}
theorem tds_nilF : TDs K p l σ G tNil (AllF φ 0) := fun G1 H Q W _ k => k _ _ _ _ (Ext.refl W) .nil ⟨rfl, fun d h => absurd h List.not_mem_nil⟩
theorem tds_consF (h : TD K p l σ G t φ) (hr : TDs K p l σ G tr (AllF φ m)) : TDs K p l σ G (tCons t tr) (AllF φ (m + 1)) := fun G1 H Q W s k =>
  tds_consP h hr G1 H Q W s fun vs ds G2 H2 e da f => k vs ds G2 H2 e da (by
    obtain ⟨d, r, rfl, h1, l1, h2⟩ := f
    refine ⟨by rw [List.length_cons, l1], fun x mx => ?_⟩
    rcases List.mem_cons.mp mx with rfl | mx
    · exact h1
    · exact h2 x mx)
theorem td_lstF (h : TDs K p l σ G tr (AllF φ (m + 1))) (hz : m + 1 < 1000000 := by decide) : TD K p l σ G (tLst tr) (LsP φ) := TD.imp (td_lstP h fun ds f => by
  have : 1000000 ≤ sizeLine := by decide
  rw [f.1]
  omega) fun d ⟨ds, e, l1, h1⟩ => ⟨ds, e, by omega, by omega, h1⟩
theorem td_intF {i : Int} (h0 : 0 ≤ i := by decide) (h1 : i ≤ B := by decide) : TD K p l σ G (tC (.int i)) (IntD B) := .flat (fun _ => .int i) ⟨i, rfl, h0, h1⟩
theorem td_powF {i : Int} (h : (0 : Int) ≤ 10 ^ i.toNat ∧ (10 : Int) ^ i.toNat ≤ B := by decide +kernel) (hc : CPow 10 i := by exact ⟨by decide, by decide, by decide⟩) : TD K p l σ G (tOp (rI CPow fun i j => .int (i ^ j.toNat)) (tC (.int 10)) (tC (.int i))) (IntD B) := fun G1 H Q W s kk =>
  ⟨10, i, rfl, rfl, hc, kk _ _ _ _ (Ext.refl W) (.int _) ⟨_, rfl, h.1, h.2⟩⟩
theorem td_varI {j : Nat} {i : Int} (hj : σ[j]? = some (some (.int i))) (h0 : 0 ≤ i) (h1 : i ≤ B) : TD K p l σ G (tVar j) (IntD B) := td_var hj (.int i) ⟨i, rfl, h0, h1⟩
theorem td_addI {j : Nat} {i c : Int} (hj : σ[j]? = some (some (.int i))) (h0 : 0 ≤ i + c) (h1 : i + c ≤ B) : TD K p l σ G (tOp (rI0 fun i j => .int (i + j)) (tVar j) (tC (.int c))) (IntD B) := fun G1 H Q W s kk =>
  ⟨_, hj, _, _, rfl, rfl, kk _ _ _ _ (Ext.refl W) (.int _) ⟨_, rfl, h0, h1⟩⟩
theorem td_lcl {a : Addr} {xs : List V} {i j : Nat} {φ : Nat → PyData → Prop} (hi : σ[i]? = some (some (.ref a))) (hS : SqL K G a xs) (hM : xs.length < sizeLine) (he : ∀ n x, xs[n]? = some x → TD K p l ((σ.set j none).set j (some x)) G te (φ n)) :
    TD K p l σ G (tLc (iList K (tVar i)) (gName j) tYes te [j]) (fun d => ∃ ds, d = .list ds ∧ ds.length = xs.length ∧ ∀ n e, ds[n]? = some e → φ n e) := fun G1 H Q W s k =>
  ⟨_, hi, a, rfl, ⟨xs, (s.trans W.same).seq hS⟩, fun D hD => by
    have nDp := W.np hD
    have nDl := W.nl hD
    have E1 := W.tmp (o := .lst []) hD
    refine lc_list (K := K) (a := a) (xs := xs) (fun i H3 => ∃ G3 vs ds, Wd p l G3 H3 ∧ Same G1 G3 ∧ G3 D = none ∧ H3 D = some (.lst vs) ∧ DaAll K G3 vs ds ∧ ds.length = i ∧ (∀ n e, ds[n]? = some e → φ n e) ∧
        (∀ b o, b ≠ p → b ≠ l → b ≠ D → H b = some o → H3 b = some o) ∧ (∀ b o, H b = some o → G1 b = none → G3 b = none))
      ⟨G1, [], [], E1.w, Same.refl _, W.same.free hD, upd_same, .nil, rfl, fun n e m => (by cases n <;> cases m), fun b o n1 n2 n3 q => by rw [upd_ne n3]; exact q, fun b o _ g => g⟩
      (fun i H3 _ ⟨G3, vs, ds, w3, s3, _⟩ => ((s.trans s3).trans w3.same).seq hS) ?_ ?_
    · rintro n x H3 hx ⟨G3, vs, ds, w3, s3, gD, hD3, da3, l3, f3, k3, n3⟩
      have hn := (List.getElem?_eq_some_iff.mp hx).1
      refine ⟨set_none σ, ?_⟩
      show te _ _ _
      refine he n x hx G3 H3 _ w3 (s.trans s3) fun v d G4 H4 e4 da4 f4 => ?_
      have hD4 : H4 D = some (.lst vs) := e4.keep _ _ nDp nDl hD3
      have gD4 : G4 D = none := e4.new _ _ hD3 gD
      refine ⟨vs, hD4, by rw [da3.length, l3]; omega, G4, vs ++ [v], ds ++ [d], e4.w.own nDp nDl gD4, s3.trans e4.sub, gD4, upd_same, (da3.mono e4.sub).append (.cons da4 .nil),
        by rw [List.length_append, l3]; rfl, fun n2 e2 m => ?_, fun b o n1 n2 n4 q => ?_, fun b o q g => ?_⟩
      · rw [List.getElem?_append] at m
        split at m
        · exact f3 _ _ m
        · have hn2 : n2 - ds.length = 0 := by
            have := (List.getElem?_eq_some_iff.mp m).1
            rw [List.length_singleton] at this
            omega
          rw [hn2] at m
          cases m
          have : n2 = n := by omega
          rw [this]
          exact f4
      · rw [upd_ne n4]
        exact e4.keep _ _ n1 n2 (k3 b o n1 n2 n4 q)
      · have g3 := n3 b o q g
        by_cases b1 : b = p
        · subst b1
          exact e4.w.gp
        · by_cases b2 : b = l
          · subst b2
            exact e4.w.gl
          · exact e4.new b o (k3 b o b1 b2 (ne_of_none q hD) q) g3
    · rintro H3 ⟨G3, vs, ds, w3, s3, gD, hD3, da3, l3, f3, k3, n3⟩
      obtain ⟨w4, s4⟩ := w3.hold nDp nDl gD hD3
      have E2 : Ext p l G1 H (upd G3 D (.lst vs)) H3 := ⟨w4, s3.trans s4, fun b o n1 n2 q => k3 b o n1 n2 (ne_of_none q hD) q, fun b o q g => by
        rw [upd_ne (ne_of_none q hD)]
        exact n3 b o q g⟩
      exact k _ _ _ _ E2 (.lst upd_same (da3.mono s4)) ⟨ds, rfl, l3, f3⟩⟩
end
end L2.Hx

/-! The deck is made; items in a drawn order. -/
namespace L2.Hx
open PySem PySem.Spec PyProof.Rows
/-- all that is new is held -/
theorem Wd.grow {p l : Addr} {G H H' : Hp} (W : Wd p l G H) (s : Same H H') : ∃ G2, Ext p l G H G2 H' ∧ ∀ b, H b = none → G2 b = H' b := by
  have hp : ∃ o, H p = some o := by
    obtain ⟨m, t, _, _, h⟩ := W.dk
    exact ⟨_, h⟩
  have hl : ∃ o, H l = some o := by
    obtain ⟨m, _, h⟩ := W.ls
    exact ⟨_, h⟩
  refine ⟨fun b => if (H b).isNone = true then H' b else G b, ⟨⟨fun b o q => ?_, ?_, ?_, ?_, ?_⟩, fun b o q => ?_, fun b o _ _ q => s _ _ q, fun b o q g => ?_⟩, fun b q => ?_⟩
  · split at q
    · exact q
    · exact s _ _ (W.same _ _ q)
  · obtain ⟨o, e⟩ := hp
    show (if (H p).isNone = true then H' p else G p) = none
    rw [e]
    exact W.gp
  · obtain ⟨o, e⟩ := hl
    show (if (H l).isNone = true then H' l else G l) = none
    rw [e]
    exact W.gl
  · obtain ⟨m, t, a, b, h⟩ := W.dk
    exact ⟨m, t, a, b, s _ _ h⟩
  · obtain ⟨m, a, h⟩ := W.ls
    exact ⟨m, a, s _ _ h⟩
  · show (if (H b).isNone = true then H' b else G b) = some o
    rw [W.same _ _ q]
    exact q
  · show (if (H b).isNone = true then H' b else G b) = none
    rw [q]
    exact g
  · show (if (H b).isNone = true then H' b else G b) = H' b
    rw [q]
    rfl
theorem perm_map_inv {α β : Type} {f : α → β} {ys zs : List β} (h : ys.Perm zs) : ∀ L : List α, zs = L.map f → ∃ M : List α, ys = M.map f ∧ M.Perm L := by
  induction h with
  | nil =>
    intro L e
    cases L with
    | nil => exact ⟨[], rfl, .refl _⟩
    | cons a L => cases e
  | cons x _ ih =>
    intro L e
    cases L with
    | nil => cases e
    | cons a L =>
      injection e with e1 e2
      obtain ⟨M, m1, m2⟩ := ih L e2
      exact ⟨a :: M, by rw [m1, e1]; rfl, m2.cons a⟩
  | swap x y l =>
    intro L e
    cases L with
    | nil => cases e
    | cons a L =>
      cases L with
      | nil => cases e
      | cons b L =>
        injection e with e1 e2
        injection e2 with e2 e3
        exact ⟨b :: a :: L, by rw [e1, e2, e3]; rfl, List.Perm.swap _ _ _⟩
  | trans _ _ ih1 ih2 =>
    intro L e
    obtain ⟨M2, e2, p2⟩ := ih2 L e
    obtain ⟨M1, e1, p1⟩ := ih1 M2 e2
    exact ⟨M1, e1, p1.trans p2⟩
def Shp (d : PyData) : Prop := d.canLay0 = true ∧ d.depth ≤ 20
theorem shp_all : ∀ {es : List PyData}, (∀ e ∈ es, Shp e) → PyData.canLayAll0 es = true ∧ PyData.depthAll es ≤ 20
  | [], _ => ⟨rfl, by simp [PyData.depthAll]⟩
  | e :: es, h => by
    obtain ⟨a, b⟩ := shp_all (es := es) fun x m => h x (List.mem_cons_of_mem _ m)
    obtain ⟨c, d⟩ := h e List.mem_cons_self
    refine ⟨by simp [PyData.canLayAll0, c, a], ?_⟩
    simp only [PyData.depthAll]
    omega
theorem shaped_list {es : List PyData} (h : ∀ e ∈ es, Shp e) : SeqAt.shaped (.list es) = true := by
  obtain ⟨a, b⟩ := shp_all h
  unfold SeqAt.shaped
  rw [Bool.and_eq_true]
  refine ⟨by simpa [PyData.canLay0] using a, decide_eq_true ?_⟩
  simp only [PyData.depth]
  omega
mutual
theorem Da.dp {K : PySem.W.Frag} {G H : Hp} (s : Same G H) : ∀ {d : PyData} {v : V}, Da K G v d → d.canLay0 = true → Dp K H v d
  | _, _, .non, _ => .non
  | _, _, .bl b, _ => .bl b
  | _, _, .int i, _ => .int i
  | _, _, .str x, _ => .str x
  | _, _, .lst h t, c => .lst (SqL.of (s _ _ h)) (DaAll.dp s t (by simpa [PyData.canLay0] using c))
  | _, _, .tup h t, c => .tup (sameT s h) (DaAll.dp s t (by simpa [PyData.canLay0] using c))
  | _, _, .dct _ _, c => by simp [PyData.canLay0] at c
theorem DaAll.dp {K : PySem.W.Frag} {G H : Hp} (s : Same G H) : ∀ {ds : List PyData} {vs : List V}, DaAll K G vs ds → PyData.canLayAll0 ds = true → DpAll K H vs ds
  | _, _, .nil, _ => .nil
  | _, _, .cons h t, c => by
    rw [PyData.canLayAll0, Bool.and_eq_true] at c
    exact .cons (Da.dp s h c.1) (DaAll.dp s t c.2)
end
theorem eqv_nilG (es : List PyData) : PyData.eqv (.list es) (.list []) = decide (es = []) := by
  cases es <;> simp [PyData.eqv, PyData.eqvAll]
theorem da_zip {K : PySem.W.Frag} {G : Hp} : ∀ {zs : List (V × PyData)}, (∀ z ∈ zs, Da K G z.1 z.2) → DaAll K G (zs.map Prod.fst) (zs.map Prod.snd)
  | [], _ => .nil
  | z :: zs, h => .cons (h z List.mem_cons_self) (da_zip fun x m => h x (List.mem_cons_of_mem _ m))
theorem erase_map {α β : Type} (f : α → β) : ∀ (ns : List α) (j : Nat), (ns.map f).eraseIdx j = (ns.eraseIdx j).map f
  | [], _ => rfl
  | _ :: _, 0 => rfl
  | n :: ns, j + 1 => congrArg (f n :: ·) (erase_map f ns j)
/-- items in another order; each with what it is -/
def spMixed (K : PySem.W.Frag) : Sp := fun vs H Q _ => ∃ (p l : Addr) (G : Hp) (a : Addr) (zs : List (V × PyData)), vs = [.ref p, .ref a] ∧ Wd p l G H ∧ (SqL K H a (zs.map Prod.fst) ∨ SqT K H a (zs.map Prod.fst)) ∧ zs.length ≤ 1000 ∧ (∀ z ∈ zs, Da K G z.1 z.2 ∧ Shp z.2) ∧
  ∀ (r : Addr) (ys : List (V × PyData)) (G' H' : Hp), Ext p l G H G' H' → H' r = some (.lst (ys.map Prod.fst)) → H r = none → G' r = none → ys.Perm zs → Q (.ref r) H'
def spDeck (K : PySem.W.Frag) : Sp := fun vs H Q _ => ∃ (a : Addr) (ns : List Int), vs = [.ref a] ∧ SqL K H a (ns.map V.int) ∧ ns.length ≤ 63 ∧ ∀ p l H', Wd p l H H' → Q (.ref p) H'
section
variable {P : Program} {w : World} {K : PySem.W.Frag} {mg : Str → Option Value} {base : Heap}
theorem D_l_mixed (T : Txt K mg) : Df P w K mg base 2 "_law_mixed" ["deck", "items"] (spMixed K) := by
  have D_l_draw := D_draw (P := P) (w := w) (base := base) T
  obtain ⟨f, fd, S⟩ := T.d_l_mixed
  refine Df.mk' (k := 1) S sc_l_mixed (fun vs H Q E h => ?_) (fun cdv A outer s H vs Q E hgd hr h => ?_)
  · obtain ⟨p, l, G, a, zs, rfl, _⟩ := h
    rfl
  · obtain ⟨p, l, G, a, zs, rfl, W, aL, lw, dz, k⟩ := h
    have line5 : (5000 : Nat) ≤ sizeLine := by decide
    refine ⟨_, (pss_cons (ps_par (i := 2) (j := 3) (by rfl) sc_l_mixed.nd rfl rfl (by decide) rfl rfl (pa_cons (pe_callTy call_list_of (by rfl) T.b_list (by decide +kernel) (pa_cons (pv 1) pa_nil)) (pa_cons (pe_lst pa_nil) pa_nil)) (by rfl))
      (pss_cons (ps_while PassesOwn.never (pt_cmpR (op_neD hr.units) (pv 2) (pe_lst pa_nil) (nomark _)) (pss_one (ps_expr (pe_bm PySem.F.plainAttrs_list PySem.F.slot_list_append PySem.F.type_list_append mt_append (pv 3) (pa_cons (pe_bm PySem.F.plainAttrs_list PySem.F.slot_list_pop PySem.F.type_list_pop mt_popAt (pv 2) (pa_cons (pe_d D_l_draw hgd hr (pa_cons (pv 0) (pa_cons (pe_callB call_len_seq (by rfl) T.b_len (by decide +kernel) (pa_cons (pv 2) pa_nil)) pa_nil))) pa_nil)) pa_nil)))))
      (pss_one (ps_ret (pv 3))))), ?_⟩
    refine ⟨_, rfl, a, zs.map Prod.fst, rfl, aL, fun q hq => ⟨Nat.zero_le _, fun r hr' => ⟨_, _, rfl, ?_⟩⟩⟩
    have nqr : q ≠ r := fun e => by
      rw [← e, upd_same] at hr'
      cases hr'
    have e1 := W.tmp (o := .lst (zs.map Prod.fst)) hq
    have e2 := e1.w.tmp (o := .lst []) hr'
    have qp := W.np hq
    have ql := W.nl hq
    have rp := e1.w.np hr'
    have rl := e1.w.nl hr'
    have gq : G q = none := W.same.free hq
    have gr : G r = none := e1.w.same.free hr'
    have hr0 : H r = none := by
      cases z : H r with
      | none => rfl
      | some o2 =>
        rw [upd_ne nqr.symm, z] at hr'
        cases hr'
    have E2 := e1.trans W e2
    have q2 : (upd (upd H q (.lst (zs.map Prod.fst))) r (.lst [])) q = some (.lst (zs.map Prod.fst)) := by rw [upd_ne nqr, upd_same]
    have r2 : (upd (upd H q (.lst (zs.map Prod.fst))) r (.lst [])) r = some (.lst (([] : List (V × PyData)).map Prod.fst)) := upd_same
    generalize upd (upd H q (.lst (zs.map Prod.fst))) r (.lst []) = H2 at E2 q2 r2 ⊢
    refine ⟨fun m σ H3 => σ = [some (.ref p), some (.ref a), some (.ref q), some (.ref r)] ∧ ∃ xs ys : List (V × PyData), m = xs.length ∧ (xs ++ ys).Perm zs ∧ Ext p l G H G H3 ∧ H3 q = some (.lst (xs.map Prod.fst)) ∧ H3 r = some (.lst (ys.map Prod.fst)),
      ⟨zs.length, rfl, zs, [], rfl, by rw [List.append_nil], E2, q2, r2⟩, ?_⟩
    rintro m σ H3 ⟨rfl, xs, ys, rfl, pm, E3, q3, r3⟩
    have lxy : xs.length + ys.length = zs.length := by rw [← List.length_append]; exact pm.length_eq
    refine ⟨_, rfl, Nat.zero_le _, fun t ht => ?_⟩
    have nqt : q ≠ t := fun e => by
      rw [← e, q3] at ht
      cases ht
    have nrt : r ≠ t := fun e => by
      rw [← e, r3] at ht
      cases ht
    have E4 := E3.trans W (E3.w.tmp (o := .lst []) ht)
    have q4 : (upd H3 t (.lst [])) q = some (.lst (xs.map Prod.fst)) := by rw [upd_ne nqt]; exact q3
    have r4 : (upd H3 t (.lst [])) r = some (.lst (ys.map Prod.fst)) := by rw [upd_ne nrt]; exact r3
    have xz : ∀ z ∈ xs, Da K G z.1 z.2 ∧ Shp z.2 := fun z m => dz z (pm.mem_iff.mp (List.mem_append_left _ m))
    have sx : ∀ e ∈ xs.map Prod.snd, Shp e := fun e m => by
      obtain ⟨z, mz, rfl⟩ := List.mem_map.mp m
      exact (xz z mz).2
    refine ⟨.list (xs.map Prod.snd), .list [], .lst (SqL.of q4) (DaAll.dp E4.w.same (da_zip fun z m => (xz z m).1) (shp_all sx).1), .lst (SqL.of upd_same) .nil, shaped_list sx, rfl, _, rfl, ?_⟩
    rw [eqv_nilG]
    generalize upd H3 t (.lst []) = H4 at E4 q4 r4 ⊢
    refine iteNot (fun hn => ?_) (fun hn => ?_)
    · have ne : xs ≠ [] := fun e => by
        rw [e] at hn
        cases hn
      have pos : 0 < xs.length := List.length_pos_iff.mpr ne
      refine ⟨fun σ H5 => σ = [some (.ref p), some (.ref a), some (.ref q), some (.ref r)] ∧ ∃ xs2 ys2 : List (V × PyData), xs2.length < xs.length ∧ (xs2 ++ ys2).Perm zs ∧ Ext p l G H G H5 ∧ H5 q = some (.lst (xs2.map Prod.fst)) ∧ H5 r = some (.lst (ys2.map Prod.fst)),
        fun σ H5 ⟨e, xs2, ys2, lt, h⟩ => ⟨xs2.length, lt, e, xs2, ys2, rfl, h⟩, ?_⟩
      refine ⟨_, rfl, .inl ⟨rfl, _, SqL.of r4⟩, _, rfl, .inl ⟨rfl, _, SqL.of q4⟩, _, rfl, _, rfl, q, xs.map Prod.fst, rfl, .inl (SqL.of q4), p, l, G, _, rfl, by rw [List.length_map]; omega, by rw [List.length_map]; omega, E4.w, fun d H5 d0 d1 e5 => ?_⟩
      rw [List.length_map] at d1
      have dn : d.toNat < xs.length := by omega
      have q5 := e5.keep _ _ qp ql q4
      have r5 := e5.keep _ _ rp rl r4
      have pm2 : (xs.eraseIdx d.toNat ++ (ys ++ [xs[d.toNat]])).Perm zs := by
        refine List.Perm.trans ?_ pm
        refine List.Perm.trans ?_ ((erase_perm xs d.toNat dn).append_right ys)
        rw [← List.append_assoc]
        exact List.perm_append_comm
      refine ⟨q, xs.map Prod.fst, d, d.toNat, xs[d.toNat].1, rfl, rfl, q5, by omega, by omega, ?_, by rw [List.getElem?_map, List.getElem?_eq_getElem dn]; rfl, ?_⟩
      · rw [List.length_map]
        have d2 : ¬ d < 0 := by omega
        simp [seqIndex?, d2, d0, d1]
      · have E5 := (E4.trans W e5)
        have W6 := E5.w.own (o := .lst ((xs.map Prod.fst).eraseIdx d.toNat)) qp ql gq
        refine ⟨r, ys.map Prod.fst, _, rfl, rfl, by rw [upd_ne nqr.symm]; exact r5, by rw [List.length_map]; omega, rfl, xs.eraseIdx d.toNat, ys ++ [xs[d.toNat]], ?_, pm2, ?_, ?_, ?_⟩
        · rw [List.length_eraseIdx_of_lt dn]
          omega
        · refine ⟨W6.own rp rl gr, Same.refl G, fun b o n1 n2 hb => ?_, fun b o hb g => g⟩
          rw [upd_ne (ne_of_none hb hr0), upd_ne (ne_of_none hb hq)]
          exact E5.keep b o n1 n2 hb
        · rw [upd_ne nqr, upd_same, erase_map]
        · rw [upd_same, List.map_append]
          rfl
    · have ne : xs = [] := by
        cases xs with
        | nil => rfl
        | cons x xs => cases hn
      subst ne
      exact ⟨_, rfl, k r ys _ H4 E4 r4 hr0 gr pm⟩
theorem D_deck (T : Txt K mg) : Df P w K mg base 1 "_law_deck" ["script"] (spDeck K) := by
  obtain ⟨f, fd, S⟩ := T.d_l_deck
  refine Df.mk' (k := 0) S sc_l_deck (fun vs H Q E h => ?_) (fun cdv A outer s H vs Q E hgd hr h => ?_)
  · obtain ⟨a, ns, rfl, _⟩ := h
    rfl
  · obtain ⟨a, ns, rfl, hS, hz, k⟩ := h
    have hu := hu_of hr
    refine ⟨_, (pss_cons (ps_par (i := 1) (j := 2) (by rfl) sc_l_deck.nd rfl rfl (by decide) rfl rfl (pa_cons (pe_lc (own := [("cell", 3)]) (g := gName 3) (tt := tYes) rfl sc_l_deck.nd (pi_list (pe_slice sl_list (pv 0) po_none (po_some pe_int))) (blkOk_by (own := [("cell", 3)]) (N := ["script", "cells", "stirred", "cell"]) (sc := defScope s_l_deck) (by decide +kernel)) (fun _ _ _ _ _ => pg_name (i := 3) sc_l_deck.nd rfl (.inl rfl)) (fun _ _ _ _ _ => pts_nil) (fun _ _ _ _ _ => (pe_ifExp (pt_cmpR op_ge (pv 3) pe_int (nomark _)) (pe_op op_mul pe_int (pv 3)) (pe_op op_sub (pe_op op_mul (pe_un un_neg pe_int) (pv 3)) pe_int)))) (pa_cons (pe_op op_add pe_int (pe_callB call_len_seq (by rfl) T.b_len (by decide +kernel) (pa_cons (pv 0) pa_nil))) pa_nil)) (by rfl))
      (pss_cons (ps_for PassesOwn.never rfl (pi_list (pv 1)) (pg_name (i := 3) sc_l_deck.nd rfl (.inl rfl))
      (pss_one (ps_set (i := 2) sc_l_deck.nd rfl (.inl rfl) (pe_op op_mod (pe_callTy call_int1 (by rfl) T.b_int (by decide +kernel) (pa_cons (pe_op op_add (pe_op op_mul (pv 2) pe_int) (pv 3)) pa_nil)) pe_int))))
      (pss_one (ps_ret (pe_lst (pa_cons (pe_lc (own := [("cell", 3)]) (g := gName 3) rfl sc_l_deck.nd (pi_list (pv 1)) (blkOk_by (own := [("cell", 3)]) (N := ["script", "cells", "stirred", "cell"]) (sc := defScope s_l_deck) (by decide +kernel)) (fun _ _ _ _ _ => pg_name (i := 3) sc_l_deck.nd rfl (.inl rfl)) (fun _ _ _ _ _ => (pts_one (pt_cmpR op_ge (pv 3) (pe_op op_pow pe_int pe_int) (nomark _)))) (fun _ _ _ _ _ => (pv 3))) (pa_cons (pv 2) (pa_cons pe_int pa_nil)))))))), ?_⟩
    refine ⟨_, rfl, _, rfl, a, _, rfl, hS, fun q hq => ?_⟩
    obtain ⟨ms, e1, e2⟩ := cut_ints ns none (some 63)
    rw [e1]
    have s1 : Same H (upd H q (.lst (ms.map V.int))) := sameAdd hq
    have q1 : (upd H q (.lst (ms.map V.int))) q = some (.lst (ms.map V.int)) := upd_same
    generalize upd H q (.lst (ms.map V.int)) = H1 at s1 q1 ⊢
    refine ⟨q, rfl, ⟨_, SqL.of q1⟩, fun D hD => lc_list (K := K) (a := q) (xs := ms.map V.int) (fun i H3 => Same H1 H3 ∧ ∃ cs : List Int, cs.length = i ∧ H3 D = some (.lst (cs.map V.int))) ⟨sameAdd hD, [], rfl, upd_same⟩ (fun i H3 _ h => SqL.of (h.1 _ _ q1)) ?_ ?_⟩
    · rintro i x H3 hx ⟨s3, cs, rfl, hD3⟩
      have lx := (List.getElem?_eq_some_iff.mp hx).1
      rw [List.length_map] at lx
      obtain ⟨n, _, rfl⟩ := List.mem_map.mp (List.mem_of_getElem? hx)
      refine ⟨rfl, _, rfl, _, _, rfl, rfl, _, rfl, ite2 (fun hc => ?_) (fun hc => ?_)⟩
      · refine ⟨_, rfl, _, _, rfl, rfl, .inl ⟨by decide, by decide⟩, _, hD3, by rw [List.length_map]; exact small1000 (by omega), sameOut s3 hD, cs ++ [2 * n], by rw [List.length_append]; rfl, by rw [upd_same, List.map_append]; rfl⟩
      · refine ⟨_, rfl, _, rfl, _, _, rfl, rfl, .inl ⟨by decide, by decide⟩, _, _, rfl, rfl, _, hD3, by rw [List.length_map]; exact small1000 (by omega), sameOut s3 hD, cs ++ [-2 * n - 1], by rw [List.length_append]; rfl, by rw [upd_same, List.map_append]; rfl⟩
    · rintro H3 ⟨s3, cs, lc, hD3⟩
      rw [List.length_map] at lc
      refine ⟨_, rfl, a, _, rfl, .inl ((s1.trans s3).seq hS), _, _, rfl, rfl, _, _, rfl, ?_⟩
      refine ⟨_, rfl, D, rfl, ⟨_, SqL.of hD3⟩, for_list (K := K) (a := D) (xs := cs.map V.int) (fun i σ H4 => ∃ m c, σ = [some (.ref a), some (.ref D), some (.int m), c] ∧ (0 < i → 0 ≤ m ∧ m < 4294967291) ∧ (i = 0 → 0 ≤ m ∧ m < 1000000) ∧ H4 = H3)
        ⟨_, none, rfl, fun z => absurd z (Nat.lt_irrefl _), fun _ => ⟨by omega, by rw [List.length_map]; omega⟩, rfl⟩ (fun i σ H4 _ ⟨_, _, _, _, _, h⟩ => by rw [h]; exact SqL.of hD3) ?_ ?_⟩
      · rintro i x σ H4 hx ⟨m, c, rfl, b1, b2, rfl⟩
        obtain ⟨n, _, rfl⟩ := List.mem_map.mp (List.mem_of_getElem? hx)
        refine ⟨_, rfl, _, _, rfl, rfl, .inr ⟨by decide, by decide⟩, _, rfl, _, _, rfl, rfl, .inl ⟨_, rfl, _, _, rfl, rfl, by show (0 : Int) < 4294967291; decide, ?_⟩⟩
        exact ⟨_, _, rfl, fun _ => ⟨Int.emod_nonneg _ (by decide), Int.emod_lt_of_pos _ (by decide)⟩, fun z => absurd z (Nat.succ_ne_zero i), rfl⟩
      · rintro σ H4 ⟨m, c, rfl, b1, b2, rfl⟩
        have bm : 0 ≤ m ∧ m < 4294967291 := by
          by_cases h0 : 0 < (cs.map V.int).length
          · exact b1 h0
          · have := b2 (by omega)
            omega
        refine ⟨_, rfl, D, rfl, ⟨_, SqL.of hD3⟩, fun L hL => lc_list (K := K) (a := D) (xs := cs.map V.int) (fun i H5 => Same H4 H5 ∧ ∃ gs : List Int, gs.length ≤ i ∧ H5 L = some (.lst (gs.map V.int))) ⟨sameAdd hL, [], Nat.le_refl _, upd_same⟩ (fun i H5 _ h => SqL.of (h.1 _ _ hD3)) ?_ ?_⟩
        · rintro i x H5 hx ⟨s5, gs, lg, hL5⟩
          have lx := (List.getElem?_eq_some_iff.mp hx).1
          rw [List.length_map] at lx
          obtain ⟨n, _, rfl⟩ := List.mem_map.mp (List.mem_of_getElem? hx)
          refine ⟨rfl, _, rfl, _, _, rfl, rfl, ⟨by decide, by decide, by decide⟩, _, _, rfl, rfl, _, rfl, ite2 (fun hc => ?_) (fun hc => ?_)⟩
          · exact ⟨_, rfl, _, hL5, by rw [List.length_map]; exact small1000 (by omega), sameOut s5 hL, gs ++ [n], by rw [List.length_append, List.length_singleton]; omega, by rw [upd_same, List.map_append]; rfl⟩
          · exact ⟨s5, gs, by omega, hL5⟩
        · rintro H5 ⟨s5, gs, lg, hL5⟩
          rw [List.length_map] at lg
          have s05 : Same H H5 := (s1.trans s3).trans s5
          have hL0 : H L = none := (s1.trans s3).free hL
          refine ⟨_, rfl, by show 3 ≤ sizeLine; decide, fun p hp => k p L _ ⟨sameOut s05 (s05.free hp), s05.free hp, hL0, ⟨m, 0, bm.1, bm.2, upd_same⟩, ⟨gs, by omega, ?_⟩⟩⟩
          rw [upd_ne (ne_of_none hL5 hp)]
          exact hL5
end
end L2.Hx

/-! Cases over plain lists: lots and arrows numbered as they are met. -/
namespace L2.Hx
open PySem PySem.Spec PyProof.Rows
def msr (ks S : List Int) : Nat := (ks.filter fun k => !decide (k ∈ S)).length
theorem msr_le (a : Int) (S : List Int) : ∀ ks : List Int, msr ks (S ++ [a]) ≤ msr ks S
  | [] => Nat.le_refl _
  | k :: ks => by
    have ih := msr_le a S ks
    unfold msr at ih ⊢
    rw [List.filter_cons, List.filter_cons]
    by_cases h : k ∈ S
    · rw [decide_eq_true h, decide_eq_true (List.mem_append_left [a] h)]
      exact ih
    · rw [decide_eq_false h]
      split
      · rw [if_pos (show (!false) = true from rfl), List.length_cons, List.length_cons]
        omega
      · rw [if_pos (show (!false) = true from rfl), List.length_cons]
        omega
theorem msr_lt {a : Int} {S : List Int} : ∀ {ks : List Int}, a ∈ ks → ¬ a ∈ S → msr ks (S ++ [a]) < msr ks S
  | [], h, _ => absurd h List.not_mem_nil
  | k :: ks, h, hn => by
    have le := msr_le a S ks
    by_cases e : a = k
    · subst e
      unfold msr at le ⊢
      rw [List.filter_cons, List.filter_cons, decide_eq_false hn, decide_eq_true (List.mem_append_right S List.mem_cons_self), if_pos (show (!false) = true from rfl), if_neg (show ¬ (!true) = true from Bool.false_ne_true), List.length_cons]
      omega
    · have hk : a ∈ ks := (List.mem_cons.mp h).resolve_left e
      have ih := msr_lt hk hn
      unfold msr at ih ⊢
      rw [List.filter_cons, List.filter_cons]
      by_cases h : k ∈ S
      · rw [decide_eq_true h, decide_eq_true (List.mem_append_left [a] h)]
        exact ih
      · rw [decide_eq_false h]
        split
        · rw [if_pos (show (!false) = true from rfl), List.length_cons, List.length_cons]
          omega
        · rw [if_pos (show (!false) = true from rfl), List.length_cons]
          omega
/-- the road from a to e over the keys, behind those that are gone -/
def roadF (ks : List Int) (M : Int → Int) (e a : Int) (r : List Int) : Option (List Int) :=
  if a = e then some r else if h : a ∈ ks ∧ ¬ a ∈ r then roadF ks M e (M a) (r ++ [a]) else none
termination_by msr ks r
decreasing_by exact msr_lt h.1 h.2
/-- all that is come to from a, behind those that are met -/
def reachF (ks : List Int) (M : Int → Int) (a : Int) (S : List Int) : List Int :=
  if h : a ∈ ks ∧ ¬ a ∈ S then reachF ks M (M a) (S ++ [a]) else S
termination_by msr ks S
decreasing_by exact msr_lt h.1 h.2
theorem roadF_end {ks : List Int} {M : Int → Int} {e a : Int} {r : List Int} (h : a = e) : roadF ks M e a r = some r := by
  rw [roadF, if_pos h]
theorem roadF_on {ks : List Int} {M : Int → Int} {e a : Int} {r : List Int} (h : ¬ a = e) (h1 : a ∈ ks) (h2 : ¬ a ∈ r) : roadF ks M e a r = roadF ks M e (M a) (r ++ [a]) := by
  rw [roadF, if_neg h, dif_pos ⟨h1, h2⟩]
theorem roadF_no {ks : List Int} {M : Int → Int} {e a : Int} {r : List Int} (h : ¬ a = e) (h1 : ¬ (a ∈ ks ∧ ¬ a ∈ r)) : roadF ks M e a r = none := by
  rw [roadF, if_neg h, dif_neg h1]
theorem reachF_on {ks : List Int} {M : Int → Int} {a : Int} {S : List Int} (h1 : a ∈ ks) (h2 : ¬ a ∈ S) : reachF ks M a S = reachF ks M (M a) (S ++ [a]) := by
  rw [reachF, dif_pos ⟨h1, h2⟩]
theorem reachF_no {ks : List Int} {M : Int → Int} {a : Int} {S : List Int} (h : ¬ (a ∈ ks ∧ ¬ a ∈ S)) : reachF ks M a S = S := by
  rw [reachF, dif_neg h]
/-- each once, and all of them keys -/
def Once (ks T : List Int) : Prop := T.Nodup ∧ ∀ x ∈ T, x ∈ ks
theorem Once.nil {ks : List Int} : Once ks [] := ⟨List.nodup_nil, fun x h => absurd h List.not_mem_nil⟩
theorem Once.snoc {ks T : List Int} {a : Int} (h : Once ks T) (h1 : a ∈ ks) (h2 : ¬ a ∈ T) : Once ks (T ++ [a]) := by
  refine ⟨List.nodup_append.mpr ⟨h.1, by simp, fun x hx y hy => ?_⟩, fun x hx => ?_⟩
  · rw [List.mem_singleton.mp hy]
    intro e
    rw [e] at hx
    exact h2 hx
  · rcases List.mem_append.mp hx with hx | hx
    · exact h.2 x hx
    · rw [List.mem_singleton.mp hx]
      exact h1
theorem once_len : ∀ {T ks : List Int}, Once ks T → T.length ≤ ks.length
  | [], _, _ => Nat.zero_le _
  | t :: T, ks, h => by
    have hc := List.nodup_cons.mp h.1
    have hm : t ∈ ks := h.2 t List.mem_cons_self
    have ih : T.length ≤ (ks.erase t).length := once_len ⟨hc.2, fun x hx => (List.mem_erase_of_ne (fun e => hc.1 (by rw [← e]; exact hx))).mpr (h.2 x (List.mem_cons_of_mem _ hx))⟩
    rw [List.length_erase_of_mem hm] at ih
    have pos : 0 < ks.length := List.length_pos_of_mem hm
    rw [List.length_cons]
    omega
theorem roadF_once {ks : List Int} {M : Int → Int} {e : Int} (a : Int) (r : List Int) {T : List Int} (h : Once ks r) (q : roadF ks M e a r = some T) : Once ks T := by
  by_cases h1 : a = e
  · rw [roadF_end h1] at q
    cases q
    exact h
  · by_cases h2 : a ∈ ks ∧ ¬ a ∈ r
    · rw [roadF_on h1 h2.1 h2.2] at q
      exact roadF_once (M a) (r ++ [a]) (h.snoc h2.1 h2.2) q
    · rw [roadF_no h1 h2] at q
      cases q
termination_by msr ks r
decreasing_by exact msr_lt h2.1 h2.2
theorem reachF_once {ks : List Int} {M : Int → Int} (a : Int) (S : List Int) (h : Once ks S) : Once ks (reachF ks M a S) := by
  by_cases h2 : a ∈ ks ∧ ¬ a ∈ S
  · rw [reachF_on h2.1 h2.2]
    exact reachF_once (M a) (S ++ [a]) (h.snoc h2.1 h2.2)
  · rw [reachF_no h2]
    exact h
termination_by msr ks S
decreasing_by exact msr_lt h2.1 h2.2
inductive Rch (ks : List Int) (M : Int → Int) : Int → Int → Prop
  | here {a : Int} : a ∈ ks → Rch ks M a a
  | step {a x : Int} : a ∈ ks → Rch ks M (M a) x → Rch ks M a x
section
variable {ks : List Int} {M : Int → Int}
theorem Rch.start {a x : Int} (h : Rch ks M a x) : a ∈ ks := by
  cases h with
  | here h => exact h
  | step h _ => exact h
theorem Rch.key {a x : Int} (h : Rch ks M a x) : x ∈ ks := by
  induction h with
  | here h => exact h
  | step _ _ ih => exact ih
def Cld (ks : List Int) (M : Int → Int) (S : List Int) : Prop := ∀ k ∈ S, M k ∈ ks → M k ∈ S
theorem reach_all (a : Int) (S : List Int) (h : ∀ k ∈ S, M k ∈ ks → M k ∈ S ∨ M k = a) :
    Cld ks M (reachF ks M a S) ∧ (∀ x ∈ S, x ∈ reachF ks M a S) ∧ (a ∈ ks → a ∈ reachF ks M a S) ∧ ∀ x ∈ reachF ks M a S, x ∈ S ∨ Rch ks M a x := by
  by_cases h2 : a ∈ ks ∧ ¬ a ∈ S
  · rw [reachF_on h2.1 h2.2]
    have ih := reach_all (M a) (S ++ [a]) (fun k m hk => by
      rcases List.mem_append.mp m with m | m
      · rcases h k m hk with q | q
        · exact .inl (List.mem_append_left _ q)
        · exact .inl (List.mem_append_right _ (by rw [q]; exact List.mem_cons_self))
      · rw [List.mem_singleton.mp m]
        exact .inr rfl)
    refine ⟨ih.1, fun x m => ih.2.1 x (List.mem_append_left _ m), fun _ => ih.2.1 a (List.mem_append_right _ List.mem_cons_self), fun x m => ?_⟩
    rcases ih.2.2.2 x m with m | r
    · rcases List.mem_append.mp m with m | m
      · exact .inl m
      · rw [List.mem_singleton.mp m]
        exact .inr (.here h2.1)
    · exact .inr (.step h2.1 r)
  · rw [reachF_no h2]
    refine ⟨fun k m hk => ?_, fun x m => m, fun ha => Decidable.byContradiction fun n => h2 ⟨ha, n⟩, fun x m => .inl m⟩
    rcases h k m hk with q | q
    · exact q
    · rw [q] at hk ⊢
      exact Decidable.byContradiction fun n => h2 ⟨hk, n⟩
termination_by msr ks S
decreasing_by exact msr_lt h2.1 h2.2
end
abbrev Hm := List (Str × Int)
abbrev Wy := Addr × Str × Int
abbrev Ws := List (Int × Wy)
abbrev Ar := Int × Str × Int
abbrev Cs := List (List Str) × List Ar
def endW (ws : Ws) (k : Int) : Int := ((getA ws k).map fun y => y.2.2).getD 0
theorem endW_of {ws : Ws} {k : Int} {y : Wy} (h : getA ws k = some y) : endW ws k = y.2.2 := by
  unfold endW
  rw [h]
  rfl
/-- the names of a lot, in their order -/
def lotF (ys : List Str) (hm : Hm) (s : Int) : List Str := ys.filter fun n => decide (n ≠ "nil") && decide (getA hm n = some s)
theorem mem_lotF {ys : List Str} {hm : Hm} {s : Int} {n : Str} : n ∈ lotF ys hm s ↔ n ∈ ys ∧ n ≠ "nil" ∧ getA hm n = some s := by
  unfold lotF
  rw [List.mem_filter, Bool.and_eq_true, decide_eq_true_eq, decide_eq_true_eq]
theorem lotF_snoc (ys : List Str) (hm : Hm) (s : Int) (n : Str) : lotF (ys ++ [n]) hm s = lotF ys hm s ++ if n ≠ "nil" ∧ getA hm n = some s then [n] else [] := by
  unfold lotF
  rw [List.filter_append, List.filter_cons, List.filter_nil]
  by_cases h : n ≠ "nil" ∧ getA hm n = some s
  · rw [if_pos h, if_pos (by rw [decide_eq_true h.1, decide_eq_true h.2]; rfl)]
  · rw [if_neg h, if_neg (fun z => h (by rw [Bool.and_eq_true, decide_eq_true_eq, decide_eq_true_eq] at z; exact z))]
/-- each of more put behind, if it is not there yet -/
def addAll (o more : List Int) : List Int := more.foldl (fun o e => if e ∈ o then o else o ++ [e]) o
theorem addAll_snoc (o more : List Int) (e : Int) : addAll o (more ++ [e]) = if e ∈ addAll o more then addAll o more else addAll o more ++ [e] := by
  unfold addAll
  rw [List.foldl_append]
  rfl
theorem mem_addAll {x : Int} : ∀ (more o : List Int), x ∈ addAll o more ↔ x ∈ o ∨ x ∈ more
  | [], o => by
    show x ∈ o ↔ _
    simp
  | e :: more, o => by
    show x ∈ addAll (if e ∈ o then o else o ++ [e]) more ↔ _
    rw [mem_addAll more, List.mem_cons]
    by_cases h : e ∈ o
    · rw [if_pos h]
      exact ⟨fun q => q.elim .inl fun z => .inr (.inr z), fun q => q.elim .inl fun z => z.elim (fun y => .inl (by rw [y]; exact h)) .inr⟩
    · rw [if_neg h, List.mem_append, List.mem_singleton, or_assoc]
theorem addAll_nodup : ∀ (more : List Int) {o : List Int}, o.Nodup → (addAll o more).Nodup
  | [], _, h => h
  | e :: more, o, h => by
    refine addAll_nodup more (o := if e ∈ o then o else o ++ [e]) ?_
    split
    · exact h
    · rename_i n
      exact List.nodup_append.mpr ⟨h, by simp, fun a ha b hb z => n (by rw [List.mem_singleton.mp hb] at z; rw [← z]; exact ha)⟩
theorem addAll_pre : ∀ (more o : List Int), ∃ t, addAll o more = o ++ t
  | [], o => ⟨[], by rw [List.append_nil]; rfl⟩
  | e :: more, o => by
    obtain ⟨t, ht⟩ := addAll_pre more (if e ∈ o then o else o ++ [e])
    show ∃ t, addAll (if e ∈ o then o else o ++ [e]) more = o ++ t
    rw [ht]
    split
    · exact ⟨t, rfl⟩
    · exact ⟨[e] ++ t, by rw [List.append_assoc]⟩
theorem addAll_len : ∀ (more o : List Int), (addAll o more).length ≤ o.length + more.length
  | [], o => Nat.le_refl _
  | e :: more, o => by
    show (addAll (if e ∈ o then o else o ++ [e]) more).length ≤ _
    rw [List.length_cons]
    split
    · have h := addAll_len more o
      omega
    · have h := addAll_len more (o ++ [e])
      rw [List.length_append, List.length_singleton] at h
      omega
/-- one begin gone along -/
def alongF (ws : Ws) (o : List Int) (b : Int) : List Int := addAll o ((reachF (keysA ws) (endW ws) b []).map (endW ws))
def orderF (ws : Ws) (bs o : List Int) : List Int := bs.foldl (alongF ws) o
theorem orderF_snoc (ws : Ws) (bs o : List Int) (b : Int) : orderF ws (bs ++ [b]) o = alongF ws (orderF ws bs o) b := by
  unfold orderF
  rw [List.foldl_append]
  rfl
theorem mem_orderF {ws : Ws} {x : Int} : ∀ (bs o : List Int), x ∈ orderF ws bs o ↔ x ∈ o ∨ ∃ b ∈ bs, x ∈ (reachF (keysA ws) (endW ws) b []).map (endW ws)
  | [], o => by
    show x ∈ o ↔ _
    simp
  | b :: bs, o => by
    show x ∈ orderF ws bs (alongF ws o b) ↔ _
    rw [mem_orderF bs]
    unfold alongF
    rw [mem_addAll, or_assoc]
    simp
theorem orderF_nodup (ws : Ws) : ∀ (bs : List Int) {o : List Int}, o.Nodup → (orderF ws bs o).Nodup
  | [], _, h => h
  | b :: bs, _, h => orderF_nodup ws bs (addAll_nodup _ h)
theorem orderF_pre (ws : Ws) : ∀ (bs o : List Int), ∃ t, orderF ws bs o = o ++ t
  | [], o => ⟨[], by rw [List.append_nil]; rfl⟩
  | b :: bs, o => by
    obtain ⟨t, ht⟩ := orderF_pre ws bs (alongF ws o b)
    obtain ⟨u, hu⟩ := addAll_pre ((reachF (keysA ws) (endW ws) b []).map (endW ws)) o
    refine ⟨u ++ t, ?_⟩
    show orderF ws bs (alongF ws o b) = _
    rw [ht]
    unfold alongF
    rw [hu, List.append_assoc]
/-- where all that is met leads, is met -/
theorem orderF_closed {ws : Ws} {bs : List Int} (h0 : ¬ (0 : Int) ∈ keysA ws) : ∀ y ∈ orderF ws bs (0 :: bs), y ∈ keysA ws → endW ws y ∈ orderF ws bs (0 :: bs) := fun y hy hk => by
  have go : ∀ b, b ∈ bs → ∀ x ∈ reachF (keysA ws) (endW ws) b [], endW ws x ∈ orderF ws bs (0 :: bs) := fun b hb x hx => (mem_orderF bs _).mpr (.inr ⟨b, hb, List.mem_map.mpr ⟨x, hx, rfl⟩⟩)
  have ra := fun b => reach_all (ks := keysA ws) (M := endW ws) b [] (fun k m => absurd m List.not_mem_nil)
  rcases (mem_orderF bs _).mp hy with m | ⟨b, hb, m⟩
  · rcases List.mem_cons.mp m with rfl | m
    · exact absurd hk h0
    · exact go y m y ((ra y).2.2.1 hk)
  · obtain ⟨x, hx, rfl⟩ := List.mem_map.mp m
    exact go b hb _ ((ra b).1 x hx hk)
theorem orderF_sub {ws : Ws} {bs o : List Int} {S : List Int} (h1 : ∀ x ∈ o, x ∈ S) (h2 : ∀ k ∈ keysA ws, endW ws k ∈ S) : ∀ x ∈ orderF ws bs o, x ∈ S := fun x m => by
  rcases (mem_orderF bs o).mp m with m | ⟨b, _, m⟩
  · exact h1 x m
  · obtain ⟨y, hy, rfl⟩ := List.mem_map.mp m
    exact h2 y ((reachF_once b [] Once.nil).2 y hy)
/-- what is asked of the first lots -/
structure Begins (ys : List Str) (hm : Hm) (bs : List Int) : Prop where
  nd : bs.Nodup
  mem : ∀ s, s ∈ bs ↔ s ≠ 0 ∧ lotF ys hm s ≠ []
  srt : (bs.map fun s => (lotF ys hm s, s)).Pairwise fun p q => PySem.W.dataLe false (fun q : List Str × Int => PyData.tuple [.tuple (q.1.map .str), .int q.2]) p q = true
theorem dataLe_srt {β : Type} (enc : β → PyData) (l : List β) : (l.mergeSort (PySem.W.dataLe false enc)).Pairwise fun p q => PySem.W.dataLe false enc p q = true :=
  PySem.W.sort_pairwise (PySem.W.sortLe_total (PyProof.Rows.listOrd PyProof.Rows.itemOrd) false fun b => PySem.W.keyToks (enc b)) l
abbrev encB (q : List Str × Int) : PyData := .tuple [.tuple (q.1.map .str), .int q.2]
theorem begins_of {ys : List Str} {hm : Hm} {ks : List Int} (nd : ks.Nodup) (mem : ∀ s, s ∈ ks ↔ s ≠ 0 ∧ lotF ys hm s ≠ []) : Begins ys hm (((ks.map fun s => (lotF ys hm s, s)).mergeSort (PySem.W.dataLe false encB)).map Prod.snd) := by
  have pm := List.mergeSort_perm (ks.map fun s => (lotF ys hm s, s)) (PySem.W.dataLe false encB)
  have p2 := pm.map Prod.snd
  have e : (ks.map fun s => (lotF ys hm s, s)).map Prod.snd = ks := by
    rw [List.map_map]
    exact List.map_id'' (fun _ => rfl) ks
  rw [e] at p2
  refine ⟨p2.nodup_iff.mpr nd, fun s => (p2.mem_iff).trans (mem s), ?_⟩
  rw [List.map_map]
  have e2 : ((ks.map fun s => (lotF ys hm s, s)).mergeSort (PySem.W.dataLe false encB)).map ((fun s => (lotF ys hm s, s)) ∘ Prod.snd) = (ks.map fun s => (lotF ys hm s, s)).mergeSort (PySem.W.dataLe false encB) := by
    conv => rhs; rw [← List.map_id ((ks.map fun s => (lotF ys hm s, s)).mergeSort (PySem.W.dataLe false encB))]
    refine List.map_congr_left fun q m => ?_
    obtain ⟨s, _, rfl⟩ := List.mem_map.mp (pm.mem_iff.mp m)
    rfl
  rw [e2]
  exact dataLe_srt encB _
theorem paired_maps {α β γ δ : Type} {F : α → β → Prop} {G : γ → δ → Prop} {f : α → γ} {g : β → δ} (h : ∀ a b, F a b → G (f a) (g b)) : ∀ {as : List α} {bs : List β}, Paired F as bs → Paired G (as.map f) (bs.map g)
  | _, _, .nil => .nil
  | _, _, .cons r t => .cons (h _ _ r) (paired_maps h t)
theorem paired_at {α β : Type} {F : α → β → Prop} : ∀ {as : List α} {bs : List β} {i : Nat} {a : α}, Paired F as bs → as[i]? = some a → ∃ b, bs[i]? = some b ∧ F a b
  | _, _, _, _, .nil, e => by cases e
  | _, _, 0, _, .cons r _, e => by
    cases e
    exact ⟨_, rfl, r⟩
  | _, _, i + 1, _, .cons _ t, e => paired_at (i := i) t e
theorem paired_snoc {α β : Type} {F : α → β → Prop} {a : α} {b : β} : ∀ {as : List α} {bs : List β}, Paired F as bs → F a b → Paired F (as ++ [a]) (bs ++ [b])
  | _, _, .nil, h => .cons h .nil
  | _, _, .cons r t, h => .cons r (paired_snoc t h)
theorem paired_mpL {α β : Type} {F G : α → β → Prop} : ∀ {xs : List α} {ys : List β}, Paired F xs ys → (∀ a b, F a b → G a b) → Paired G xs ys
  | _, _, .nil, _ => .nil
  | _, _, .cons r t, h => .cons (h _ _ r) (paired_mpL t h)
abbrev lotsD (lots : List (List Str)) : PyData := .tuple (lots.map fun l => .tuple (l.map .str))
abbrev arD (a : Ar) : PyData := .tuple [.int a.1, .str a.2.1, .int a.2.2]
abbrev caseD (c : Cs) : PyData := .tuple [lotsD c.1, .tuple (c.2.map arD)]
def ixO (o : List Int) (s : Int) : Int := (o.idxOf s : Int)
def arsF (ws : Ws) (o : List Int) : List Ar := (ws.map fun q => (ixO o q.1, q.2.2.1, ixO o q.2.2.2)).mergeSort (PySem.W.dataLe false arD)
def numF (ys : List Str) (hm : Hm) (ws : Ws) (bs : List Int) : Option Cs :=
  if ∀ k ∈ keysA ws, k ∈ orderF ws bs (0 :: bs) then some ((orderF ws bs (0 :: bs)).map (lotF ys hm), arsF ws (orderF ws bs (0 :: bs))) else none
/-- lots are a parting of names -/
theorem flat_perm (ys : List Str) (hm : Hm) : ∀ {o : List Int}, o.Nodup → ((o.map (lotF ys hm)).flatten).Perm (ys.filter fun n => decide (n ≠ "nil") && decide (∃ s ∈ o, getA hm n = some s))
  | [], _ => by
    rw [List.map_nil, List.flatten_nil, List.filter_eq_nil_iff.mpr]
    intro n _ h
    rw [Bool.and_eq_true, decide_eq_true_eq, decide_eq_true_eq] at h
    obtain ⟨_, s, m, _⟩ := h
    exact absurd m List.not_mem_nil
  | s :: o, h => by
    obtain ⟨n1, n2⟩ := List.nodup_cons.mp h
    have ih := flat_perm ys hm n2
    rw [List.map_cons, List.flatten_cons]
    refine ((List.Perm.refl _).append ih).trans ?_
    have e := List.filter_append_perm (fun n => decide (getA hm n = some s)) (ys.filter fun n => decide (n ≠ "nil") && decide (∃ t ∈ s :: o, getA hm n = some t))
    refine List.Perm.trans (List.Perm.of_eq ?_) e
    rw [List.filter_filter, List.filter_filter]
    congr 1
    · unfold lotF
      refine List.filter_congr fun n _ => ?_
      by_cases a : getA hm n = some s
      · have : ∃ t ∈ s :: o, getA hm n = some t := ⟨s, List.mem_cons_self, a⟩
        simp [a, this]
      · simp [a]
    · refine List.filter_congr fun n _ => ?_
      by_cases a : getA hm n = some s
      · have : ¬ ∃ t ∈ o, getA hm n = some t := fun ⟨t, m, q⟩ => n1 (by rw [a] at q; rw [Option.some.inj q]; exact m)
        simp [a, n1]
      · have : (∃ t ∈ s :: o, getA hm n = some t) ↔ ∃ t ∈ o, getA hm n = some t := ⟨fun ⟨t, m, q⟩ => (List.mem_cons.mp m).elim (fun z => absurd (by rw [← z]; exact q) a) fun m => ⟨t, m, q⟩, fun ⟨t, m, q⟩ => ⟨t, List.mem_cons_of_mem _ m, q⟩⟩
        simp [a, this]
end L2.Hx

/-! Short words for what the defs ask. -/
namespace L2.Hx
open PySem PySem.Spec PyProof.Rows
theorem dp_strs {K : PySem.W.Frag} {H : Hp} : ∀ ns : List Str, DpAll K H (ns.map V.str) (ns.map PyData.str)
  | [] => .nil
  | n :: ns => .cons (.str n) (dp_strs ns)
theorem alike_strs : ∀ xs ys : List Str, PySem.W.alikeAll (xs.map PyData.str) (ys.map PyData.str) = true
  | [], _ => by simp [PySem.W.alikeAll]
  | _ :: _, [] => by simp [PySem.W.alikeAll]
  | x :: xs, y :: ys => by
    rw [List.map_cons, List.map_cons, PySem.W.alikeAll, alike_strs xs ys]
    simp [PySem.W.alike]
theorem depth_strs : ∀ xs : List Str, PyData.depthAll (xs.map PyData.str) = 0
  | [] => by simp [PyData.depthAll]
  | x :: xs => by
    rw [List.map_cons, PyData.depthAll, depth_strs xs]
    simp [PyData.depth]
theorem if_yes {c : Bool} {A B : Prop} (h : c = true) (a : A) : if c = true then A else B := by
  rw [h]
  exact a
theorem iteD {c A B : Prop} [Decidable c] (h1 : c → A) (h2 : ¬ c → B) : if decide c = true then A else B := iteB (fun h => h1 (of_decide_eq_true h)) fun h => h2 (of_decide_eq_false h)
theorem iteND {c A B : Prop} [Decidable c] (h1 : ¬ c → A) (h2 : c → B) : if (!decide c) = true then A else B := iteNot (fun h => h1 (of_decide_eq_false h)) fun h => h2 (of_decide_eq_true h)
theorem cut1 {xs : List V} (h : 1 ≤ xs.length) : cutV xs (some 1) none = xs.drop 1 := by
  have e : HT.sIx xs.length 0 (some 1) = 1 := by
    have := HT.sIx_nat xs.length 0 1
    rw [Nat.min_eq_left h] at this
    exact this
  unfold cutV
  rw [HT.sIx_none, e, List.take_of_length_le]
  rw [List.length_drop]
  exact Nat.le_refl _
theorem inV_int {a : Int} : ∀ T : List Int, inV (.int a) (T.map V.int) = decide (a ∈ T)
  | [] => rfl
  | t :: T => by
    have ih := inV_int (a := a) T
    show (eqV (.int t) (.int a) || inV (.int a) (T.map V.int)) = _
    rw [ih]
    have e : eqV (.int t) (.int a) = decide (a = t) := by
      show (t == a) = _
      by_cases h : a = t
      · rw [h, decide_eq_true rfl]
        exact beq_self_eq_true t
      · rw [decide_eq_false h]
        exact beq_eq_false_iff_ne.mpr fun q => h q.symm
    rw [e]
    by_cases h1 : a = t
    · have hm : a ∈ t :: T := by
        rw [h1]
        exact List.mem_cons_self
      rw [decide_eq_true h1, decide_eq_true hm]
      rfl
    · by_cases h2 : a ∈ T
      · rw [decide_eq_true h2, decide_eq_true (List.mem_cons_of_mem _ h2), Bool.or_true]
      · rw [decide_eq_false h1, decide_eq_false h2, decide_eq_false fun q => (List.mem_cons.mp q).elim h1 h2]
        rfl
theorem flat_ints : ∀ T : List Int, (T.map V.int).all flatV = true
  | [] => rfl
  | t :: T => by
    rw [List.map_cons, List.all_cons, flat_ints T]
    rfl
theorem catA_one {K : PySem.W.Frag} {H : Hp} {Q : VK} {la t1 : Addr} {xs : List V} {y : V} (h1 : SqT K H la xs) (h2 : SqT K H t1 [y]) (hz : xs.length + 1 ≤ sizeLine)
    (k : ∀ r H', Same H H' → (r = t1 ∧ xs = [] ∧ H' = H) ∨ (H r = none ∧ H' r = some (.tup (xs ++ [y]))) → Q (.ref r) H') : rCatA K (.ref la) (.ref t1) H Q := by
  refine ⟨la, t1, _, _, rfl, rfl, h1, h2, hz, fun e => ?_, fun e e2 => ?_, fun e e2 q hq => ?_⟩
  · exact k _ _ (Same.refl _) (.inl ⟨rfl, e, rfl⟩)
  · cases e2
  · exact k _ _ (sameAdd hq) (.inr ⟨hq, upd_same⟩)
theorem isA {κ α : Type} [DecidableEq κ] {f : α → V} {l : List (κ × α)} {k : κ} : ((getA l k).map f).isSome = decide (k ∈ keysA l) := by
  by_cases h : k ∈ keysA l
  · obtain ⟨v, e, _⟩ := getA_in h
    rw [e, decide_eq_true h]
    rfl
  · rw [getA_out h, decide_eq_false h]
    rfl
theorem inV_str {a : Str} : ∀ T : List Str, inV (.str a) (T.map V.str) = decide (a ∈ T)
  | [] => rfl
  | t :: T => by
    have ih := inV_str (a := a) T
    show (eqV (.str t) (.str a) || inV (.str a) (T.map V.str)) = _
    rw [ih]
    have e : eqV (.str t) (.str a) = decide (a = t) := by
      show (t == a) = _
      by_cases h : a = t
      · rw [h, decide_eq_true rfl]
        exact beq_self_eq_true t
      · rw [decide_eq_false h]
        exact beq_eq_false_iff_ne.mpr fun q => h q.symm
    rw [e]
    by_cases h : a = t
    · rw [decide_eq_true h, Bool.true_or, decide_eq_true (by rw [h]; exact List.mem_cons_self)]
    · rw [decide_eq_false h, Bool.false_or]
      by_cases h2 : a ∈ T
      · rw [decide_eq_true h2, decide_eq_true (List.mem_cons_of_mem _ h2)]
      · rw [decide_eq_false h2, decide_eq_false fun q => (List.mem_cons.mp q).elim h h2]
theorem flat_strs : ∀ T : List Str, (T.map V.str).all flatV = true
  | [] => rfl
  | t :: T => by
    rw [List.map_cons, List.all_cons, flat_strs T]
    rfl
theorem ord_len {ws : Ws} {bs o : List Int} (nd : o.Nodup) (h : ∀ x ∈ o, x ∈ (0 :: bs) ++ (keysA ws).map (endW ws)) : o.length ≤ 1 + bs.length + ws.length := by
  have := once_len (T := o) (ks := (0 :: bs) ++ (keysA ws).map (endW ws)) ⟨nd, h⟩
  unfold keysA at this
  simp only [List.length_append, List.length_cons, List.length_map] at this
  omega
section
variable {σ : St} {H : Hp} {Q : VK} {D : Ends}
theorem eSeq {a b : TS} : tSeq a b D σ H = a { D with nx := b D } σ H := rfl
theorem eYes {Q : Bool → Hp → Prop} : tYes σ H Q = Q true H := rfl
theorem eIfS {c : TT} {t u : TS} : tIfS c t u D σ H = c σ H (fun b H1 => if b = true then t D σ H1 else u D σ H1) := rfl
theorem eTest {t : TE} {Q : Bool → Hp → Prop} : tTest t σ H Q = t σ H (fun x H' => ∃ k, x = .bl k ∧ Q k H') := rfl
theorem eOp {r : R2} {ta tb : TE} : tOp r ta tb σ H Q = ta σ H (fun x H1 => tb σ H1 fun y H2 => r x y H2 Q) := rfl
theorem eAsg {te : TE} {g : TG} : tAsg te g D σ H = te σ H (fun x H1 => g x σ H1 D.nx) := rfl
theorem eRet {te : TE} : tRet te D σ H = te σ H D.rt := rfl
theorem eTup {t : TA} : tTup t σ H Q = t σ H (fun xs H1 => xs.length ≤ sizeLine ∧ ∀ p, H1 p = none → Q (.ref p) (upd H1 p (.tup xs))) := rfl
theorem eLst {t : TA} : tLst t σ H Q = t σ H (fun xs H1 => xs.length ≤ sizeLine ∧ ∀ p, H1 p = none → Q (.ref p) (upd H1 p (.lst xs))) := rfl
theorem eCons {ta : TE} {tr : TA} {Q : List V → Hp → Prop} : tCons ta tr σ H Q = ta σ H (fun x H1 => tr σ H1 fun xs H2 => Q (x :: xs) H2) := rfl
theorem eCB {r : List V → Hp → VK → Prop} {t : TA} : tCB r t σ H Q = t σ H (fun xs H1 => r xs H1 Q) := rfl
end
theorem merge_kv {κ α : Type} [DecidableEq κ] {ι : κ → Key} {f : α → V} (hi : ∀ a b, ι a = ι b → a = b) : ∀ (l acc : List (κ × α)), (keysA (acc ++ l)).Nodup → mergeK (kvK ι f acc) (kvK ι f l) = kvK ι f (acc ++ l)
  | [], acc, _ => by
    rw [List.append_nil]
    rfl
  | q :: l, acc, h => by
    have e : acc ++ q :: l = (acc ++ [q]) ++ l := by rw [List.append_assoc]; rfl
    have hn : ¬ q.1 ∈ keysA acc := by
      unfold keysA at h ⊢
      rw [List.map_append, List.map_cons] at h
      have := (List.nodup_append.mp h).2.2
      exact fun z => this q.1 z q.1 List.mem_cons_self rfl
    show mergeK (putK (kvK ι f acc) (ι q.1) (f q.2)) (kvK ι f l) = _
    rw [kv_put hi, show putA acc q.1 q.2 = acc ++ [q] by unfold putA; rw [if_neg hn], e]
    rw [e] at h
    exact merge_kv hi l (acc ++ [q]) h
def pl (od : List Int) : List (Int × Int) := od.zipIdx.map fun q => (q.1, (q.2 : Int))
theorem pl_keys (od : List Int) : keysA (pl od) = od := by
  unfold keysA pl
  rw [List.map_map]
  have : ∀ (l : List Int) (k : Nat), (l.zipIdx k).map (Prod.fst ∘ fun q : Int × Nat => (q.1, (q.2 : Int))) = l := by
    intro l
    induction l with
    | nil => intro k; rfl
    | cons x l ih =>
      intro k
      rw [List.zipIdx_cons, List.map_cons, ih]
      rfl
  exact this od 0
theorem pl_merge {od : List Int} (nd : od.Nodup) : mergeK [] (od.zipIdx.map fun q => ((.inl q.1 : Key), V.int (q.2 : Int))) = kvK Sum.inl V.int (pl od) := by
  have h := merge_kv (ι := (Sum.inl : Int → Key)) (f := V.int) inl_inj (pl od) [] (by rw [List.nil_append, pl_keys]; exact nd)
  rw [List.nil_append] at h
  rw [← h]
  unfold kvK pl
  rw [List.map_map]
  rfl
theorem pl_get {od : List Int} {s : Int} (h : s ∈ od) : getA (pl od) s = some (ixO od s) := by
  have : ∀ (l : List Int) (k : Nat), s ∈ l → getA ((l.zipIdx k).map fun q : Int × Nat => (q.1, (q.2 : Int))) s = some ((k + l.idxOf s : Nat) : Int) := by
    intro l
    induction l with
    | nil => intro k m; exact absurd m List.not_mem_nil
    | cons x l ih =>
      intro k m
      rw [List.zipIdx_cons, List.map_cons]
      by_cases e : x = s
      · rw [getA_pos e, e, List.idxOf_cons_self]
        rfl
      · rw [getA_neg e, ih (k + 1) ((List.mem_cons.mp m).elim (fun z => absurd z.symm e) id), show (x :: l).idxOf s = l.idxOf s + 1 by rw [List.idxOf_cons, beq_eq_false_iff_ne.mpr e]; rfl]
        congr 1
        omega
  have h2 := this od 0 h
  rw [Nat.zero_add] at h2
  exact h2
theorem sq_but {K : PySem.W.Frag} {d : Addr} {kvs : List (Key × V)} {H H' : Hp} {a : Addr} {xs : List V} (b : But d H H') (hd : H d = some (.dK kvs)) (h : SqT K H a xs) : SqT K H' a xs := by
  have n : ∀ o, H a = some o → (∀ kvs, o ≠ .dK kvs) → a ≠ d := fun o e z q => by
    rw [q, hd] at e
    exact z kvs (Option.some.inj e).symm
  rcases h with (q | ⟨o, q⟩) | q
  · exact .inl (.inl (b _ _ (n _ q (by intro k z; cases z)) q))
  · exact .inl (.inr ⟨o, b _ _ (n _ q (by intro k z; cases z)) q⟩)
  · exact .inr q
theorem da_lots {K : PySem.W.Frag} {G : Hp} {f : Int → List Str} : ∀ {ls : List Addr} {od : List Int}, Paired (fun a s => SqT K G a ((f s).map V.str)) ls od → DaAll K G (ls.map V.ref) ((od.map f).map fun l => PyData.tuple (l.map PyData.str))
  | _, _, .nil => .nil
  | _, _, .cons h t => .cons (.tup h (da_strs _)) (da_lots t)
theorem da_ars {K : PySem.W.Frag} {G : Hp} : ∀ {zs : List V} {as : List Ar}, Paired (fun z (q : Ar) => ∃ t, z = V.ref t ∧ SqT K G t [.int q.1, .str q.2.1, .int q.2.2]) zs as → DaAll K G zs (as.map arD)
  | _, _, .nil => .nil
  | _, _, .cons ⟨t, e, h⟩ r => by
    subst e
    exact .cons (.tup h (.cons (.int _) (.cons (.str _) (.cons (.int _) .nil)))) (da_ars r)
theorem paired_map1 {α β γ : Type} {F : α → β → Prop} {G : γ → β → Prop} {f : α → γ} (h : ∀ a b, F a b → G (f a) b) : ∀ {as : List α} {bs : List β}, Paired F as bs → Paired G (as.map f) bs
  | _, _, .nil => .nil
  | _, _, .cons r t => .cons (h _ _ r) (paired_map1 h t)
theorem put_by {td ty tv : TE} {D : Ends} {σ : St} {H : Hp} {I : V → Hp → Prop} (h : ∀ Q : VK, (∀ v H2, I v H2 → Q v H2) → tv σ H Q) (k : ∀ v H2, I v H2 → td σ H2 fun x H3 => ty σ H3 fun y H4 => ∃ a H5, x = .ref a ∧ DPut H4 a y v H5 ∧ D.nx σ H5) : sDPut td ty tv D σ H := h _ k
theorem asg_by {t : TE} {σ : St} {H : Hp} {D : Ends} {i : Nat} {I : V → Hp → Prop} (h : ∀ Q : VK, (∀ u H2, I u H2 → Q u H2) → t σ H Q) (k : ∀ u H2, I u H2 → D.nx (σ.set i (some u)) H2) : tAsg t (gName i) D σ H := h _ k
theorem for_rng {t : TE} {g : TG} {tb : TS} {D : Ends} {σ : St} {H : Hp} {I : Nat → Hp → Prop} (h : ∀ Q : VK, (∀ (n : Nat) H2, I n H2 → Q (.int (n : Int)) H2) → t σ H Q) (k : ∀ (n : Nat) H2, I n H2 → tFor (iRng1 (tCons (tC (.int (n : Int))) tNil)) g tb D σ H2) :
    tFor (iRng1 (tCons t tNil)) g tb D σ H := h _ k
theorem op_by {r : R2} {ta tb : TE} {σ : St} {H : Hp} {Q : VK} {I : V → Hp → Prop} (h : ∀ Q : VK, (∀ u H2, I u H2 → Q u H2) → ta σ H Q) (k : ∀ u H2, I u H2 → tb σ H2 fun y H3 => r u y H3 Q) : tOp r ta tb σ H Q := h _ k
def spL (n : Nat) : List Int := (List.range n).map fun i : Nat => 1 + (i : Int)
theorem spL_rg (n : Int) : rgV 1 (n + 1) = (spL n.toNat).map V.int := by
  unfold rgV spL
  rw [List.map_map, show (n + 1 - 1).toNat = n.toNat by congr 1; omega]
  rfl
theorem spL_len (n : Nat) : (spL n).length = n := by
  unfold spL
  rw [List.length_map, List.length_range]
theorem spL_at {n i : Nat} {x : Int} (h : (spL n)[i]? = some x) : x = 1 + (i : Int) ∧ i < n := by
  have hi := (List.getElem?_eq_some_iff.mp h).1
  rw [spL_len] at hi
  unfold spL at h
  rw [List.getElem?_map, List.getElem?_range hi] at h
  exact ⟨(Option.some.inj h).symm, hi⟩
theorem spL_mem {n : Nat} {x : Int} (h : x ∈ spL n) : 1 ≤ x ∧ x ≤ n := by
  obtain ⟨i, e⟩ := List.mem_iff_getElem?.mp h
  have := spL_at e
  omega
end L2.Hx

/-! Lots and arrows are numbered. -/
namespace L2.Hx
open PySem PySem.Spec PyProof.Rows
/-- what is new -/
def Nw (H H' : Hp) : Hp := fun b => if (H b).isNone = true then H' b else none
theorem Nw.of {H H' : Hp} {a : Addr} {o : HO} (h : H a = none) (h' : H' a = some o) : Nw H H' a = some o := by
  unfold Nw
  rw [h]
  exact h'
/-- a new tuple -/
def NT (H H' : Hp) (a : Addr) (xs : List V) : Prop := H a = none ∧ H' a = some (.tup xs)
theorem NT.kp {H H1 H2 : Hp} {d a : Addr} {xs : List V} (h : NT H H1 a xs) (n : a ≠ d) (k : Kp d H1 H2) : NT H H2 a xs := ⟨h.1, k a xs n h.2⟩
theorem NT.same {H H1 H2 : Hp} {a : Addr} {xs : List V} (h : NT H H1 a xs) (k : Same H1 H2) : NT H H2 a xs := ⟨h.1, k _ _ h.2⟩
theorem NT.sq {K : PySem.W.Frag} {H H1 : Hp} {a : Addr} {xs : List V} (h : NT H H1 a xs) : SqT K H1 a xs := SqT.of h.2
theorem NT.nw {K : PySem.W.Frag} {H H1 : Hp} {a : Addr} {xs : List V} (h : NT H H1 a xs) : SqT K (Nw H H1) a xs := SqT.of (Nw.of h.1 h.2)
abbrev wyV (y : Wy) : V := .ref y.1
def spNum (K : PySem.W.Frag) : Sp := fun vs H Q _ => ∃ (h w : Addr) (hm : Hm) (ws : Ws), vs = [.ref h, .ref w] ∧ H h = some (.dK (kvK Sum.inr V.int hm)) ∧ H w = some (.dK (kvK Sum.inl wyV ws)) ∧ (∀ q ∈ ws, SqT K H q.2.1 [.str q.2.2.1, .int q.2.2.2]) ∧
  (keysA hm).Nodup ∧ hm.length < 64 ∧ (keysA ws).Nodup ∧ ws.length < 64 ∧ ¬ (0 : Int) ∈ keysA ws ∧
  ∀ (ys : List Str) (bs : List Int) (v : V) (H' : Hp), ys.Perm (keysA hm) → sortedS ys = true → Begins ys hm bs → Same H H' → ((numF ys hm ws bs = none ∧ v = .non) ∨ ∃ c, numF ys hm ws bs = some c ∧ Da K (Nw H H') v (caseD c)) → Q v H'
section
variable {P : Program} {w : World} {K : PySem.W.Frag} {mg : Str → Option Value} {base : Heap}
theorem D_l_numbered (T : Txt K mg) : Df P w K mg base 1 "_law_numbered" ["home", "ways"] (spNum K) := by
  obtain ⟨f, fd, S⟩ := T.d_l_numbered
  refine Df.mk' (k := 0) S sc_l_numbered (fun vs H Q E h => ?_) (fun cdv A outer s H vs Q E hgd hr h => ?_)
  · obtain ⟨h, w, hm, ws, rfl, _⟩ := h
    rfl
  · obtain ⟨ha, wa, hm, ws, rfl, hH, hW, hWt, ndH, lH, ndW, lW, w0, k⟩ := h
    have hu := hu_of hr
    have big : (2000 : Nat) ≤ sizeLine := by decide
    refine ⟨_, (pss_cons (ps_set (i := 2) sc_l_numbered.nd rfl (.inr rfl) pe_dnewK)
      (pss_cons (ps_for PassesOwn.never rfl (pi_list (pe_callB (call_sortedD rfl) (by rfl) T.b_sorted (by decide +kernel) (pa_cons (pv 0) pa_nil))) (pg_name (i := 3) sc_l_numbered.nd rfl (.inl rfl))
      (pss_one (ps_if (pt_cmpR op_ne (pv 3) pe_str (nomark _)) (pss_one (ps_dput hu (pv 2) (pe_dget hu (pv 0) (pv 3) (fun _ _ => rfl)) (pe_op op_catA (pe_dget2 hu (pv 2) (pe_dget hu (pv 0) (pv 3) (fun _ _ => rfl)) (pe_tup pa_nil) ⟨by rfl, by rfl, by rfl, by rfl⟩) (pe_tup (pa_cons (pv 3) pa_nil))) rfl)) pss_nil)))
      (pss_cons (ps_set (i := 4) sc_l_numbered.nd rfl (.inr rfl) (pe_op op_cat (pe_lst (pa_cons pe_int pa_nil)) (pe_lc (X := (cxOf CX0 P w K mg base ["home", "ways", "rows", "name", "order", "row", "spot", "begin", "seen", "here", "places", "lots", "own"] "_law_numbered" (defScope s_l_numbered) f cdv A outer s H E).nox) (own := [("row", 5), ("spot", 6)]) (g := gTup K 2 (gCons (gName 5) (gCons (gName 6) gNil))) (tt := tYes) (te := tVar 6) rfl sc_l_numbered.nd (pi_list (pe_callB (cr_sortedT2 hr.units) (by rfl) T.b_sorted (by decide +kernel) (pa_cons (pe_lock (pe_lc (own := [("spot", 6)]) (g := gName 6) rfl sc_l_numbered.nd (pi_keys (pv 2)) (blkOk_by (own := [("spot", 6)]) (N := ["home", "ways", "rows", "name", "order", "row", "spot", "begin", "seen", "here", "places", "lots", "own"]) (sc := defScope s_l_numbered) (by decide +kernel)) (fun _ _ _ _ _ => pg_name (i := 6) sc_l_numbered.nd rfl (.inl rfl)) (fun _ _ _ _ _ => (pts_one (pt_cmpR op_ne (pv 6) pe_int (nomark _)))) (fun _ _ _ _ _ => (pe_tup (pa_cons (pe_dget hu (pv 2) (pv 6) (fun _ _ => rfl)) (pa_cons (pv 6) pa_nil)))))) pa_nil))) (blkOk_by (own := [("row", 5), ("spot", 6)]) (N := ["home", "ways", "rows", "name", "order", "row", "spot", "begin", "seen", "here", "places", "lots", "own"]) (sc := defScope s_l_numbered) (by decide +kernel)) (fun _ _ _ _ _ => pg_tup rfl (pgs_cons (pg_name (i := 5) sc_l_numbered.nd rfl (.inl rfl)) (pgs_cons (pg_name (i := 6) sc_l_numbered.nd rfl (.inl rfl)) pgs_nil))) (fun _ _ _ _ _ => pts_nil) (fun _ _ _ _ _ => (pv 6)))))
      (pss_cons (ps_for PassesOwn.never rfl (pi_list (pe_callTy call_list_of (by rfl) T.b_list (by decide +kernel) (pa_cons (pe_slice sl_list (pv 4) (po_some pe_int) po_none) pa_nil))) (pg_name (i := 7) sc_l_numbered.nd rfl (.inl rfl))
      (pss_cons (ps_par (i := 8) (j := 9) (by rfl) sc_l_numbered.nd rfl rfl (by decide) rfl rfl (pa_cons (pe_lst pa_nil) (pa_cons (pv 7) pa_nil)) (by rfl))
      (pss_one (ps_while PassesOwn.never (PW.pt (pw_and (pt_cmp (pc_din hu (pv 9) (pv 1))) (pw_and1 (pt_cmpR op_notIn_seq (pv 9) (pv 8) (by rfl))))) (pss_cons (ps_expr (pe_bm PySem.F.plainAttrs_list PySem.F.slot_list_append PySem.F.type_list_append mt_append (pv 8) (pa_cons (pv 9) pa_nil)))
      (pss_cons (ps_set (i := 9) sc_l_numbered.nd rfl (.inl rfl) (pe_ix ix_tup (pe_dget hu (pv 1) (pv 9) (fun _ _ => rfl)) pe_int (fun _ _ => rfl)))
      (pss_one (ps_if (pt_cmpR op_notIn_seq (pv 9) (pv 4) (by rfl)) (pss_one (ps_expr (pe_bm PySem.F.plainAttrs_list PySem.F.slot_list_append PySem.F.type_list_append mt_append (pv 4) (pa_cons (pv 9) pa_nil)))) pss_nil))))))))
      (pss_cons (ps_if (pt_cmpR (op_neD hr.units) (pe_lock (pe_lc (X := (cxOf CX0 P w K mg base ["home", "ways", "rows", "name", "order", "row", "spot", "begin", "seen", "here", "places", "lots", "own"] "_law_numbered" (defScope s_l_numbered) f cdv A outer s H E).nox) (own := [("begin", 7)]) (g := gName 7) (tt := tTest (tOp (rIn K true) (tVar 7) (tVar 4))) (te := tC (.int 1)) rfl sc_l_numbered.nd (pi_keys (pv 1)) (blkOk_by (own := [("begin", 7)]) (N := ["home", "ways", "rows", "name", "order", "row", "spot", "begin", "seen", "here", "places", "lots", "own"]) (sc := defScope s_l_numbered) (by decide +kernel)) (fun _ _ _ _ _ => pg_name (i := 7) sc_l_numbered.nd rfl (.inl rfl)) (fun _ _ _ _ _ => (pts_one (pt_cmpR op_notIn_seq (pv 7) (pv 4) (by rfl)))) (fun _ _ _ _ _ => pe_int))) (pe_lst pa_nil) (nomark _)) (pss_one (ps_ret pe_non)) pss_nil)
      (pss_cons (ps_set (i := 10) sc_l_numbered.nd rfl (.inr rfl) (pe_dictZipR rfl (by rfl) T.b_dict (by rfl) T.b_zip (pa_cons (pv 4) (pa_cons (pe_callTy cr_rng1 (by rfl) T.b_range (by decide +kernel) (pa_cons (pe_callB call_len_seq (by rfl) T.b_len (by decide +kernel) (pa_cons (pv 4) pa_nil)) pa_nil)) pa_nil))))
      (pss_cons (ps_set (i := 11) sc_l_numbered.nd rfl (.inl rfl) (pe_callTy call_tuple_of (by rfl) T.b_tuple (by decide +kernel) (pa_cons (pe_lc (own := [("spot", 6)]) (g := gName 6) (tt := tYes) rfl sc_l_numbered.nd (pi_list (pv 4)) (blkOk_by (own := [("spot", 6)]) (N := ["home", "ways", "rows", "name", "order", "row", "spot", "begin", "seen", "here", "places", "lots", "own"]) (sc := defScope s_l_numbered) (by decide +kernel)) (fun _ _ _ _ _ => pg_name (i := 6) sc_l_numbered.nd rfl (.inl rfl)) (fun _ _ _ _ _ => pts_nil) (fun _ _ _ _ _ => (pe_dget2 hu (pv 2) (pv 6) (pe_tup pa_nil) ⟨by rfl, by rfl, by rfl, by rfl⟩))) pa_nil)))
      (pss_one (ps_ret (pe_tup (pa_cons (pv 11) (pa_cons (pe_callTy call_tuple_of (by rfl) T.b_tuple (by decide +kernel) (pa_cons (pe_callB (cr_sortedT2 hr.units) (by rfl) T.b_sorted (by decide +kernel) (pa_cons (pe_lock (pe_lc (X := (cxOf CX0 P w K mg base ["home", "ways", "rows", "name", "order", "row", "spot", "begin", "seen", "here", "places", "lots", "own"] "_law_numbered" (defScope s_l_numbered) f cdv A outer s H E).nox) (own := [("own", 12)]) (g := gName 12) (tt := tYes) (te := tTup (tCons (tDGet (tVar 10) (tVar 12)) (tCons (tOp (rIxT K) (tDGet (tVar 1) (tVar 12)) (tC (.int 0))) (tCons (tDGet (tVar 10) (tOp (rIxT K) (tDGet (tVar 1) (tVar 12)) (tC (.int 1)))) tNil)))) rfl sc_l_numbered.nd (pi_keys (pv 1)) (blkOk_by (own := [("own", 12)]) (N := ["home", "ways", "rows", "name", "order", "row", "spot", "begin", "seen", "here", "places", "lots", "own"]) (sc := defScope s_l_numbered) (by decide +kernel)) (fun _ _ _ _ _ => pg_name (i := 12) sc_l_numbered.nd rfl (.inl rfl)) (fun _ _ _ _ _ => pts_nil) (fun _ _ _ _ _ => (pe_tup (pa_cons (pe_dget hu (pv 10) (pv 12) (fun _ _ => rfl)) (pa_cons (pe_ix ix_tup (pe_dget hu (pv 1) (pv 12) (fun _ _ => rfl)) pe_int (fun _ _ => rfl)) (pa_cons (pe_dget hu (pv 10) (pe_ix ix_tup (pe_dget hu (pv 1) (pv 12) (fun _ _ => rfl)) pe_int (fun _ _ => rfl)) (fun _ _ => rfl)) pa_nil))))))) pa_nil)) pa_nil)) pa_nil)))))))))))), ?_⟩
    refine fun R hR => ?_
    dsimp only [gName, List.set]
    have hH0 : (upd H R (.dK [])) ha = some (.dK (kvK Sum.inr V.int hm)) := sameAdd hR _ _ hH
    refine ⟨_, rfl, ha, _, keysA hm, rfl, .of hH0, by unfold kvK keysA; rw [List.map_map, List.map_map]; rfl, by unfold keysA; rw [List.length_map]; exact lH, fun ys p perm srt hp => ?_⟩
    have kin : ∀ n ∈ ys, ∃ v, getA hm n = some v := fun n m => by
      obtain ⟨v, e, _⟩ := getA_in (perm.mem_iff.mp m)
      exact ⟨v, e⟩
    have ly : ys.length < 64 := by
      rw [perm.length_eq]
      unfold keysA
      rw [List.length_map]
      exact lH
    have s1 : Same H (upd (upd H R (.dK [])) p (.lst (ys.map V.str))) := (sameAdd hR).trans (sameAdd hp)
    have nRp : R ≠ p := fun e => by
      rw [← e, upd_same] at hp
      cases hp
    have R1 : (upd (upd H R (.dK [])) p (.lst (ys.map V.str))) R = some (.dK (kvK Sum.inl V.ref ([] : List (Int × Addr)))) := by rw [upd_ne nRp, upd_same]; rfl
    have p1 : (upd (upd H R (.dK [])) p (.lst (ys.map V.str))) p = some (.lst (ys.map V.str)) := upd_same
    generalize upd (upd H R (.dK [])) p (.lst (ys.map V.str)) = H1 at s1 R1 p1 ⊢
    clear hp hH0
    refine ⟨p, rfl, ⟨_, SqL.of p1⟩, for_list (K := K) (a := p) (xs := ys.map V.str) (fun i σ H3 => ∃ o3, σ = [some (.ref ha), some (.ref wa), some (.ref R), o3, none, none, none, none, none, none, none, none, none] ∧ Same H H3 ∧ H3 p = some (.lst (ys.map V.str)) ∧
        ∃ rs : List (Int × Addr), H3 R = some (.dK (kvK Sum.inl V.ref rs)) ∧ (keysA rs).Nodup ∧ rs.length ≤ i ∧ (∀ s, s ∈ keysA rs ↔ lotF (ys.take i) hm s ≠ []) ∧ ∀ q ∈ rs, NT H H3 q.2 ((lotF (ys.take i) hm q.1).map V.str))
      ⟨none, rfl, s1, p1, [], R1, List.nodup_nil, Nat.le_refl _, fun s => ⟨fun m => absurd m List.not_mem_nil, fun z => absurd rfl z⟩, fun q m => absurd m List.not_mem_nil⟩ (fun i σ H3 _ ⟨_, _, _, h, _⟩ => SqL.of h) ?_ ?_⟩
    · rintro i x σ H3 hx ⟨o3, rfl, s3, p3, rs, R3, nd3, l3, mem3, nt3⟩
      have hi := (List.getElem?_eq_some_iff.mp hx).1
      rw [List.length_map] at hi
      obtain ⟨n, hn, rfl⟩ : ∃ n, ys[i]? = some n ∧ x = V.str n := by
        rw [List.getElem?_map] at hx
        obtain ⟨n, e, q⟩ := Option.map_eq_some_iff.mp hx
        exact ⟨n, e, q.symm⟩
      have tk : ys.take (i + 1) = ys.take i ++ [n] := by rw [List.take_add_one, hn]; rfl
      obtain ⟨sv, hsv⟩ := kin n (List.mem_of_getElem? hn)
      dsimp only [gName, List.set]
      refine ⟨_, rfl, rfl, _, rfl, ?_⟩
      by_cases en : n = ("nil" : Str)
      · rw [decide_eq_true (show V.str n = V.str "nil" by rw [en])]
        refine if_no rfl ⟨_, rfl, s3, p3, rs, R3, nd3, Nat.le_succ_of_le l3, ?_, ?_⟩
        · intro s
          rw [tk, lotF_snoc, if_neg (fun z => z.1 en), List.append_nil]
          exact mem3 s
        · intro q m
          rw [tk, lotF_snoc, if_neg (fun z => z.1 en), List.append_nil]
          exact nt3 q m
      · rw [decide_eq_false (show ¬ V.str n = V.str "nil" from fun e => en (V.str.inj e))]
        refine if_yes rfl ?_
        have hH3 := s3 _ _ hH
        have gh : ∀ H4, Same H H4 → DGet H4 ha (.str n) (some (.int sv)) := fun H4 s4 => by
          have := dgetS (f := V.int) (s4 _ _ hH) n
          rw [hsv] at this
          exact this
        refine ⟨_, rfl, R, rfl, .inl ⟨_, .of R3⟩, _, rfl, _, rfl, ha, _, rfl, gh H3 s3, Nat.zero_le _, fun t0 ht0 => ?_⟩
        have a0 : Same H3 (upd H3 t0 (.tup [])) := sameAdd ht0
        refine ⟨_, dgetI (f := V.ref) (a0 _ _ R3) sv, _, rfl, by show 1 ≤ sizeLine; decide, fun t1 ht1 => ?_⟩
        have a1 : Same H3 (upd (upd H3 t0 (.tup [])) t1 (.tup [V.str n])) := a0.trans (sameAdd ht1)
        have T0 : (upd (upd H3 t0 (.tup [])) t1 (.tup [V.str n])) t0 = some (.tup []) := sameAdd ht1 _ _ upd_same
        have T1 : (upd (upd H3 t0 (.tup [])) t1 (.tup [V.str n])) t1 = some (.tup [V.str n]) := upd_same
        have n0 : H t0 = none := s3.free ht0
        have n1 : H t1 = none := s3.free (a0.free ht1)
        generalize upd (upd H3 t0 (.tup [])) t1 (.tup [V.str n]) = H5 at a1 T0 T1 ⊢
        obtain ⟨la, eL, nL⟩ : ∃ la, ((getA rs sv).map V.ref).getD (.ref t0) = .ref la ∧ NT H H5 la ((lotF (ys.take i) hm sv).map V.str) := by
          cases e : getA rs sv with
          | some a => exact ⟨a, rfl, (nt3 _ (getA_mem e)).same a1⟩
          | none =>
            refine ⟨t0, rfl, n0, ?_⟩
            have : lotF (ys.take i) hm sv = [] := by
              apply Classical.byContradiction
              intro z
              obtain ⟨v, q, _⟩ := getA_in ((mem3 sv).mpr z)
              rw [e] at q
              cases q
            rw [this]
            exact T0
        rw [eL]
        clear a0 ht0 ht1 eL T0 n0
        have en2 : lotF (ys.take (i + 1)) hm sv = lotF (ys.take i) hm sv ++ [n] := by rw [tk, lotF_snoc, if_pos ⟨en, hsv⟩]
        have em : ∀ s, s ≠ sv → lotF (ys.take (i + 1)) hm s = lotF (ys.take i) hm s := fun s ns => by
          rw [tk, lotF_snoc, if_neg (fun z => ns (by rw [hsv] at z; exact (Option.some.inj z.2).symm)), List.append_nil]
        have lL : (lotF (ys.take i) hm sv).length ≤ 64 := by
          have := List.length_filter_le (fun n => decide (n ≠ ("nil" : Str)) && decide (getA hm n = some sv)) (ys.take i)
          rw [List.length_take] at this
          unfold lotF
          omega
        refine catA_one nL.sq (SqT.of T1) (by rw [List.length_map]; omega) (fun r H6 s56 hr6 => ?_)
        have nr : NT H H6 r ((lotF (ys.take (i + 1)) hm sv).map V.str) := by
          rw [en2, List.map_append]
          rcases hr6 with ⟨rfl, e, rfl⟩ | ⟨e, e2⟩
          · rw [e]
            exact ⟨n1, T1⟩
          · exact ⟨(s3.trans a1).free e, e2⟩
        have s36 := a1.trans s56
        have nR : ∀ a xs, NT H H6 a xs → a ≠ R := fun a xs h e => by
          have := s36 _ _ R3
          rw [← e, h.2] at this
          cases this
        refine ⟨_, rfl, _, rfl, _, rfl, ha, _, rfl, gh H6 (s3.trans s36), R, _, rfl, dputI (f := V.ref) (s36 _ _ R3) sv r (by omega), ?_⟩
        have kp : Kp R H6 (upd H6 R (.dK (kvK Sum.inl V.ref (putA rs sv r)))) := fun b ys n q => by rw [upd_ne n]; exact q
        refine ⟨_, rfl, sameOut (s3.trans s36) hR, by rw [upd_ne (by intro e; have := s36 _ _ R3; rw [← e, s36 _ _ p3] at this; cases this)]; exact s36 _ _ p3, putA rs sv r, upd_same, putA_nodup nd3, by have := putA_len rs sv r; omega, fun s => ?_, fun q m => ?_⟩
        · rw [putA_keys, mem3 s]
          by_cases es : s = sv
          · rw [es, en2]
            exact ⟨fun _ z => by simp at z, fun _ => .inr rfl⟩
          · rw [em s es]
            exact ⟨fun z => z.elim id fun y => absurd y es, .inl⟩
        · by_cases es : q.1 = sv
          · have : q.2 = r := by
              have h1 := mem_getA (putA_nodup (k := sv) (v := r) nd3) (show (q.1, q.2) ∈ putA rs sv r from m)
              rw [get_putA, if_pos es] at h1
              exact (Option.some.inj h1).symm
            rw [this, es]
            exact nr.kp (nR _ _ nr) kp
          · have h1 := mem_getA (putA_nodup (k := sv) (v := r) nd3) (show (q.1, q.2) ∈ putA rs sv r from m)
            rw [get_putA, if_neg es] at h1
            rw [em _ es]
            have := (nt3 _ (getA_mem h1)).same s36
            exact this.kp (nR _ _ this) kp
    · rintro σ H3 ⟨o3, rfl, s3, p3, rs, R3, nd3, l3, mem3, nt3⟩
      rw [List.length_map, List.take_length] at mem3 nt3
      rw [List.length_map] at l3
      clear R1 p1 s1
      dsimp only [gName, List.set]
      refine ⟨by show 1 ≤ sizeLine; decide, fun L0 hL0 => ?_⟩
      have s4 := s3.trans (sameAdd (o := .lst [V.int 0]) hL0)
      have R4 := sameAdd (o := .lst [V.int 0]) hL0 _ _ R3
      have L4 : (upd H3 L0 (.lst [V.int 0])) L0 = some (.lst [V.int 0]) := upd_same
      have nt4 : ∀ q ∈ rs, NT H (upd H3 L0 (.lst [V.int 0])) q.2 ((lotF ys hm q.1).map V.str) := fun q m => (nt3 q m).same (sameAdd hL0)
      generalize upd H3 L0 (.lst [V.int 0]) = H4 at s4 R4 L4 nt4 ⊢
      clear hL0 nt3 R3 p3 s3
      have nR : ∀ Hx a xs, Same H4 Hx → NT H Hx a xs → a ≠ R := fun Hx a xs sx h e => by
        have := sx _ _ R4
        rw [← e, h.2] at this
        cases this
      refine lc_keys (d := R) (kvs := kvK Sum.inl V.ref rs) rfl R4 (fun i xs Hx => ∃ ts : List Addr, xs = ts.map V.ref ∧ Paired (fun (t : Addr) (s : Int) => ∃ a, t ≠ R ∧ a ≠ R ∧ Hx t = some (.tup [.ref a, .int s]) ∧ NT H Hx a ((lotF ys hm s).map V.str)) ts (((rs.take i).map Prod.fst).filter fun s => decide (s ≠ 0)))
        ?_ ⟨[], rfl, .nil⟩ ?_ (by rw [kv_len]; omega) ?_
      · rintro i xs H5 H6 kp ⟨ts, rfl, pr⟩
        exact ⟨ts, rfl, paired_mpL pr fun t s ⟨a, nt, na, h1, h2⟩ => ⟨a, nt, na, kp t _ nt h1, h2.kp na kp⟩⟩
      · rintro od i kk v H5 xs Ny Nn hk fz b5 ⟨ts, rfl, pr⟩ lx yes no
        obtain ⟨⟨s, a⟩, hr, e⟩ : ∃ q, rs[i]? = some q ∧ (Sum.inl q.1, V.ref q.2) = (kk, v) := by
          unfold kvK at hk
          rw [List.getElem?_map] at hk
          obtain ⟨q, e1, e2⟩ := Option.map_eq_some_iff.mp hk
          exact ⟨q, e1, e2⟩
        cases e
        have tk : (rs.take (i + 1)).map Prod.fst = (rs.take i).map Prod.fst ++ [s] := by rw [List.take_add_one, hr, List.map_append]; rfl
        have m := List.mem_of_getElem? hr
        refine ⟨_, rfl, rfl, _, rfl, ?_⟩
        by_cases e0 : s = 0
        · rw [decide_eq_true (show kV (Sum.inl s) = V.int 0 by rw [e0]; rfl)]
          refine if_no rfl (no H5 fz (But.refl _ _) ⟨ts, rfl, ?_⟩)
          rw [tk, List.filter_append, List.filter_cons_of_neg (by simp [e0]), List.filter_nil, List.append_nil]
          exact pr
        · rw [decide_eq_false (show ¬ kV (Sum.inl s) = V.int 0 from fun z => e0 (V.int.inj z))]
          refine if_yes rfl ?_
          have hg : DGet H5 R (.int s) (some (.ref a)) := by
            have := dgetIR (f := V.ref) (.inr ⟨od, fz⟩) s
            rw [mem_getA nd3 m] at this
            exact this
          refine ⟨_, rfl, _, rfl, R, _, rfl, hg, _, rfl, by show 2 ≤ sizeLine; decide, fun t ht => ?_⟩
          have ntR : t ≠ R := fun z => by
            rw [z, fz] at ht
            cases ht
          have na : a ≠ R := nR H4 a _ (Same.refl _) (nt4 _ m)
          have b6 : But R H5 (upd H5 t (.tup [V.ref a, V.int s])) := (But.refl R H5).add ht
          refine yes _ _ (by rw [upd_ne ntR.symm]; exact fz) b6 ⟨ts ++ [t], by rw [List.map_append]; rfl, ?_⟩
          rw [tk, List.filter_append, List.filter_cons_of_pos (by simp [e0]), List.filter_nil]
          refine paired_snoc (paired_mpL pr fun t s ⟨a, nt, na, h1, h2⟩ => ⟨a, nt, na, b6 _ _ nt h1, h2.1, b6 _ _ na h2.2⟩) ⟨a, ntR, na, upd_same, (nt4 _ m).1, b6 _ _ na (b5 _ _ na (nt4 _ m).2)⟩
      · rintro L1 xs H5 s45 hL1 L5 ⟨ts, rfl, pr⟩ lx
        rw [kv_len] at lx
        rw [kv_len, List.take_length] at pr
        have s5 := s4.trans s45
        have L05 := s45 _ _ L4
        have R5 := s45 _ _ R4
        have nt5 : ∀ q ∈ rs, NT H H5 q.2 ((lotF ys hm q.1).map V.str) := fun q m => (nt4 q m).same s45
        clear nt4 L4 R4 s45 s4
        generalize hks : ((rs.map Prod.fst).filter fun s => decide (s ≠ 0)) = ks at pr
        have ndk : ks.Nodup := by
          rw [← hks]
          exact nd3.filter _
        have memk : ∀ s, s ∈ ks ↔ s ≠ 0 ∧ lotF ys hm s ≠ [] := fun s => by
          rw [← hks, List.mem_filter, decide_eq_true_eq, ← mem3 s]
          exact and_comm
        have lk : ks.length < 64 := by
          have h1 := List.length_filter_le (fun s : Int => decide (s ≠ 0)) (rs.map Prod.fst)
          rw [hks, List.length_map] at h1
          omega
        refine ⟨L1, ts.map V.ref, List Str × Int, ks.map fun s => (lotF ys hm s, s), encB, fun x b => ∃ t a, x = V.ref t ∧ SqT K H5 t [.ref a, .int b.2], rfl, SqL.of L5, fun x m => ?_, ?_, ?_, ?_, ?_, ?_, fun zs p2 pz prz hp2 => ?_⟩
        · obtain ⟨t, _, rfl⟩ := List.mem_map.mp m
          exact ⟨t, rfl⟩
        · exact paired_maps (fun t s ⟨a, _, _, h1, _⟩ => ⟨t, a, rfl, SqT.of h1⟩) pr
        · exact paired_maps (fun t s ⟨a, _, _, h1, h2⟩ => .tup (SqT.of h1) (.cons (.tup h2.sq (dp_strs _)) (.cons (.int _) .nil))) pr
        · intro b b'
          simp [encB, PySem.W.alike, PySem.W.alikeAll, alike_strs]
        · exact fun b => ⟨_, _, rfl⟩
        · intro b _
          have := depth_strs b.1
          simp only [encB, PyData.depth, PyData.depthAll]
          omega
        · have s6 := s5.trans (sameAdd (o := .lst zs) hp2)
          have s56 : Same H5 (upd H5 p2 (.lst zs)) := sameAdd hp2
          have L06 := s56 _ _ L05
          have R6 := s56 _ _ R5
          have p26 : (upd H5 p2 (.lst zs)) p2 = some (.lst zs) := upd_same
          generalize upd H5 p2 (.lst zs) = H6 at s6 s56 L06 R6 p26 ⊢
          have lz : zs.length < 64 := by
            have h1 := pz.length_eq
            rw [List.length_map, Paired.length pr] at h1
            omega
          generalize hBS : (ks.map fun s => (lotF ys hm s, s)).mergeSort (PySem.W.dataLe false encB) = BS at prz
          have beg := begins_of (ys := ys) (hm := hm) ndk memk
          rw [hBS] at beg
          have lB : zs.length = BS.length := Paired.length prz
          refine ⟨p2, rfl, ⟨_, SqL.of p26⟩, fun D hD => lc_list (K := K) (a := p2) (xs := zs) (fun i H7 => Same H6 H7 ∧ H7 D = some (.lst (((BS.take i).map Prod.snd).map V.int))) ⟨sameAdd hD, upd_same⟩ (fun i H7 _ h => SqL.of (h.1 _ _ p26)) ?_ ?_⟩
          · rintro i x H7 hx ⟨s7, D7⟩
            obtain ⟨b, hb, t, a, rfl, tT⟩ := paired_at prz hx
            have tk : BS.take (i + 1) = BS.take i ++ [b] := by rw [List.take_add_one, hb]; rfl
            have hi := (List.getElem?_eq_some_iff.mp hx).1
            refine ⟨t, _, rfl, sameT (s56.trans s7) tT, rfl, _, _, rfl, _, _, rfl, rfl, ?_⟩
            refine ⟨rfl, _, rfl, _, D7, by rw [List.length_map, List.length_map, List.length_take]; omega, sameOut s7 hD, ?_⟩
            rw [upd_same, tk, List.map_append, List.map_append]
            rfl
          · rintro H7 ⟨s7, D7⟩
            rw [lB, List.take_length] at D7
            have lbs : (BS.map Prod.snd).length < 64 := by
              rw [List.length_map, ← lB]
              exact lz
            generalize BS.map Prod.snd = bs at D7 beg lbs
            refine ⟨L0, D, _, _, rfl, rfl, s7 _ _ L06, D7, by simp only [List.length_map, List.length_cons, List.length_nil]; omega, fun O hO => ?_⟩
            have s8 := (s6.trans s7).trans (sameAdd (o := .lst ([V.int 0] ++ bs.map V.int)) hO)
            have R8 := sameAdd (o := .lst ([V.int 0] ++ bs.map V.int)) hO _ _ (s7 _ _ R6)
            have O8 : (upd H7 O (.lst ([V.int 0] ++ bs.map V.int))) O = some (.lst ((0 :: bs).map V.int)) := upd_same
            have nt8 : ∀ q ∈ rs, NT H (upd H7 O (.lst ([V.int 0] ++ bs.map V.int))) q.2 ((lotF ys hm q.1).map V.str) := fun q m => (nt5 q m).same ((s56.trans s7).trans (sameAdd hO))
            have O0 : H O = none := (s6.trans s7).free hO
            generalize upd H7 O (.lst ([V.int 0] ++ bs.map V.int)) = H8 at s8 R8 O8 nt8 ⊢
            clear D7 hD hO s7 s6 s56 L06 R6 p26 prz hBS hp2 pz nt5 R5 L05 L5 pr hL1 lx s5 nR lz lB
            dsimp only [gName, List.set]
            refine ⟨_, rfl, _, rfl, O, _, rfl, SqL.of O8, fun S1 hS1 => ?_⟩
            rw [cut1 (by simp)]
            have e8 : ((0 :: bs).map V.int).drop 1 = bs.map V.int := rfl
            rw [e8]
            refine ⟨S1, _, rfl, .inl (SqL.of upd_same), fun S2 hS2 => ?_⟩
            have s89 : Same H8 (upd (upd H8 S1 (.lst (bs.map V.int))) S2 (.lst (bs.map V.int))) := (sameAdd hS1).trans (sameAdd hS2)
            have s9 := s8.trans s89
            have B9 : (upd (upd H8 S1 (.lst (bs.map V.int))) S2 (.lst (bs.map V.int))) S2 = some (.lst (bs.map V.int)) := upd_same
            have O9 := s89 _ _ O8
            have R9 := s89 _ _ R8
            have nt9 := fun q m => (nt8 q m).same s89
            have nOS : O ≠ S2 := fun e => by
              rw [← e, sameAdd hS1 _ _ O8] at hS2
              cases hS2
            have nRO : R ≠ O := fun e => by
              rw [e, O8] at R8
              cases R8
            generalize upd (upd H8 S1 (.lst (bs.map V.int))) S2 (.lst (bs.map V.int)) = H9 at s89 s9 B9 O9 R9 nt9 ⊢
            clear hS1 hS2 s89 s8 R8 O8 nt8
            have nO : ∀ Hx a xs cs, Hx O = some (.lst cs) → NT H Hx a xs → a ≠ O := fun Hx a xs cs ho h e => by
              rw [← e, h.2] at ho
              cases ho
            have nO2 : ∀ Hx a xs (Z : Addr) cs, Hx Z = some (.lst cs) → NT H Hx a xs → a ≠ Z := fun Hx a xs Z cs ho h e => by
              rw [← e, h.2] at ho
              cases ho
            refine ⟨S2, rfl, ⟨_, SqL.of B9⟩, for_list (K := K) (a := S2) (xs := bs.map V.int) (fun i σ Hx => ∃ o3 o5 o6 o7 o8 o9, σ = [some (.ref ha), some (.ref wa), some (.ref R), o3, some (.ref O), o5, o6, o7, o8, o9, none, none, none] ∧ Same H Hx ∧ Hx S2 = some (.lst (bs.map V.int)) ∧ Hx R = some (.dK (kvK Sum.inl V.ref rs)) ∧
                (∀ q ∈ rs, NT H Hx q.2 ((lotF ys hm q.1).map V.str)) ∧ Hx O = some (.lst ((orderF ws (bs.take i) (0 :: bs)).map V.int)))
              ⟨_, _, _, _, _, _, rfl, s9, B9, R9, nt9, O9⟩ (fun i σ Hx _ ⟨_, _, _, _, _, _, _, _, h, _⟩ => SqL.of h) ?_ ?_⟩
            · rintro i x σ Hx hx ⟨o3, o5, o6, o7, o8, o9, rfl, sx, Bx, Rx, ntx, Ox⟩
              obtain ⟨b, hb, rfl⟩ : ∃ b, bs[i]? = some b ∧ x = V.int b := by
                rw [List.getElem?_map] at hx
                obtain ⟨n, e, q⟩ := Option.map_eq_some_iff.mp hx
                exact ⟨n, e, q.symm⟩
              have tk : bs.take (i + 1) = bs.take i ++ [b] := by rw [List.take_add_one, hb]; rfl
              dsimp only [gName, List.set]
              refine ⟨Nat.zero_le _, fun Z hZ => ⟨_, rfl, _, _, rfl, ?_⟩⟩
              have sy := sx.trans (sameAdd (o := .lst []) hZ)
              have Z0 : H Z = none := sx.free hZ
              have By := sameAdd (o := .lst []) hZ _ _ Bx
              have Ry := sameAdd (o := .lst []) hZ _ _ Rx
              have Oy := sameAdd (o := .lst []) hZ _ _ Ox
              have nty := fun q m => (ntx q m).same (sameAdd (o := .lst []) hZ)
              have Zy : (upd Hx Z (.lst [])) Z = some (.lst (([] : List Int).map V.int)) := upd_same
              have nZO : Z ≠ O := fun e => by rw [e, Ox] at hZ; cases hZ
              have nZS : Z ≠ S2 := fun e => by rw [e, Bx] at hZ; cases hZ
              generalize upd Hx Z (.lst []) = Hy at sy By Ry Oy nty Zy ⊢
              clear hZ Bx Rx ntx Ox sx
              generalize ho0 : orderF ws (bs.take i) (0 :: bs) = od at Oy
              dsimp only [gName, List.set]
              refine ⟨fun m σ Hz => ∃ v Tk, σ = [some (.ref ha), some (.ref wa), some (.ref R), o3, some (.ref O), o5, o6, some (.int b), some (.ref Z), some (.int v), none, none, none] ∧ m = msr (keysA ws) Tk ∧ Same H Hz ∧ Hz S2 = some (.lst (bs.map V.int)) ∧ Hz R = some (.dK (kvK Sum.inl V.ref rs)) ∧
                  (∀ q ∈ rs, NT H Hz q.2 ((lotF ys hm q.1).map V.str)) ∧ Hz O = some (.lst ((addAll od (Tk.map (endW ws))).map V.int)) ∧ Hz Z = some (.lst (Tk.map V.int)) ∧ Once (keysA ws) Tk ∧ reachF (keysA ws) (endW ws) b [] = reachF (keysA ws) (endW ws) v Tk,
                ⟨_, b, [], rfl, rfl, sy, By, Ry, nty, Oy, Zy, Once.nil, rfl⟩, ?_⟩
              rintro m σ Hz ⟨v, Tk, rfl, rfl, sz, Bz, Rz, ntz, Oz, Zz, on, rc⟩
              have ndO : (addAll od (Tk.map (endW ws))).Nodup := by
                rw [← ho0]
                exact addAll_nodup _ (orderF_nodup ws _ (List.nodup_cons.mpr ⟨fun m => ((beg.mem 0).mp m).1 rfl, beg.nd⟩))
              have lO : (addAll od (Tk.map (endW ws))).length ≤ 1 + bs.length + ws.length := by
                refine ord_len ndO fun y my => ?_
                rcases (mem_addAll _ _).mp my with my | my
                · rw [← ho0] at my
                  exact orderF_sub (fun z m => List.mem_append_left _ m) (fun k m => List.mem_append_right _ (List.mem_map.mpr ⟨k, m, rfl⟩)) y my
                · obtain ⟨z, mz, rfl⟩ := List.mem_map.mp my
                  exact List.mem_append_right _ (List.mem_map.mpr ⟨z, on.2 z mz, rfl⟩)
              have lT : Tk.length < 64 := by
                have := once_len on
                unfold keysA at this
                rw [List.length_map] at this
                omega
              have stop : ¬ (v ∈ keysA ws ∧ ¬ v ∈ Tk) → ∃ o3' o5' o6' o7 o8 o9, ([some (.ref ha), some (.ref wa), some (.ref R), o3, some (.ref O), o5, o6, some (.int b), some (.ref Z), some (.int v), none, none, none] : St) = [some (.ref ha), some (.ref wa), some (.ref R), o3', some (.ref O), o5', o6', o7, o8, o9, none, none, none] ∧ Same H Hz ∧ Hz S2 = some (.lst (bs.map V.int)) ∧ Hz R = some (.dK (kvK Sum.inl V.ref rs)) ∧
                  (∀ q ∈ rs, NT H Hz q.2 ((lotF ys hm q.1).map V.str)) ∧ Hz O = some (.lst ((orderF ws (bs.take (i + 1)) (0 :: bs)).map V.int)) := fun hn => by
                rw [reachF_no hn] at rc
                refine ⟨_, _, _, _, _, _, rfl, sz, Bz, Rz, ntz, ?_⟩
                rw [tk, orderF_snoc, ho0]
                unfold alongF
                rw [rc]
                exact Oz
              refine ⟨_, rfl, _, rfl, wa, _, rfl, dgetI (f := wyV) (sz _ _ hW) v, _, rfl, ?_⟩
              rw [isA]
              refine iteD (fun h1 => ?_) (fun h1 => stop fun q => h1 q.1)
              refine ⟨_, rfl, _, rfl, Z, _, rfl, .inl (SqL.of Zz), rfl, flat_ints Tk, _, rfl, ?_⟩
              show if (!inV (.int v) (Tk.map V.int)) = true then _ else _
              rw [inV_int]
              refine iteND (fun h2 => ?_) (fun h2 => stop fun q => q.2 h2)
              obtain ⟨y, hy, my⟩ := getA_in h1
              have ey := endW_of hy
              refine ⟨fun σ Hz => ∃ v T3, σ = [some (.ref ha), some (.ref wa), some (.ref R), o3, some (.ref O), o5, o6, some (.int b), some (.ref Z), some (.int v), none, none, none] ∧ msr (keysA ws) T3 < msr (keysA ws) Tk ∧ Same H Hz ∧ Hz S2 = some (.lst (bs.map V.int)) ∧ Hz R = some (.dK (kvK Sum.inl V.ref rs)) ∧
                  (∀ q ∈ rs, NT H Hz q.2 ((lotF ys hm q.1).map V.str)) ∧ Hz O = some (.lst ((addAll od (T3.map (endW ws))).map V.int)) ∧ Hz Z = some (.lst (T3.map V.int)) ∧ Once (keysA ws) T3 ∧ reachF (keysA ws) (endW ws) b [] = reachF (keysA ws) (endW ws) v T3,
                fun σ Hz ⟨v, T3, e1, lt, r⟩ => ⟨_, lt, v, T3, e1, rfl, r⟩, ?_⟩
              refine ⟨_, rfl, .inl ⟨rfl, _, SqL.of Zz⟩, _, rfl, Z, _, _, rfl, rfl, Zz, by rw [List.length_map]; omega, ?_⟩
              have nRZ : R ≠ Z := fun e => by rw [e, Zz] at Rz; cases Rz
              have sa : Same H (upd Hz Z (.lst (Tk.map V.int ++ [V.int v]))) := sameOut sz Z0
              have Ba : (upd Hz Z (.lst (Tk.map V.int ++ [V.int v]))) S2 = some (.lst (bs.map V.int)) := by rw [upd_ne nZS.symm]; exact Bz
              have Ra : (upd Hz Z (.lst (Tk.map V.int ++ [V.int v]))) R = some (.dK (kvK Sum.inl V.ref rs)) := by rw [upd_ne nRZ]; exact Rz
              have nta : ∀ q ∈ rs, NT H (upd Hz Z (.lst (Tk.map V.int ++ [V.int v]))) q.2 ((lotF ys hm q.1).map V.str) := fun q m => (ntz q m).kp (d := Z) (nO2 Hz _ _ Z _ Zz (ntz q m)) fun b ys n e => by rw [upd_ne n]; exact e
              have Oa : (upd Hz Z (.lst (Tk.map V.int ++ [V.int v]))) O = some (.lst ((addAll od (Tk.map (endW ws))).map V.int)) := by rw [upd_ne nZO.symm]; exact Oz
              have Za : (upd Hz Z (.lst (Tk.map V.int ++ [V.int v]))) Z = some (.lst ((Tk ++ [v]).map V.int)) := by rw [upd_same, List.map_append]; rfl
              generalize upd Hz Z (.lst (Tk.map V.int ++ [V.int v])) = Hb at sa Ba Ra nta Oa Za ⊢
              have dg : DGet Hb wa (.int v) (some (.ref y.1)) := by
                have := dgetI (f := wyV) (sa _ _ hW) v
                rw [hy] at this
                exact this
              refine ⟨_, rfl, _, rfl, wa, _, rfl, dg, y.1, _, 1, V.int y.2.2, rfl, rfl, sameT sa (hWt _ my), rfl, ?_⟩
              dsimp only [gName, List.set]
              have am : (Tk ++ [v]).map (endW ws) = Tk.map (endW ws) ++ [y.2.2] := by rw [List.map_append, ← ey]; rfl
              have r2 : reachF (keysA ws) (endW ws) b [] = reachF (keysA ws) (endW ws) y.2.2 (Tk ++ [v]) := by rw [rc, reachF_on h1 h2, ey]
              refine ⟨_, rfl, _, rfl, O, _, rfl, .inl (SqL.of Oa), rfl, flat_ints _, _, rfl, ?_⟩
              show if (!inV (.int y.2.2) ((addAll od (Tk.map (endW ws))).map V.int)) = true then _ else _
              rw [inV_int]
              refine iteND (fun h3 => ?_) (fun h3 => ?_)
              · refine ⟨_, rfl, .inl ⟨rfl, _, SqL.of Oa⟩, _, rfl, O, _, _, rfl, rfl, Oa, by rw [List.length_map]; omega, ?_⟩
                refine ⟨_, _, rfl, msr_lt h1 h2, sameOut sa O0, by rw [upd_ne nOS.symm]; exact Ba, by rw [upd_ne nRO]; exact Ra, fun q m => (nta q m).kp (d := O) (nO Hb _ _ _ Oa (nta q m)) fun b ys n e => by rw [upd_ne n]; exact e, ?_, by rw [upd_ne nZO]; exact Za, on.snoc h1 h2, r2⟩
                rw [upd_same, am, addAll_snoc, if_neg h3, List.map_append]
                rfl
              · refine ⟨_, _, rfl, msr_lt h1 h2, sa, Ba, Ra, nta, ?_, Za, on.snoc h1 h2, r2⟩
                rw [am, addAll_snoc, if_pos h3]
                exact Oa
            · rintro σ Ha ⟨o3, o5, o6, o7, o8, o9, rfl, sa, _, Ra, nta, Oa⟩
              rw [List.length_map, List.take_length] at Oa
              have ndO : (orderF ws bs (0 :: bs)).Nodup := orderF_nodup ws bs (List.nodup_cons.mpr ⟨fun m => ((beg.mem 0).mp m).1 rfl, beg.nd⟩)
              have lO : (orderF ws bs (0 :: bs)).length ≤ 1 + bs.length + ws.length := ord_len ndO fun y my => orderF_sub (fun z m => List.mem_append_left _ m) (fun k m => List.mem_append_right _ (List.mem_map.mpr ⟨k, m, rfl⟩)) y my
              have clo := orderF_closed (ws := ws) (bs := bs) w0
              have num : numF ys hm ws bs = if ∀ k ∈ keysA ws, k ∈ orderF ws bs (0 :: bs) then some ((orderF ws bs (0 :: bs)).map (lotF ys hm), arsF ws (orderF ws bs (0 :: bs))) else none := rfl
              have o1 : 0 < (orderF ws bs (0 :: bs)).length := by
                obtain ⟨t, ht⟩ := orderF_pre ws bs (0 :: bs)
                rw [ht]
                simp
              generalize orderF ws bs (0 :: bs) = od at Oa ndO lO clo num o1
              dsimp only [gName, List.set]
              clear O9 R9 nt9 B9 s9 O0 hR
              rw [eSeq, eIfS, eTest, eOp]
              refine lc_keys (d := wa) (kvs := kvK Sum.inl wyV ws) rfl (sa _ _ hW) (fun i xs Hx => ∃ n, xs = List.replicate n (V.int 1) ∧ (n = 0 ↔ ∀ q ∈ ws.take i, q.1 ∈ od)) (fun _ _ _ _ _ h => h) ⟨0, rfl, fun _ q m => absurd m List.not_mem_nil, fun _ => rfl⟩ ?_ (by rw [kv_len]; omega) ?_
              · rintro ob i kk v Hx xs Ny Nn hk fz bx ⟨n, rfl, hn⟩ lx yes no
                obtain ⟨⟨s, y⟩, hr, e⟩ : ∃ q, ws[i]? = some q ∧ (Sum.inl q.1, wyV q.2) = (kk, v) := by
                  unfold kvK at hk
                  rw [List.getElem?_map] at hk
                  obtain ⟨q, e1, e2⟩ := Option.map_eq_some_iff.mp hk
                  exact ⟨q, e1, e2⟩
                cases e
                have tk : ws.take (i + 1) = ws.take i ++ [(s, y)] := by rw [List.take_add_one, hr]; rfl
                have nOw : O ≠ wa := fun e => by
                  have := sa _ _ hW
                  rw [← e, Oa] at this
                  cases this
                have Ox := bx _ _ nOw Oa
                refine ⟨_, rfl, _, rfl, O, _, rfl, .inl (SqL.of Ox), rfl, flat_ints _, _, rfl, ?_⟩
                show if (!inV (.int s) (od.map V.int)) = true then _ else _
                rw [inV_int]
                refine iteND (fun h3 => ?_) (fun h3 => ?_)
                · refine yes _ _ fz (But.refl _ _) ⟨n + 1, by rw [List.replicate_succ'], fun z => absurd z (Nat.succ_ne_zero n), fun z => absurd (z (s, y) (by rw [tk]; exact List.mem_append_right _ List.mem_cons_self)) h3⟩
                · refine no _ fz (But.refl _ _) ⟨n, rfl, hn.trans ⟨fun z q m => ?_, fun z q m => z q (by rw [tk]; exact List.mem_append_left _ m)⟩⟩
                  rw [tk] at m
                  rcases List.mem_append.mp m with m | m
                  · exact z q m
                  · rw [List.mem_singleton.mp m]
                    exact h3
              · rintro L2 xs Hb sab hL2 L2b ⟨n, rfl, hn⟩ lx
                rw [kv_len, List.take_length] at hn
                rw [kv_len, List.length_replicate] at lx
                refine ⟨Nat.zero_le _, fun Z hZ => ?_⟩
                have sbc : Same Ha (upd Hb Z (.lst [])) := sab.trans (sameAdd hZ)
                have Lc := sameAdd (o := .lst []) hZ _ _ L2b
                have Zc : (upd Hb Z (.lst [])) Z = some (.lst []) := upd_same
                generalize upd Hb Z (.lst []) = Hc at sbc Lc Zc ⊢
                have sc := sa.trans sbc
                have Oc := sbc _ _ Oa
                have Rc := sbc _ _ Ra
                have ntc : ∀ q ∈ rs, NT H Hc q.2 ((lotF ys hm q.1).map V.str) := fun q m => (nta q m).same sbc
                clear hZ sab hL2 L2b Oa Ra nta sa sbc
                have er : List.replicate n (V.int 1) = (List.replicate n (1 : Int)).map V.int := by rw [List.map_replicate]
                rw [er] at Lc
                refine ⟨.list ((List.replicate n (1 : Int)).map PyData.int), .list [], .lst (SqL.of Lc) (dp_ints _), .lst (SqL.of Zc) .nil, shaped_ints _, rfl, _, rfl, ?_⟩
                rw [eqv_nil]
                refine iteNot (fun hz => ?_) (fun hz => ?_)
                · -- an arrow begins at what is not met
                  have n0 : ¬ n = 0 := fun e => by
                    rw [e] at hz
                    cases hz
                  refine k ys bs _ Hc perm srt beg sc (.inl ⟨?_, rfl⟩)
                  rw [num, if_neg]
                  intro z
                  exact n0 (hn.mpr fun q m => z _ (List.mem_map.mpr ⟨q, m, rfl⟩))
                · have n0 : n = 0 := by
                    cases n with
                    | zero => rfl
                    | succ n => cases hz
                  have all := hn.mp n0
                  have num2 : numF ys hm ws bs = some (od.map (lotF ys hm), arsF ws od) := by
                    rw [num, if_pos]
                    intro s m
                    obtain ⟨q, mq, rfl⟩ := List.mem_map.mp m
                    exact all q mq
                  clear num hz Lc Zc er hn
                  refine ⟨_, rfl, _, rfl, O, _, rfl, .inl (SqL.of Oc), _, rfl, fun r hr => ?_⟩
                  have scd : Same Hc (upd Hc r (.rng 0 ((od.map V.int).length : Int))) := sameAdd hr
                  have rd : (upd Hc r (.rng 0 ((od.map V.int).length : Int))) r = some (.rng 0 (od.length : Int)) := by rw [upd_same, List.length_map]
                  generalize upd Hc r (.rng 0 ((od.map V.int).length : Int)) = Hd0 at scd rd ⊢
                  refine ⟨O, r, od, rfl, SqL.of (scd _ _ Oc), rd, o1, by omega, fun p hp => ?_⟩
                  rw [pl_merge ndO]
                  have s2 := scd.trans (sameAdd (o := .dK (kvK Sum.inl V.int (pl od))) hp)
                  have pe : (upd Hd0 p (.dK (kvK Sum.inl V.int (pl od)))) p = some (.dK (kvK Sum.inl V.int (pl od))) := upd_same
                  have npw : p ≠ wa := fun e => by
                    have := scd _ _ (sc _ _ hW)
                    rw [← e, hp] at this
                    cases this
                  generalize upd Hd0 p (.dK (kvK Sum.inl V.int (pl od))) = He at s2 pe ⊢
                  have se := sc.trans s2
                  have Oe := s2 _ _ Oc
                  have Re := s2 _ _ Rc
                  have nte : ∀ q ∈ rs, NT H He q.2 ((lotF ys hm q.1).map V.str) := fun q m => (ntc q m).same s2
                  clear hp scd rd hr s2 Oc Rc ntc sc
                  dsimp only [gName, List.set]
                  refine ⟨_, rfl, O, rfl, ⟨_, SqL.of Oe⟩, fun D hD => lc_list (K := K) (a := O) (xs := od.map V.int) (fun i Hx => Same He Hx ∧ ∃ ls : List Addr, Hx D = some (.lst (ls.map V.ref)) ∧ Paired (fun (a : Addr) (s : Int) => NT H Hx a ((lotF ys hm s).map V.str)) ls (od.take i)) ⟨sameAdd hD, [], upd_same, .nil⟩ (fun i Hx _ h => SqL.of (h.1 _ _ Oe)) ?_ ?_⟩
                  · rintro i x Hx hx ⟨sx, ls, Dx, px⟩
                    have hi := (List.getElem?_eq_some_iff.mp hx).1
                    rw [List.length_map] at hi
                    obtain ⟨s, hs, rfl⟩ : ∃ s, od[i]? = some s ∧ x = V.int s := by
                      rw [List.getElem?_map] at hx
                      obtain ⟨n, e, q⟩ := Option.map_eq_some_iff.mp hx
                      exact ⟨n, e, q.symm⟩
                    have tk : od.take (i + 1) = od.take i ++ [s] := by rw [List.take_add_one, hs]; rfl
                    have lls : ls.length = i := by
                      rw [Paired.length px, List.length_take]
                      omega
                    refine ⟨rfl, _, rfl, R, rfl, .inl ⟨_, .of (sx _ _ Re)⟩, _, rfl, Nat.zero_le _, fun t ht => ?_⟩
                    have sxt : Same Hx (upd Hx t (.tup [])) := sameAdd ht
                    refine ⟨_, dgetI (f := V.ref) (sxt _ _ (sx _ _ Re)) s, ?_⟩
                    have t0 : H t = none := (se.trans sx).free ht
                    obtain ⟨la, eL, nL⟩ : ∃ la, ((getA rs s).map V.ref).getD (.ref t) = .ref la ∧ NT H (upd Hx t (.tup [])) la ((lotF ys hm s).map V.str) := by
                      cases e : getA rs s with
                      | some a => exact ⟨a, rfl, (nte _ (getA_mem e)).same (sx.trans sxt)⟩
                      | none =>
                        refine ⟨t, rfl, t0, ?_⟩
                        have : lotF ys hm s = [] := by
                          apply Classical.byContradiction
                          intro z
                          obtain ⟨v, q, _⟩ := getA_in ((mem3 s).mpr z)
                          rw [e] at q
                          cases q
                        rw [this]
                        exact upd_same
                    rw [eL]
                    have Dt := sxt _ _ Dx
                    generalize upd Hx t (.tup []) = Hy at sxt nL Dt ⊢
                    have kp : Kp D Hy (upd Hy D (.lst (ls.map V.ref ++ [V.ref la]))) := fun b ys n e => by rw [upd_ne n]; exact e
                    have nD : ∀ a xs, NT H Hy a xs → a ≠ D := fun a xs h e => by
                      rw [← e, h.2] at Dt
                      cases Dt
                    refine ⟨_, Dt, by rw [List.length_map]; omega, sameOut (sx.trans sxt) hD, ls ++ [la], by rw [upd_same, List.map_append]; rfl, ?_⟩
                    rw [tk]
                    exact paired_snoc (paired_mpL px fun a s h => (h.same sxt).kp (nD _ _ (h.same sxt)) kp) (nL.kp (nD _ _ nL) kp)
                  · rintro Hf ⟨sef, ls, Df, pf⟩
                    rw [List.length_map, List.take_length] at pf
                    refine ⟨D, _, rfl, .inl ⟨SqL.of Df, fun q hq => ?_⟩⟩
                    have sfg : Same Hf (upd Hf q (.tup (ls.map V.ref))) := sameAdd hq
                    have qg : NT H (upd Hf q (.tup (ls.map V.ref))) q (ls.map V.ref) := ⟨(se.trans sef).free hq, upd_same⟩
                    have pg := paired_mpL pf fun a s h => h.same sfg
                    generalize upd Hf q (.tup (ls.map V.ref)) = Hg at sfg qg pg ⊢
                    have sg := (se.trans sef).trans sfg
                    have Pg := sfg _ _ (sef _ _ pe)
                    clear pf Df hq hD
                    dsimp only [gName, List.set]
                    rw [eRet, eTup, eCons]
                    refine ⟨_, rfl, ?_⟩
                    dsimp only
                    rw [eCons, eCB, eCons, eCB, eCons]
                    have hWg := sg _ _ hW
                    refine lc_keys (d := wa) (kvs := kvK Sum.inl wyV ws) rfl hWg (fun i xs Hx => ∃ ts : List Addr, xs = ts.map V.ref ∧ Paired (fun (t : Addr) (q : Ar) => t ≠ wa ∧ NT H Hx t [.int q.1, .str q.2.1, .int q.2.2]) ts ((ws.take i).map fun q => (ixO od q.1, q.2.2.1, ixO od q.2.2.2)))
                      ?_ ⟨[], rfl, .nil⟩ ?_ (by rw [kv_len]; omega) ?_
                    · rintro i xs H5 H6 kp ⟨ts, rfl, pr⟩
                      exact ⟨ts, rfl, paired_mpL pr fun t q ⟨nt, h⟩ => ⟨nt, h.kp nt kp⟩⟩
                    · rintro ob i kk v Hx xs Ny Nn hk fz bx ⟨ts, rfl, pr⟩ lx yes no
                      obtain ⟨⟨s, y⟩, hr, e⟩ : ∃ q, ws[i]? = some q ∧ (Sum.inl q.1, wyV q.2) = (kk, v) := by
                        unfold kvK at hk
                        rw [List.getElem?_map] at hk
                        obtain ⟨q, e1, e2⟩ := Option.map_eq_some_iff.mp hk
                        exact ⟨q, e1, e2⟩
                      cases e
                      have tk : (ws.take (i + 1)).map (fun q => (ixO od q.1, q.2.2.1, ixO od q.2.2.2)) = (ws.take i).map (fun q => (ixO od q.1, q.2.2.1, ixO od q.2.2.2)) ++ [(ixO od s, y.2.1, ixO od y.2.2)] := by rw [List.take_add_one, hr, List.map_append]; rfl
                      have m := List.mem_of_getElem? hr
                      have gy : getA ws s = some y := mem_getA ndW m
                      have i1 : s ∈ od := all _ m
                      have i2 : y.2.2 ∈ od := by
                        have := clo s i1 (List.mem_map.mpr ⟨_, m, rfl⟩)
                        rw [endW_of gy] at this
                        exact this
                      have dw : ∀ Hx, Hx wa = some (.frz ob (.dK (kvK Sum.inl wyV ws))) → DGet Hx wa (.int s) (some (.ref y.1)) := fun Hx fz => by
                        have := dgetIR (f := wyV) (.inr ⟨ob, fz⟩) s
                        rw [gy] at this
                        exact this
                      have dp : ∀ x ∈ od, DGet Hx p (.int x) (some (.int (ixO od x))) := fun x mx => by
                        have := dgetI (f := V.int) (bx _ _ npw Pg) x
                        rw [pl_get mx] at this
                        exact this
                      have yt : SqT K Hx y.1 [.str y.2.1, .int y.2.2] := sq_but bx hWg (sameT sg (hWt _ m))
                      refine ⟨_, rfl, _, rfl, p, _, rfl, dp s i1, _, rfl, _, rfl, wa, _, rfl, dw _ fz, y.1, _, 0, V.str y.2.1, rfl, rfl, yt, rfl, _, rfl, _, rfl, _, rfl, wa, _, rfl, dw _ fz, y.1, _, 1, V.int y.2.2, rfl, rfl, yt, rfl, p, _, rfl, dp _ i2, by show 3 ≤ sizeLine; decide, fun t ht => ?_⟩
                      have ntw : t ≠ wa := fun z => by
                        rw [z, fz] at ht
                        cases ht
                      have b6 : But wa Hx (upd Hx t (.tup [V.int (ixO od s), V.str y.2.1, V.int (ixO od y.2.2)])) := (But.refl wa Hx).add ht
                      have t0 : H t = none := by
                        cases e : H t with
                        | none => rfl
                        | some o =>
                          have := bx _ _ ntw (sg _ _ e)
                          rw [ht] at this
                          cases this
                      refine yes _ _ (by rw [upd_ne ntw.symm]; exact fz) b6 ⟨ts ++ [t], by rw [List.map_append]; rfl, ?_⟩
                      rw [tk]
                      exact paired_snoc (paired_mpL pr fun t q ⟨nt, h⟩ => ⟨nt, h.1, b6 _ _ nt h.2⟩) ⟨ntw, t0, upd_same⟩
                    · rintro L3 xs Hh sgh hL3 L3h ⟨ts, rfl, pr⟩ lx
                      rw [kv_len, List.take_length] at pr
                      rw [kv_len] at lx
                      have sh := sg.trans sgh
                      refine ⟨L3, ts.map V.ref, Ar, _, arD, fun x b => ∃ t, x = V.ref t ∧ NT H Hh t [.int b.1, .str b.2.1, .int b.2.2], rfl, SqL.of L3h, fun x m => ?_, paired_map1 (fun t q h => ⟨t, rfl, h.2⟩) pr, paired_map1 (fun t q h => .tup (SqT.of h.2.2) (.cons (.int _) (.cons (.str _) (.cons (.int _) .nil)))) pr, fun b b' => by simp [arD, PySem.W.alike, PySem.W.alikeAll], fun b => ⟨_, _, rfl⟩, fun b _ => by simp [arD, PyData.depth, PyData.depthAll], fun zs p2 pz prz hp2 => ?_⟩
                      · obtain ⟨t, _, rfl⟩ := List.mem_map.mp m
                        exact ⟨t, rfl⟩
                      · refine ⟨p2, _, rfl, .inl ⟨SqL.of upd_same, fun q2 hq2 => ⟨by show 2 ≤ sizeLine; decide, fun u hu2 => ?_⟩⟩⟩
                        have si : Same Hh (upd (upd (upd Hh p2 (.lst zs)) q2 (.tup zs)) u (.tup [V.ref q, V.ref q2])) := ((sameAdd hp2).trans (sameAdd hq2)).trans (sameAdd hu2)
                        have Q2 : (upd (upd (upd Hh p2 (.lst zs)) q2 (.tup zs)) u (.tup [V.ref q, V.ref q2])) q2 = some (.tup zs) := sameAdd hu2 _ _ upd_same
                        have U2 : (upd (upd (upd Hh p2 (.lst zs)) q2 (.tup zs)) u (.tup [V.ref q, V.ref q2])) u = some (.tup [V.ref q, V.ref q2]) := upd_same
                        have q0 : H q2 = none := sh.free ((sameAdd hp2).free hq2)
                        have u0 : H u = none := sh.free (((sameAdd hp2).trans (sameAdd hq2)).free hu2)
                        generalize upd (upd (upd Hh p2 (.lst zs)) q2 (.tup zs)) u (.tup [V.ref q, V.ref q2]) = Hi at si Q2 U2 ⊢
                        refine k ys bs _ Hi perm srt beg (sh.trans si) (.inr ⟨_, num2, ?_⟩)
                        refine .tup (NT.nw ⟨u0, U2⟩) (.cons (.tup (NT.nw (qg.same (sgh.trans si))) ?_) (.cons (.tup (NT.nw ⟨q0, Q2⟩) ?_) .nil))
                        · exact da_lots (paired_mpL pg fun a s h => (h.same (sgh.trans si)).nw)
                        · exact da_ars (paired_mpL prz fun z b ⟨t, e, h⟩ => ⟨t, e, (h.same si).nw⟩)
end
end L2.Hx

/-! What is numbered depends on lots and arrows alone, in whatever order they stand. -/
namespace L2.Hx
open PySem PySem.Spec PyProof.Rows
theorem dataLe_anti {β : Type} {enc : β → PyData} {p q : β} (h1 : PySem.W.dataLe false enc p q = true) (h2 : PySem.W.dataLe false enc q p = true) : PySem.W.keyToks (enc p) = PySem.W.keyToks (enc q) := by
  have a1 : (!(PyProof.Rows.listOrd PyProof.Rows.itemOrd).blt (PySem.W.keyToks (enc q)) (PySem.W.keyToks (enc p))) = true := h1
  have a2 : (!(PyProof.Rows.listOrd PyProof.Rows.itemOrd).blt (PySem.W.keyToks (enc p)) (PySem.W.keyToks (enc q))) = true := h2
  rw [Bool.not_eq_true'] at a1 a2
  exact (PyProof.Rows.listOrd PyProof.Rows.itemOrd).total _ _ a2 a1
theorem srt_uniq {β : Type} {enc : β → PyData} {l m : List β} (hi : ∀ a ∈ l, ∀ b ∈ l, PySem.W.keyToks (enc a) = PySem.W.keyToks (enc b) → a = b) (h1 : l.Pairwise fun p q => PySem.W.dataLe false enc p q = true) (h2 : m.Pairwise fun p q => PySem.W.dataLe false enc p q = true) (p : l.Perm m) : l = m :=
  List.Perm.eq_of_pairwise (le := fun p q => PySem.W.dataLe false enc p q = true) (fun a b ma mb q1 q2 => hi a ma b (p.mem_iff.mpr mb) (dataLe_anti q1 q2)) h1 h2 p
theorem str_ext {a b : Str} (h : a.cps.toList = b.cps.toList) : a = b := by
  obtain ⟨x⟩ := a
  obtain ⟨y⟩ := b
  have e2 : x = y := Array.toList_inj.mp h
  rw [e2]
theorem arD_inj {a b : Ar} (h : PySem.W.keyToks (arD a) = PySem.W.keyToks (arD b)) : a = b := by
  obtain ⟨a1, a2, a3⟩ := a
  obtain ⟨b1, b2, b3⟩ := b
  simp [arD, PySem.W.keyToks, PySem.W.keyToksAll] at h
  obtain ⟨h1, h2, h3⟩ := h
  have h4 : a2 = b2 := str_ext (by first | exact h2 | exact congrArg Array.toList h2 | rw [h2])
  rw [h1, h3, h4]
theorem arsF_perm {ws ws' : Ws} {o : List Int} (h : (ws.map fun q => (q.1, q.2.2)).Perm (ws'.map fun q => (q.1, q.2.2))) : arsF ws o = arsF ws' o := by
  unfold arsF
  have e : ∀ ws : Ws, (ws.map fun q => (ixO o q.1, q.2.2.1, ixO o q.2.2.2)) = (ws.map fun q => (q.1, q.2.2)).map fun q : Ar => (ixO o q.1, q.2.1, ixO o q.2.2) := fun ws => by
    rw [List.map_map]
    rfl
  rw [e ws, e ws']
  have p := h.map fun q : Ar => (ixO o q.1, q.2.1, ixO o q.2.2)
  exact srt_uniq (fun a _ b _ q => arD_inj q) (dataLe_srt arD _) (dataLe_srt arD _) (((List.mergeSort_perm _ _).trans p).trans (List.mergeSort_perm _ _).symm)
theorem reachF_congr {ks ks' : List Int} {M M' : Int → Int} (hk : ∀ x, x ∈ ks ↔ x ∈ ks') (hM : ∀ x ∈ ks, M x = M' x) (a : Int) (S : List Int) : reachF ks M a S = reachF ks' M' a S := by
  by_cases h2 : a ∈ ks ∧ ¬ a ∈ S
  · rw [reachF_on h2.1 h2.2, reachF_on ((hk a).mp h2.1) h2.2, ← hM a h2.1]
    exact reachF_congr hk hM (M a) (S ++ [a])
  · rw [reachF_no h2, reachF_no (fun z => h2 ⟨(hk a).mpr z.1, z.2⟩)]
termination_by msr ks S
decreasing_by exact msr_lt h2.1 h2.2
theorem orderF_congr {ws ws' : Ws} (hk : ∀ x, x ∈ keysA ws ↔ x ∈ keysA ws') (hM : ∀ x ∈ keysA ws, endW ws x = endW ws' x) : ∀ (bs o : List Int), orderF ws bs o = orderF ws' bs o
  | [], _ => rfl
  | b :: bs, o => by
    show orderF ws bs (alongF ws o b) = orderF ws' bs (alongF ws' o b)
    have e : alongF ws o b = alongF ws' o b := by
      unfold alongF
      rw [reachF_congr hk hM]
      congr 1
      refine List.map_congr_left fun x m => ?_
      have o1 := reachF_once (ks := keysA ws') (M := endW ws') b [] Once.nil
      exact hM x ((hk x).mpr (o1.2 x m))
    rw [e]
    exact orderF_congr hk hM bs _
theorem keys_tail (ws : Ws) : keysA ws = (ws.map fun q => (q.1, q.2.2)).map Prod.fst := by
  rw [List.map_map]
  rfl
theorem ends_perm {ws ws' : Ws} (nd : (keysA ws).Nodup) (h : (ws.map fun q => (q.1, q.2.2)).Perm (ws'.map fun q => (q.1, q.2.2))) : (∀ x, x ∈ keysA ws ↔ x ∈ keysA ws') ∧ (keysA ws').Nodup ∧ ∀ x ∈ keysA ws, endW ws x = endW ws' x := by
  have pk : (keysA ws).Perm (keysA ws') := by
    rw [keys_tail, keys_tail]
    exact h.map Prod.fst
  have nd' := pk.nodup_iff.mp nd
  refine ⟨fun x => pk.mem_iff, nd', fun x m => ?_⟩
  obtain ⟨y, e, my⟩ := getA_in m
  have mt := h.mem_iff.mp (List.mem_map.mpr ⟨_, my, rfl⟩ : ((x, y.2) : Ar) ∈ ws.map fun q => (q.1, q.2.2))
  obtain ⟨⟨x', y'⟩, mz, ez⟩ := List.mem_map.mp mt
  obtain ⟨rfl, e2⟩ := Prod.mk.inj ez
  rw [endW_of e, endW_of (mem_getA nd' mz)]
  rw [show y'.2 = y.2 from e2]
/-- numbered, the lots told by a function -/
def numL (lot : Int → List Str) (ws : Ws) (bs : List Int) : Option Cs :=
  if ∀ k ∈ keysA ws, k ∈ orderF ws bs (0 :: bs) then some ((orderF ws bs (0 :: bs)).map lot, arsF ws (orderF ws bs (0 :: bs))) else none
theorem numF_L (ys : List Str) (hm : Hm) (ws : Ws) (bs : List Int) : numF ys hm ws bs = numL (lotF ys hm) ws bs := rfl
theorem numL_perm {lot : Int → List Str} {ws ws' : Ws} {bs : List Int} (nd : (keysA ws).Nodup) (h : (ws.map fun q => (q.1, q.2.2)).Perm (ws'.map fun q => (q.1, q.2.2))) : numL lot ws bs = numL lot ws' bs := by
  obtain ⟨h1, h2, h3⟩ := ends_perm nd h
  have eo := orderF_congr h1 h3 bs (0 :: bs)
  unfold numL
  rw [eo, arsF_perm h]
  by_cases c : ∀ k ∈ keysA ws, k ∈ orderF ws' bs (0 :: bs)
  · rw [if_pos c, if_pos fun k m => c k ((h1 k).mpr m)]
  · rw [if_neg c, if_neg fun z => c fun k m => z k ((h1 k).mp m)]
theorem numL_lots {lot lot' : Int → List Str} {ws : Ws} {bs : List Int} (h : ∀ s ∈ orderF ws bs (0 :: bs), lot s = lot' s) : numL lot ws bs = numL lot' ws bs := by
  unfold numL
  rw [List.map_congr_left h]
/-- the first lots -/
structure BegL (lot : Int → List Str) (bs : List Int) : Prop where
  nd : bs.Nodup
  mem : ∀ s, s ∈ bs ↔ s ≠ 0 ∧ lot s ≠ []
  srt : (bs.map fun s => (lot s, s)).Pairwise fun p q => PySem.W.dataLe false encB p q = true
theorem Begins.L {ys : List Str} {hm : Hm} {bs : List Int} (h : Begins ys hm bs) : BegL (lotF ys hm) bs := ⟨h.nd, h.mem, h.srt⟩
theorem encB_last {p q : List Str × Int} (h : PySem.W.keyToks (encB p) = PySem.W.keyToks (encB q)) : p.2 = q.2 := by
  obtain ⟨a, s⟩ := p
  obtain ⟨b, t⟩ := q
  simp only [encB, PySem.W.keyToks, PySem.W.keyToksAll] at h
  have h2 := List.cons.inj h
  have h3 := List.append_inj' h2.2 (by simp)
  have := h3.2
  simp at this
  exact this
theorem BegL.uniq {lot : Int → List Str} {bs cs : List Int} (h1 : BegL lot bs) (h2 : BegL lot cs) : bs = cs := by
  have p : bs.Perm cs := (List.perm_ext_iff_of_nodup h1.nd h2.nd).mpr fun s => (h1.mem s).trans (h2.mem s).symm
  have e := srt_uniq (enc := encB) (fun a ma b mb q => by
    obtain ⟨s, _, rfl⟩ := List.mem_map.mp ma
    obtain ⟨t, _, rfl⟩ := List.mem_map.mp mb
    have : s = t := encB_last q
    rw [this]) h1.srt h2.srt (p.map fun s => (lot s, s))
  have e2 := congrArg (List.map Prod.snd) e
  rw [List.map_map, List.map_map] at e2
  have e3 : ∀ l : List Int, l.map (Prod.snd ∘ fun s => (lot s, s)) = l := fun l => List.map_id'' (fun _ => rfl) l
  rw [e3, e3] at e2
  exact e2
theorem begL_of {lot : Int → List Str} {ks : List Int} (nd : ks.Nodup) (mem : ∀ s, s ∈ ks ↔ s ≠ 0 ∧ lot s ≠ []) : BegL lot (((ks.map fun s => (lot s, s)).mergeSort (PySem.W.dataLe false encB)).map Prod.snd) := by
  have pm := List.mergeSort_perm (ks.map fun s => (lot s, s)) (PySem.W.dataLe false encB)
  have p2 := pm.map Prod.snd
  have e : (ks.map fun s => (lot s, s)).map Prod.snd = ks := by
    rw [List.map_map]
    exact List.map_id'' (fun _ => rfl) ks
  rw [e] at p2
  refine ⟨p2.nodup_iff.mpr nd, fun s => (p2.mem_iff).trans (mem s), ?_⟩
  rw [List.map_map]
  have e2 : ((ks.map fun s => (lot s, s)).mergeSort (PySem.W.dataLe false encB)).map ((fun s => (lot s, s)) ∘ Prod.snd) = (ks.map fun s => (lot s, s)).mergeSort (PySem.W.dataLe false encB) := by
    conv => rhs; rw [← List.map_id ((ks.map fun s => (lot s, s)).mergeSort (PySem.W.dataLe false encB))]
    refine List.map_congr_left fun q m => ?_
    obtain ⟨s, _, rfl⟩ := List.mem_map.mp (pm.mem_iff.mp m)
    rfl
  rw [e2]
  exact dataLe_srt encB _
/-- what is ascending -/
def leZ (a b : Str) : Prop := a.cps.toList ≤ b.cps.toList
theorem rising_pw : ∀ (l : List Str) (p : Str), risingS p l = true → (p :: l).Pairwise leZ
  | [], p, _ => List.pairwise_singleton _ _
  | x :: r, p, h => by
    have h1 : (!ltCps x.cps.toList p.cps.toList && risingS x r) = true := h
    obtain ⟨a, b⟩ := Bool.and_eq_true_iff.mp h1
    have px : leZ p x := by
      rw [ltCps_eq] at a
      have a2 : ¬ x.cps.toList < p.cps.toList := by simpa using a
      exact List.not_lt.mp a2
    have ih := rising_pw r x b
    refine List.pairwise_cons.mpr ⟨fun y hy => ?_, ih⟩
    rcases List.mem_cons.mp hy with rfl | hy
    · exact px
    · exact List.le_trans px ((List.pairwise_cons.mp ih).1 y hy)
theorem sorted_pw : ∀ (l : List Str), sortedS l = true → l.Pairwise leZ
  | [], _ => List.Pairwise.nil
  | x :: r, h => rising_pw r x h
theorem leZ_anti {a b : Str} (h1 : leZ a b) (h2 : leZ b a) : a = b := str_ext (List.le_antisymm h1 h2)
theorem up_uniq {xs ys : List Str} (h1 : xs.Pairwise leZ) (h2 : ys.Pairwise leZ) (p : xs.Perm ys) : xs = ys :=
  List.Perm.eq_of_pairwise (le := leZ) (fun a b _ _ p q => leZ_anti p q) h1 h2 p
theorem lotF_up {ys : List Str} (h : ys.Pairwise leZ) (hm : Hm) (s : Int) : (lotF ys hm s).Pairwise leZ := h.sublist List.filter_sublist
def Up0 (ys : List Str) : Prop := (ys.filter fun n => decide (n ≠ ("nil" : Str))).Pairwise leZ
theorem up_of {ys : List Str} (h : sortedS ys = true) : Up0 ys := (sorted_pw ys h).sublist List.filter_sublist
theorem lotF_0 (ys : List Str) (hm : Hm) (s : Int) : lotF ys hm s = (ys.filter fun n => decide (n ≠ ("nil" : Str))).filter fun n => decide (getA hm n = some s) := by
  unfold lotF
  rw [List.filter_filter]
  refine List.filter_congr fun n _ => ?_
  rw [Bool.and_comm]
theorem lotF_up0 {ys : List Str} (h : Up0 ys) (hm : Hm) (s : Int) : (lotF ys hm s).Pairwise leZ := by
  rw [lotF_0]
  exact List.Pairwise.sublist List.filter_sublist h
/-- a lot read again out of where each of its names stands is the same -/
theorem lotF_back {ys : List Str} {hm : Hm} {s : Int} {l : List Str} (hy : Up0 ys) (nd : ys.Nodup) (hl : l.Pairwise leZ) (nl : l.Nodup) (h : ∀ n, (n ∈ ys ∧ n ≠ "nil" ∧ getA hm n = some s) ↔ n ∈ l) : lotF ys hm s = l :=
  up_uniq (lotF_up0 hy hm s) hl ((List.perm_ext_iff_of_nodup (nd.sublist List.filter_sublist) nl).mpr fun n => mem_lotF.trans (h n))
end L2.Hx

/-! A drawn case. -/
namespace L2.Hx
open PySem PySem.Spec PyProof.Rows
structure HomeOk (ns : List Str) (hm : Hm) : Prop where
  keys : (keysA hm).Perm ("nil" :: ns)
  nil : getA hm "nil" = some 0
  pos : ∀ q ∈ hm, 0 ≤ q.2
structure WaysK (m : Nat) (ws : Ws) : Prop where
  nd : (keysA ws).Nodup
  pos : ∀ q ∈ ws, 0 < q.1
  end0 : ∀ q ∈ ws, 0 ≤ q.2.2.2
  kind : ∀ q ∈ ws, q.2.2.1 = "short" ∨ (q.2.2.1 = "long" ∧ q.2.2.2 ≠ q.1)
  len : ws.length ≤ m
abbrev WaysOk (ws : Ws) : Prop := WaysK 40 ws
theorem WaysK.up {ws : Ws} (h : WaysK 39 ws) : WaysOk ws := ⟨h.nd, h.pos, h.end0, h.kind, Nat.le_succ_of_le h.len⟩
/-- all that is new behind a call is held, beside what was there at the entry -/
theorem Wd.back {p l : Addr} {G H Gx Hx Hy : Hp} (W : Wd p l G H) (Wx : Wd p l Gx Hx) (kx : ∀ b o, b ≠ p → b ≠ l → H b = some o → Hx b = some o) (sy : Same Hx Hy) : ∃ G', Ext p l G H G' Hy ∧ Same (Nw Hx Hy) G' := by
  obtain ⟨o1, hp⟩ : ∃ o, Hx p = some o := by
    obtain ⟨m, t, _, _, h⟩ := Wx.dk
    exact ⟨_, h⟩
  obtain ⟨o2, hl⟩ : ∃ o, Hx l = some o := by
    obtain ⟨m, _, h⟩ := Wx.ls
    exact ⟨_, h⟩
  have fr : ∀ b, Hx b = none → H b = none := fun b e => by
    cases q : H b with
    | none => rfl
    | some o =>
      have := kx b o (fun z => by rw [z, hp] at e; cases e) (fun z => by rw [z, hl] at e; cases e) q
      rw [e] at this
      cases this
  refine ⟨fun b => if (Hx b).isNone = true then Hy b else G b, ⟨⟨fun b o q => ?_, ?_, ?_, ?_, ?_⟩, fun b o q => ?_, fun b o n1 n2 q => sy _ _ (kx b o n1 n2 q), fun b o q g => ?_⟩, fun b o q => ?_⟩
  · split at q
    · exact q
    · by_cases b1 : b = p
      · rw [b1, W.gp] at q
        cases q
      · by_cases b2 : b = l
        · rw [b2, W.gl] at q
          cases q
        · exact sy _ _ (kx b o b1 b2 (W.same _ _ q))
  · show (if (Hx p).isNone = true then Hy p else G p) = none
    rw [hp]
    exact W.gp
  · show (if (Hx l).isNone = true then Hy l else G l) = none
    rw [hl]
    exact W.gl
  · obtain ⟨m, t, a, b, h⟩ := Wx.dk
    exact ⟨m, t, a, b, sy _ _ h⟩
  · obtain ⟨m, a, h⟩ := Wx.ls
    exact ⟨m, a, sy _ _ h⟩
  · show (if (Hx b).isNone = true then Hy b else G b) = some o
    split
    · rename_i e
      have := fr b (by simpa using e)
      rw [W.same _ _ q] at this
      cases this
    · exact q
  · show (if (Hx b).isNone = true then Hy b else G b) = none
    split
    · rename_i e
      have := fr b (by simpa using e)
      rw [q] at this
      cases this
    · exact g
  · show (if (Hx b).isNone = true then Hy b else G b) = some o
    unfold Nw at q
    split at q
    · rename_i e
      rw [if_pos e]
      exact q
    · cases q
theorem numF_alen {ys : List Str} {hm : Hm} {ws : Ws} {bs : List Int} {c : Cs} (h : numF ys hm ws bs = some c) : c.2.length = ws.length := by
  unfold numF at h
  split at h
  case isFalse => cases h
  rw [← Option.some.inj h]
  show (arsF ws _).length = _
  unfold arsF
  rw [(List.mergeSort_perm _ _).length_eq, List.length_map]
def CaseF (ns : List Str) (c : Cs) : Prop := ∃ ys hm ws bs, HomeOk ns hm ∧ WaysOk ws ∧ ys.Perm (keysA hm) ∧ Up0 ys ∧ Begins ys hm bs ∧ numF ys hm ws bs = some c
def spAny (K : PySem.W.Frag) : Sp := fun vs H Q _ => ∃ (p l : Addr) (G : Hp) (na : Addr) (ns : List Str) (nl : Int), vs = [.ref p, .ref na, .int nl] ∧ Wd p l G H ∧ SqT K G na (ns.map V.str) ∧ ns.Nodup ∧ ¬ ("nil" : Str) ∈ ns ∧ ns.length ≤ 8 ∧ (∀ n ∈ ns, Shp (.str n)) ∧ 0 ≤ nl ∧ nl ≤ 10 ∧
  ∀ c v G' H', CaseF ns c → c.2.length ≤ 39 → Ext p l G H G' H' → Da K G' v (caseD c) → Q v H'
section
variable {P : Program} {w : World} {K : PySem.W.Frag} {mg : Str → Option Value} {base : Heap}
theorem D_l_any_case (T : Txt K mg) : Df P w K mg base 3 "_law_any_case" ["deck", "names", "nameless"] (spAny K) := by
  have D_l_draw := D_draw (P := P) (w := w) (base := base) T
  have D_l_pick := D_pick (P := P) (w := w) (base := base) T
  have D_l_mixed := D_l_mixed (P := P) (w := w) (base := base) T
  have D_l_numbered := D_l_numbered (P := P) (w := w) (base := base) T
  obtain ⟨f, fd, S⟩ := T.d_l_any_case
  refine Df.mk' (k := 2) S sc_l_any_case (fun vs H Q E h => ?_) (fun cdv A outer s H vs Q E hgd hr h => ?_)
  · obtain ⟨p, l, G, na, ns, nl, rfl, _⟩ := h
    rfl
  · obtain ⟨p, l, G, na, ns, nl, rfl, W, nT, nd, nn, ln, shn, nl0, nl1, k⟩ := h
    have hu := hu_of hr
    have big : (2000 : Nat) ≤ sizeLine := by decide
    refine ⟨_, (pss_cons (ps_asg (pe_tup (pa_cons (pe_disp (pps_cons pe_str pe_int pps_nil) (by rfl) (by rfl) (fun z => by cases z) (by decide)) (pa_cons pe_int pa_nil))) (pg_tup rfl (pgs_cons (pg_name (i := 3) sc_l_any_case.nd rfl (.inr rfl)) (pgs_cons (pg_name (i := 4) sc_l_any_case.nd rfl (.inl rfl)) pgs_nil))))
      (pss_cons (ps_for PassesOwn.never rfl (pi_list (pe_d D_l_mixed hgd hr (pa_cons (pv 0) (pa_cons (pe_callTy call_list_of (by rfl) T.b_list (by decide +kernel) (pa_cons (pv 1) pa_nil)) pa_nil)))) (pg_name (i := 5) sc_l_any_case.nd rfl (.inl rfl))
      (pss_cons (ps_dput hu (pv 3) (pv 5) (pe_ifExp (pt_cmpR op_eq (pe_d D_l_draw hgd hr (pa_cons (pv 0) (pa_cons pe_int pa_nil))) pe_int (nomark _)) (pe_d D_l_draw hgd hr (pa_cons (pv 0) (pa_cons (pe_op op_add (pv 4) pe_int) pa_nil))) (pe_op op_add (pv 4) pe_int)) rfl)
      (pss_one (ps_set (i := 4) sc_l_any_case.nd rfl (.inl rfl) (pe_callB (call_max2 rfl) (by rfl) T.b_max (by decide +kernel) (pa_cons (pv 4) (pa_cons (pe_dget hu (pv 3) (pv 5) (fun _ _ => rfl)) pa_nil)))))))
      (pss_cons (ps_asg (pe_tup (pa_cons (pe_listRg rfl (by rfl) T.b_list (prg_2 (by rfl) T.b_range pe_int (pe_op op_add (pe_op op_add (pv 4) pe_int) (pv 2)))) (pa_cons pe_dnewK pa_nil))) (pg_tup rfl (pgs_cons (pg_name (i := 6) sc_l_any_case.nd rfl (.inl rfl)) (pgs_cons (pg_name (i := 7) sc_l_any_case.nd rfl (.inr rfl)) pgs_nil))))
      (pss_cons (ps_for PassesOwn.never rfl (pi_list (pv 6)) (pg_name (i := 8) sc_l_any_case.nd rfl (.inl rfl))
      (pss_cons (ps_set (i := 9) sc_l_any_case.nd rfl (.inl rfl) (pe_d D_l_pick hgd hr (pa_cons (pv 0) (pa_cons (pe_op op_cat (pe_lst (pa_cons pe_int pa_nil)) (pv 6)) pa_nil))))
      (pss_one (ps_if (pt_cmpR op_gt (pe_d D_l_draw hgd hr (pa_cons (pv 0) (pa_cons pe_int pa_nil))) pe_int (nomark _)) (pss_cons (ps_set (i := 10) sc_l_any_case.nd rfl (.inl rfl) (pe_ifExp (pt_cmpR op_eq (pv 9) (pv 8) (nomark _)) pe_str (pe_d D_l_pick hgd hr (pa_cons (pv 0) (pa_cons (pe_lst (pa_cons pe_str (pa_cons pe_str pa_nil))) pa_nil)))))
      (pss_one (ps_dput hu (pv 7) (pv 8) (pe_tup (pa_cons (pv 10) (pa_cons (pv 9) pa_nil))) rfl))) pss_nil))))
      (pss_cons (ps_for PassesOwn.never rfl (pi_range1 rfl T.b_range (pa_cons (pe_op op_add (pv 2) pe_int) pa_nil)) (pg_name (i := 11) sc_l_any_case.nd rfl (.inl rfl))
      (pss_cons (ps_set (i := 12) sc_l_any_case.nd rfl (.inl rfl) (pe_d D_l_numbered hgd hr (pa_cons (pv 3) (pa_cons (pv 7) pa_nil))))
      (pss_cons (ps_if (pt_cmpR op_notN (pv 12) pe_non (nomark _)) (pss_one (ps_ret (pv 12))) pss_nil)
      (pss_cons (ps_set (i := 13) sc_l_any_case.nd rfl (.inr rfl) (pe_lock (pe_lc (own := [("name", 5)]) (g := gName 5) (tt := tYes) rfl sc_l_any_case.nd (pi_keys (pv 3)) (blkOk_by (own := [("name", 5)]) (N := ["deck", "names", "nameless", "home", "top", "name", "spots", "ways", "spot", "end", "kind", "turn", "case", "met", "begin"]) (sc := defScope s_l_any_case) (by decide +kernel)) (fun _ _ _ _ _ => pg_name (i := 5) sc_l_any_case.nd rfl (.inl rfl)) (fun _ _ _ _ _ => pts_nil) (fun _ _ _ _ _ => (pe_dget hu (pv 3) (pv 5) (fun _ _ => rfl))))))
      (pss_cons (ps_for PassesOwn.never rfl (pi_list (pe_op op_rep (pe_callTy (call_listD rfl) (by rfl) T.b_list (by decide +kernel) (pa_cons (pv 7) pa_nil)) (pe_op op_add (pv 2) pe_int))) (pg_name (i := 14) sc_l_any_case.nd rfl (.inl rfl))
      (pss_one (ps_if (PW.pt (pw_and (pt_cmpR op_in_seq (pv 14) (pv 13) (by rfl)) (pw_and1 (pt_cmp (pc_din hu (pv 14) (pv 7)))))) (pss_one (ps_expr (pe_bm PySem.F.plainAttrs_list PySem.F.slot_list_append PySem.F.type_list_append mt_append (pv 13) (pa_cons (pe_ix ix_tup (pe_dget hu (pv 7) (pv 14) (fun _ _ => rfl)) pe_int (fun _ _ => rfl)) pa_nil)))) pss_nil)))
      (pss_one (ps_set (i := 7) sc_l_any_case.nd rfl (.inr rfl) (pe_callTy (call_dictP rfl) (by rfl) T.b_dict (by decide +kernel) (pa_cons (pe_lock (pe_lc (X := (cxOf CX0 P w K mg base ["deck", "names", "nameless", "home", "top", "name", "spots", "ways", "spot", "end", "kind", "turn", "case", "met", "begin"] "_law_any_case" (defScope s_l_any_case) f cdv A outer s H E).nox) (own := [("begin", 14)]) (g := gName 14) (tt := tTest (tOp (rIn K false) (tVar 14) (tVar 13))) (te := tTup (tCons (tVar 14) (tCons (tDGet (tVar 7) (tVar 14)) tNil))) rfl sc_l_any_case.nd (pi_keys (pv 7)) (blkOk_by (own := [("begin", 14)]) (N := ["deck", "names", "nameless", "home", "top", "name", "spots", "ways", "spot", "end", "kind", "turn", "case", "met", "begin"]) (sc := defScope s_l_any_case) (by decide +kernel)) (fun _ _ _ _ _ => pg_name (i := 14) sc_l_any_case.nd rfl (.inl rfl)) (fun _ _ _ _ _ => (pts_one (pt_cmpR op_in_seq (pv 14) (pv 13) (by rfl)))) (fun _ _ _ _ _ => (pe_tup (pa_cons (pv 14) (pa_cons (pe_dget hu (pv 7) (pv 14) (fun _ _ => rfl)) pa_nil)))))) pa_nil)))))))))
      (pss_one (ps_ret (pe_d D_l_numbered hgd hr (pa_cons (pv 3) (pa_cons pe_dnewK pa_nil)))))))))), ?_⟩
    refine fun hd hhd => ⟨upd_same, [(.inr "nil", .int 0)], rfl, by decide, ?_⟩
    have em : mergeK [] [((Sum.inr "nil" : Key), V.int 0)] = kvK Sum.inr V.int [(("nil" : Str), (0 : Int))] := rfl
    rw [em]
    have hp := W.np hhd
    have hl := W.nl hhd
    have gh : G hd = none := W.same.free hhd
    have hh0 := hhd
    have e1 := (W.tmp (o := .dK []) hhd)
    have W1 : Wd p l G (upd (upd H hd (.dK [])) hd (.dK (kvK Sum.inr V.int [(("nil" : Str), (0 : Int))]))) := e1.w.own hp hl gh
    have h1 : (upd (upd H hd (.dK [])) hd (.dK (kvK Sum.inr V.int [(("nil" : Str), (0 : Int))]))) hd = some (.dK (kvK Sum.inr V.int [(("nil" : Str), (0 : Int))])) := upd_same
    have k1 : ∀ b o, b ≠ p → b ≠ l → H b = some o → (upd (upd H hd (.dK [])) hd (.dK (kvK Sum.inr V.int [(("nil" : Str), (0 : Int))]))) b = some o := fun b o _ _ q => by
      rw [upd_ne (ne_of_none q hhd), upd_ne (ne_of_none q hhd)]
      exact q
    generalize upd (upd H hd (.dK [])) hd (.dK (kvK Sum.inr V.int [(("nil" : Str), (0 : Int))])) = H1 at W1 h1 k1 ⊢
    refine ⟨by show 2 ≤ sizeLine; decide, fun t ht => ⟨t, _, rfl, SqT.of upd_same, rfl, _, _, rfl, _, _, rfl, rfl, ?_⟩⟩
    have W2 := (W1.tmp (o := .tup [V.ref hd, V.int 0]) ht).w
    have h2 := sameAdd (o := .tup [V.ref hd, V.int 0]) ht _ _ h1
    have k2 : ∀ b o, b ≠ p → b ≠ l → H b = some o → (upd H1 t (.tup [V.ref hd, V.int 0])) b = some o := fun b o n1 n2 q => sameAdd ht _ _ (k1 b o n1 n2 q)
    generalize upd H1 t (.tup [V.ref hd, V.int 0]) = H2 at W2 h2 k2 ⊢
    clear W1 h1 k1 ht e1 hhd
    dsimp only [gName, List.set]
    -- for name in _law_mixed(deck, list(names))
    refine ⟨_, rfl, _, rfl, na, _, rfl, .inr (sameT W2.same nT), fun L hL => ?_⟩
    have e3 := W2.tmp (o := .lst (ns.map V.str)) hL
    have h3 := e3.keep _ _ hp hl h2
    have L3 : (upd H2 L (.lst (ns.map V.str))) L = some (.lst (ns.map V.str)) := upd_same
    have W3 := e3.w
    have k3 : ∀ b o, b ≠ p → b ≠ l → H b = some o → (upd H2 L (.lst (ns.map V.str))) b = some o := fun b o n1 n2 q => e3.keep b o n1 n2 (k2 b o n1 n2 q)
    generalize upd H2 L (.lst (ns.map V.str)) = H3 at W3 h3 L3 k3 ⊢
    clear W2 h2 k2 e3 hL
    have ez : (ns.map fun n => (V.str n, PyData.str n)).map Prod.fst = ns.map V.str := by rw [List.map_map]; rfl
    refine ⟨p, l, G, L, ns.map fun n => (V.str n, PyData.str n), rfl, W3, .inl (SqL.of (by rw [ez]; exact L3)), by rw [List.length_map]; omega, fun z m => ?_, fun r zs G4 H4 e4 r4 rn rg pm => ?_⟩
    · obtain ⟨n, mn, rfl⟩ := List.mem_map.mp m
      exact ⟨.str n, shn n mn⟩
    obtain ⟨ms, rfl, pms⟩ := perm_map_inv pm _ rfl
    have ez2 : (ms.map fun n => (V.str n, PyData.str n)).map Prod.fst = ms.map V.str := by rw [List.map_map]; rfl
    rw [ez2] at r4
    have rp := W3.np rn
    have rl := W3.nl rn
    obtain ⟨W4, s4⟩ := e4.w.hold rp rl rg r4
    have r4G : (upd G4 r (.lst (ms.map V.str))) r = some (.lst (ms.map V.str)) := upd_same
    have h4 := e4.keep _ _ hp hl h3
    have nhr : hd ≠ r := fun e => by
      rw [← e, h3] at rn
      cases rn
    have g4 : (upd G4 r (.lst (ms.map V.str))) hd = none := by
      rw [upd_ne nhr]
      exact e4.new _ _ h3 gh
    have s04 : Same G (upd G4 r (.lst (ms.map V.str))) := e4.sub.trans s4
    have k4 : ∀ b o, b ≠ p → b ≠ l → H b = some o → H4 b = some o := fun b o n1 n2 q => e4.keep b o n1 n2 (k3 b o n1 n2 q)
    generalize upd G4 r (.lst (ms.map V.str)) = G5 at W4 r4G g4 s04
    clear e4 r4 rg s4 W3 h3 L3 k3 pm rn
    have ndm : ms.Nodup := pms.nodup_iff.mpr nd
    have nnm : ¬ ("nil" : Str) ∈ ms := fun m => nn (pms.mem_iff.mp m)
    have lm : ms.length ≤ 8 := by rw [pms.length_eq]; exact ln
    refine ⟨r, rfl, ⟨_, SqL.of (W4.same _ _ r4G)⟩, for_list (K := K) (a := r) (xs := ms.map V.str) (fun i σ Hx => ∃ (tp : Int) (o5 : Option V), σ = [some (.ref p), some (.ref na), some (.int nl), some (.ref hd), some (.int tp), o5, none, none, none, none, none, none, none, none, none] ∧ 0 ≤ tp ∧ tp ≤ i ∧
        ∃ Gx hm, Wd p l Gx Hx ∧ Same G5 Gx ∧ Gx hd = none ∧ (∀ b o, b ≠ p → b ≠ l → H b = some o → Hx b = some o) ∧ Hx hd = some (.dK (kvK Sum.inr V.int hm)) ∧ keysA hm = ("nil" : Str) :: ms.take i ∧ getA hm "nil" = some 0 ∧ ∀ q ∈ hm, 0 ≤ q.2 ∧ q.2 ≤ tp)
      ⟨0, none, rfl, Int.le_refl _, Int.le_refl _, G5, _, W4, Same.refl _, g4, k4, h4, rfl, rfl, fun q m => by rw [List.mem_singleton.mp m]; exact ⟨Int.le_refl _, Int.le_refl _⟩⟩ (fun i σ Hx _ ⟨_, _, _, _, _, Gx, _, Wx, sx, _⟩ => SqL.of (Wx.same _ _ (sx _ _ r4G))) ?_ ?_⟩
    · rintro i x σ Hx hx ⟨tp, o5, rfl, t0, t1, Gx, hm, Wx, sx, gx, kx, hhx, kk, kn, kv⟩
      have hi := (List.getElem?_eq_some_iff.mp hx).1
      rw [List.length_map] at hi
      obtain ⟨n, hn, rfl⟩ : ∃ n, ms[i]? = some n ∧ x = V.str n := by
        rw [List.getElem?_map] at hx
        obtain ⟨n, e, q⟩ := Option.map_eq_some_iff.mp hx
        exact ⟨n, e, q.symm⟩
      have tk : ms.take (i + 1) = ms.take i ++ [n] := by rw [List.take_add_one, hn]; rfl
      have nin : ¬ n ∈ keysA hm := fun m => by
        rw [kk] at m
        rcases List.mem_cons.mp m with e | m
        · exact nnm (by rw [← e]; exact List.mem_of_getElem? hn)
        · obtain ⟨j, hj⟩ := List.mem_iff_getElem?.mp m
          have lj := (List.getElem?_eq_some_iff.mp hj).1
          rw [List.length_take] at lj
          rw [List.getElem?_take] at hj
          split at hj
          · have := (List.getElem?_inj (by omega) ndm).mp (hj.trans hn.symm)
            omega
          · cases hj
      have lhm : hm.length < sizeLine := by
        have := congrArg List.length kk
        unfold keysA at this
        rw [List.length_map, List.length_cons, List.length_take] at this
        omega
      dsimp only [gName, List.set]
      refine put_by (I := fun v H' => ∃ (z : Int) (G' : Hp), v = .int z ∧ 0 ≤ z ∧ z ≤ tp + 1 ∧ Ext p l Gx Hx G' H') (fun Qn fin => ?_) ?_
      · refine ⟨_, rfl, p, l, Gx, 2, rfl, by decide, by decide, Wx, fun d Hy d0 d1 ey => ⟨rfl, _, rfl, iteB (fun _ => ?_) (fun _ => ?_)⟩⟩
        · refine ⟨_, rfl, _, rfl, _, _, rfl, rfl, p, l, Gx, _, rfl, by omega, by omega, ey.w, fun z Hz z0 z1 ez => fin _ _ ⟨z, Gx, rfl, z0, by omega, ey.trans Wx ez⟩⟩
        · exact ⟨_, rfl, _, _, rfl, rfl, fin _ _ ⟨tp + 1, Gx, rfl, by omega, by omega, ey⟩⟩
      · rintro v Hy ⟨z, Gy, rfl, z0, z1, ey⟩
        have hhy := ey.keep _ _ hp hl hhx
        have gy := ey.new _ _ hhx gx
        refine ⟨_, rfl, _, rfl, hd, _, rfl, dputS (f := V.int) hhy n z lhm, ?_⟩
        have ky : ∀ b o, b ≠ p → b ≠ l → H b = some o → Hy b = some o := fun b o n1 n2 q => ey.keep b o n1 n2 (kx b o n1 n2 q)
        have epu : putA hm n z = hm ++ [(n, z)] := by unfold putA; rw [if_neg nin]
        rw [epu]
        have kk2 : keysA (hm ++ [(n, z)]) = ("nil" : Str) :: ms.take (i + 1) := by
          unfold keysA at kk ⊢
          rw [List.map_append, kk, tk]
          rfl
        have nen : ¬ ("nil" : Str) = n := fun e => nnm (by rw [e]; exact List.mem_of_getElem? hn)
        have kn2 : getA (hm ++ [(n, z)]) "nil" = some 0 := by
          have := get_putA (l := hm) (k := n) (x := ("nil" : Str)) (v := z)
          rw [epu, if_neg nen] at this
          rw [this, kn]
        have gn2 : getA (hm ++ [(n, z)]) n = some z := by
          have := get_putA (l := hm) (k := n) (x := n) (v := z)
          rw [epu, if_pos rfl] at this
          exact this
        have Wz := ey.w.own (o := .dK (kvK Sum.inr V.int (hm ++ [(n, z)]))) hp hl gy
        have hz : (upd Hy hd (.dK (kvK Sum.inr V.int (hm ++ [(n, z)])))) hd = some (.dK (kvK Sum.inr V.int (hm ++ [(n, z)]))) := upd_same
        have kz : ∀ b o, b ≠ p → b ≠ l → H b = some o → (upd Hy hd (.dK (kvK Sum.inr V.int (hm ++ [(n, z)])))) b = some o := fun b o n1 n2 q => by
          rw [upd_ne (ne_of_none q hh0)]
          exact ky b o n1 n2 q
        generalize upd Hy hd (.dK (kvK Sum.inr V.int (hm ++ [(n, z)]))) = Hz at Wz hz kz ⊢
        have dg : DGet Hz hd (.str n) (some (.int z)) := by
          have := dgetS (f := V.int) hz n
          rw [gn2] at this
          exact this
        refine ⟨_, rfl, _, rfl, _, rfl, hd, _, rfl, dg, _, _, rfl, ?_⟩
        dsimp only [gName, List.set]
        refine ⟨if z > tp then z else tp, _, rfl, by split <;> omega, by split <;> omega, Gy, _, Wz, sx.trans ey.sub, gy, kz, hz, kk2, kn2, fun q m => ?_⟩
        rcases List.mem_append.mp m with m | m
        · have := kv q m
          refine ⟨this.1, ?_⟩
          split <;> omega
        · rw [List.mem_singleton.mp m]
          refine ⟨z0, ?_⟩
          show z ≤ _
          split <;> omega
    · rintro σ Hx ⟨tp, o5, rfl, t0, t1, Gx, hm, Wx, sx, gx, kx, hhx, kk, kn, kv⟩
      rw [List.length_map] at t1
      rw [List.length_map, List.take_length] at kk
      clear W4 h4 k4 g4
      dsimp only [gName, List.set]
      have homeOk : HomeOk ns hm := ⟨by rw [kk]; exact pms.cons _, kn, fun q m => (kv q m).1⟩
      have lhm : hm.length ≤ 9 := by
        have := congrArg List.length kk
        unfold keysA at this
        rw [List.length_map, List.length_cons] at this
        omega
      have tp8 : tp ≤ 8 := by omega
      clear kk kn kv t1
      have ndH : (keysA hm).Nodup := homeOk.keys.nodup_iff.mpr (List.nodup_cons.mpr ⟨nn, nd⟩)
      have w0 : ∀ ws : Ws, WaysK 39 ws → ¬ (0 : Int) ∈ keysA ws := fun ws wok m => by
        obtain ⟨q, mq, e⟩ := List.mem_map.mp m
        have := wok.pos q mq
        omega
      -- spots, ways
      refine ⟨_, rfl, _, _, rfl, rfl, _, rfl, _, _, rfl, rfl, 1, tp + 1 + nl, rfl, rfl, RgOk.of_le (by omega) (by omega) (by omega) (by omega), fun sp hsp => ?_⟩
      rw [show tp + 1 + nl = tp + nl + 1 by omega, spL_rg]
      have f1 := Wx.put (o := .lst ((spL (tp + nl).toNat).map V.int)) hsp
      have hh1 := sameAdd (o := .lst ((spL (tp + nl).toNat).map V.int)) hsp _ _ hhx
      have gh1 : (upd Gx sp (.lst ((spL (tp + nl).toNat).map V.int))) hd = none := f1.new _ _ hhx gx
      have sp1 : (upd Gx sp (.lst ((spL (tp + nl).toNat).map V.int))) sp = some (.lst ((spL (tp + nl).toNat).map V.int)) := upd_same
      have ks1 : ∀ b o, b ≠ p → b ≠ l → H b = some o → (upd Hx sp (.lst ((spL (tp + nl).toNat).map V.int))) b = some o := fun b o n1 n2 q => f1.keep b o n1 n2 (kx b o n1 n2 q)
      have ss1 : Same G5 (upd Gx sp (.lst ((spL (tp + nl).toNat).map V.int))) := sx.trans f1.sub
      have Ws1 := f1.w
      have nsp : sp ≠ hd := fun e => by rw [e, hhx] at hsp; cases hsp
      generalize upd Gx sp (.lst ((spL (tp + nl).toNat).map V.int)) = Ga at Ws1 gh1 sp1 ss1
      generalize upd Hx sp (.lst ((spL (tp + nl).toNat).map V.int)) = Ha at Ws1 hh1 ks1 ⊢
      clear f1 hsp hhx kx sx gx Wx
      generalize hN : (tp + nl).toNat = N at sp1
      have lN : N ≤ 18 := by omega
      refine fun wd hwd => ⟨by show 2 ≤ sizeLine; decide, fun t ht => ⟨t, _, rfl, SqT.of upd_same, rfl, _, _, rfl, _, _, rfl, rfl, ?_⟩⟩
      have wp := Ws1.np hwd
      have wl := Ws1.nl hwd
      have gw : Ga wd = none := Ws1.same.free hwd
      have nwh : wd ≠ hd := fun e => by rw [e, hh1] at hwd; cases hwd
      have g1 := Ws1.tmp (o := .dK []) hwd
      have g2 := g1.trans Ws1 (g1.w.tmp (o := .tup [V.ref sp, V.ref wd]) ht)
      have hwd0 : H wd = none := by
        cases e : H wd with
        | none => rfl
        | some o =>
          have := ks1 _ _ wp wl e
          rw [hwd] at this
          cases this
      have hh2 := g2.keep _ _ hp hl hh1
      have wd2 : (upd (upd Ha wd (.dK [])) t (.tup [V.ref sp, V.ref wd])) wd = some (.dK (kvK Sum.inl wyV ([] : Ws))) := sameAdd ht _ _ upd_same
      have ks2 : ∀ b o, b ≠ p → b ≠ l → H b = some o → (upd (upd Ha wd (.dK [])) t (.tup [V.ref sp, V.ref wd])) b = some o := fun b o n1 n2 q => g2.keep b o n1 n2 (ks1 b o n1 n2 q)
      have Ws2 := g2.w
      generalize upd (upd Ha wd (.dK [])) t (.tup [V.ref sp, V.ref wd]) = Hb at Ws2 hh2 wd2 ks2 ⊢
      clear g1 g2 hwd ht hh1 ks1 Ws1
      dsimp only [gName, List.set]
      refine ⟨_, rfl, sp, rfl, ⟨_, SqL.of (Ws2.same _ _ sp1)⟩, for_list (K := K) (a := sp) (xs := (spL N).map V.int) (fun i σ Hx => ∃ (o5 o8 o9 o10 : Option V), σ = [some (.ref p), some (.ref na), some (.int nl), some (.ref hd), some (.int tp), o5, some (.ref sp), some (.ref wd), o8, o9, o10, none, none, none, none] ∧
          ∃ (Gx : Hp) (ws : Ws), Wd p l Gx Hx ∧ Same Ga Gx ∧ Gx hd = none ∧ Gx wd = none ∧ (∀ b o, b ≠ p → b ≠ l → H b = some o → Hx b = some o) ∧ Hx hd = some (.dK (kvK Sum.inr V.int hm)) ∧ Hx wd = some (.dK (kvK Sum.inl wyV ws)) ∧
          WaysK 39 ws ∧ ws.length ≤ i ∧ (∀ q ∈ ws, q.1 ≤ i) ∧ ∀ q ∈ ws, Gx q.2.1 = some (.tup [.str q.2.2.1, .int q.2.2.2]))
        ⟨_, _, _, _, rfl, Ga, [], Ws2, Same.refl _, gh1, gw, ks2, hh2, wd2, ⟨List.nodup_nil, fun q m => absurd m List.not_mem_nil, fun q m => absurd m List.not_mem_nil, fun q m => absurd m List.not_mem_nil, Nat.zero_le _⟩, Nat.le_refl _, fun q m => absurd m List.not_mem_nil, fun q m => absurd m List.not_mem_nil⟩
        (fun i σ Hx _ ⟨_, _, _, _, _, Gx, _, Wx, sx, _⟩ => SqL.of (Wx.same _ _ (sx _ _ sp1))) ?_ ?_⟩
      · rintro i x σ Hx hx ⟨o5, o8, o9, o10, rfl, Gx, ws, Wx, sx, gx, gwx, kx, hhx, wdx, wok, lws, wle, wt⟩
        obtain ⟨b, hb, rfl⟩ : ∃ b, (spL N)[i]? = some b ∧ x = V.int b := by
          rw [List.getElem?_map] at hx
          obtain ⟨n, e, q⟩ := Option.map_eq_some_iff.mp hx
          exact ⟨n, e, q.symm⟩
        obtain ⟨eb, iN⟩ := spL_at hb
        dsimp only [gName, List.set]
        -- end = _law_pick(deck, [0] + spots)
        refine ⟨_, rfl, by show 1 ≤ sizeLine; decide, fun c0 hc0 => ?_⟩
        have j1 := Wx.tmp (o := .lst [V.int 0]) hc0
        have C1 : (upd Hx c0 (.lst [V.int 0])) c0 = some (.lst [V.int 0]) := upd_same
        refine ⟨_, rfl, c0, sp, _, _, rfl, rfl, C1, j1.w.same _ _ (sx _ _ sp1), by rw [List.length_map, spL_len]; show 1 + N ≤ sizeLine; omega, fun c hc => ?_⟩
        have j2 := j1.trans Wx (j1.w.tmp (o := .lst ([V.int 0] ++ (spL N).map V.int)) hc)
        refine ⟨p, l, Gx, c, _, rfl, j2.w, upd_same, j1.w.np hc, j1.w.nl hc, by simp, by simp only [List.length_append, List.length_map, spL_len, List.length_cons, List.length_nil]; omega, fun xe Hy mx ey => ?_⟩
        obtain ⟨e, rfl, e0⟩ : ∃ e : Int, xe = .int e ∧ 0 ≤ e := by
          rcases List.mem_append.mp mx with m | m
          · exact ⟨0, List.mem_singleton.mp m, Int.le_refl _⟩
          · obtain ⟨z, mz, rfl⟩ := List.mem_map.mp m
            exact ⟨z, rfl, by have := spL_mem mz; omega⟩
        have jy := j2.trans Wx ey
        have hhy := jy.keep _ _ hp hl hhx
        have wdy := jy.keep _ _ wp wl wdx
        have ky : ∀ b o, b ≠ p → b ≠ l → H b = some o → Hy b = some o := fun b o n1 n2 q => jy.keep b o n1 n2 (kx b o n1 n2 q)
        have Wy := jy.w
        clear jy ey j2 j1 C1 hc hc0 mx hhx wdx kx
        dsimp only [gName, List.set]
        refine ⟨_, rfl, p, l, Gx, 5, rfl, by decide, by decide, Wy, fun d Hz d0 d1 ez => ⟨_, _, rfl, rfl, _, rfl, iteB (fun _ => ?_) (fun _ => ?_)⟩⟩
        · have hhz := ez.keep _ _ hp hl hhy
          have wdz := ez.keep _ _ wp wl wdy
          have kz : ∀ b o, b ≠ p → b ≠ l → H b = some o → Hz b = some o := fun b o n1 n2 q => ez.keep b o n1 n2 (ky b o n1 n2 q)
          have Wz := ez.w
          clear ez hhy wdy ky Wy
          refine asg_by (I := fun u H' => ∃ kd : Str, u = .str kd ∧ (kd = "short" ∨ (kd = "long" ∧ e ≠ b)) ∧ Ext p l Gx Hz Gx H') (fun Qn fin => ?_) ?_
          · refine ⟨_, rfl, _, rfl, rfl, _, rfl, ?_⟩
            by_cases eb2 : e = b
            · rw [decide_eq_true (show V.int e = V.int b by rw [eb2])]
              exact if_yes rfl (fin _ _ ⟨_, rfl, .inl rfl, Ext.refl Wz⟩)
            · rw [decide_eq_false (show ¬ V.int e = V.int b from fun z => eb2 (V.int.inj z))]
              refine if_no rfl ⟨_, rfl, by show 2 ≤ sizeLine; decide, fun c hc => ?_⟩
              have jc := Wz.tmp (o := .lst [V.str "short", .str "long"]) hc
              refine ⟨p, l, Gx, c, _, rfl, jc.w, upd_same, Wz.np hc, Wz.nl hc, by decide, by decide, fun xe H' mx ex => ?_⟩
              rcases List.mem_cons.mp mx with rfl | m
              · exact fin _ _ ⟨_, rfl, .inl rfl, jc.trans Wz ex⟩
              · rw [List.mem_singleton.mp m]
                exact fin _ _ ⟨_, rfl, .inr ⟨rfl, eb2⟩, jc.trans Wz ex⟩
          · rintro u H' ⟨kd, rfl, hkd, e'⟩
            dsimp only [gName, List.set]
            have hh' := e'.keep _ _ hp hl hhz
            have wd' := e'.keep _ _ wp wl wdz
            have k' : ∀ b o, b ≠ p → b ≠ l → H b = some o → H' b = some o := fun b o n1 n2 q => e'.keep b o n1 n2 (kz b o n1 n2 q)
            have W' := e'.w
            clear e' hhz wdz kz Wz
            refine ⟨_, rfl, _, rfl, by show 2 ≤ sizeLine; decide, fun tt htt => ?_⟩
            have jt := W'.put (o := .tup [V.str kd, .int e]) htt
            have hht := jt.keep _ _ hp hl hh'
            have wdt := jt.keep _ _ wp wl wd'
            have ght := jt.new _ _ hh' gx
            have gwt := jt.new _ _ wd' gwx
            have kt : ∀ b o, b ≠ p → b ≠ l → H b = some o → (upd H' tt (.tup [V.str kd, .int e])) b = some o := fun b o n1 n2 q => jt.keep b o n1 n2 (k' b o n1 n2 q)
            have T1 : (upd Gx tt (.tup [V.str kd, .int e])) tt = some (.tup [V.str kd, .int e]) := upd_same
            have st := jt.sub
            have Wt := jt.w
            generalize upd Gx tt (.tup [V.str kd, .int e]) = Gt at Wt ght gwt T1 st
            generalize upd H' tt (.tup [V.str kd, .int e]) = Ht at Wt hht wdt kt ⊢
            have bn : ¬ b ∈ keysA ws := fun m => by
              obtain ⟨q, mq, e2⟩ := List.mem_map.mp m
              have := wle q mq
              omega
            have epu : putA ws b (tt, kd, e) = ws ++ [(b, tt, kd, e)] := by unfold putA; rw [if_neg bn]
            refine ⟨_, rfl, _, rfl, wd, _, rfl, dputI (f := wyV) wdt b (tt, kd, e) (by omega), ?_⟩
            rw [epu]
            have aw : ∀ q ∈ ws ++ [(b, tt, kd, e)], q ∈ ws ∨ q = (b, tt, kd, e) := fun q m => (List.mem_append.mp m).imp id List.mem_singleton.mp
            refine ⟨_, _, _, _, rfl, Gt, ws ++ [(b, tt, kd, e)], Wt.own wp wl gwt, sx.trans st, ght, gwt, fun b o n1 n2 q => ?_, ?_, upd_same, ⟨?_, ?_, ?_, ?_, ?_⟩, ?_, ?_, ?_⟩
            · rw [upd_ne (ne_of_none q hwd0)]
              exact kt b o n1 n2 q
            · rw [upd_ne nwh.symm]
              exact hht
            · have := putA_nodup (k := b) (v := (tt, kd, e)) wok.nd
              rw [epu] at this
              exact this
            · exact fun q m => (aw q m).elim (wok.pos q) fun z => by rw [z]; show 0 < b; omega
            · exact fun q m => (aw q m).elim (wok.end0 q) fun z => by rw [z]; exact e0
            · exact fun q m => (aw q m).elim (wok.kind q) fun z => by rw [z]; exact hkd
            · rw [List.length_append, List.length_singleton]
              omega
            · rw [List.length_append, List.length_singleton]
              omega
            · exact fun q m => (aw q m).elim (fun m => by have := wle q m; omega) fun z => by rw [z]; show b ≤ _; omega
            · exact fun q m => (aw q m).elim (fun m => st _ _ (wt q m)) fun z => by rw [z]; exact T1
        · refine ⟨_, _, _, _, rfl, Gx, ws, ez.w, sx, gx, gwx, fun b o n1 n2 q => ez.keep b o n1 n2 (ky b o n1 n2 q), ez.keep _ _ hp hl hhy, ez.keep _ _ wp wl wdy, wok, Nat.le_succ_of_le lws, fun q m => ?_, wt⟩
          have := wle q m
          omega
      · rintro σ Hx ⟨o5, o8, o9, o10, rfl, Gx, ws, Wx, sx, gx, gwx, kx, hhx, wdx, wok, lws, wle, wt⟩
        rw [List.length_map, spL_len] at lws
        clear Ws2 hh2 wd2 ks2 wle
        dsimp only [gName, List.set]
        -- for turn in range(nameless + 1)
        refine ⟨_, rfl, _, _, rfl, rfl, nl + 1, rfl, by omega, by omega, for_range (lo := 0) (n := (nl + 1).toNat) (fun i σ Hx => ∃ (o5 o8 o9 o10 o11 o12 o13 o14 : Option V) (wd : Addr), σ = [some (.ref p), some (.ref na), some (.int nl), some (.ref hd), some (.int tp), o5, some (.ref sp), some (.ref wd), o8, o9, o10, o11, o12, o13, o14] ∧
            ∃ (Gx : Hp) (ws : Ws), Wd p l Gx Hx ∧ Same G5 Gx ∧ Gx hd = none ∧ (∀ b o, b ≠ p → b ≠ l → H b = some o → Hx b = some o) ∧ Hx hd = some (.dK (kvK Sum.inr V.int hm)) ∧ Hx wd = some (.dK (kvK Sum.inl wyV ws)) ∧ WaysK 39 ws ∧ ∀ q ∈ ws, SqT K Gx q.2.1 [.str q.2.2.1, .int q.2.2.2])
          ⟨_, _, _, _, none, none, none, none, wd, rfl, Gx, ws, Wx, ss1.trans sx, gx, kx, hhx, wdx, wok, fun q m => SqT.of (wt q m)⟩ ?_ ?_⟩
        · clear Wx sx gx gwx kx hhx wdx wok lws wt ws Gx Hx o5 o8 o9 o10
          rintro i σ Hx hi ⟨o5, o8, o9, o10, o11, o12, o13, o14, wd, rfl, Gx, ws, Wx, sx, gx, kx, hhx, wdx, wok, wt⟩
          dsimp only [gName, List.set]
          refine ⟨_, rfl, _, rfl, hd, wd, hm, ws, rfl, hhx, wdx, fun q m => sameT Wx.same (wt q m), ndH, by omega, wok.nd, by have := wok.len; omega, w0 ws wok, fun ys bs v Hy pys sys beg sy res => ?_⟩
          dsimp only [gName, List.set]
          refine ⟨_, rfl, rfl, _, rfl, ?_⟩
          rcases res with ⟨hno, rfl⟩ | ⟨c, hc, dc⟩
          rotate_left 1
          · rw [decide_eq_false (show ¬ v = .non from fun e => by rw [e] at dc; cases dc)]
            obtain ⟨G', e', s'⟩ := W.back Wx kx sy
            exact if_yes rfl ⟨_, rfl, k c v G' Hy ⟨ys, hm, ws, bs, homeOk, wok.up, pys, up_of sys, beg, hc⟩ (by rw [numF_alen hc]; exact wok.len) e' (dc.mono s')⟩
          rw [decide_eq_true (show (V.non : V) = .non from rfl)]
          refine if_no rfl ?_
          have Wy := (Wx.still sy).w
          have hhy := sy _ _ hhx
          have wdy := sy _ _ wdx
          have ky : ∀ b o, b ≠ p → b ≠ l → H b = some o → Hy b = some o := fun b o n1 n2 q => sy _ _ (kx b o n1 n2 q)
          clear sy kx hhx wdx Wx hno pys sys beg ys bs
          -- met
          rw [tNext]
          dsimp only
          rw [eSeq, eAsg]
          refine lc_keys (d := hd) (kvs := kvK Sum.inr V.int hm) rfl hhy (fun i xs Hx => ∃ zs : List Int, xs = zs.map V.int) (fun _ _ _ _ _ h => h) ⟨[], rfl⟩ ?_ (by rw [kv_len]; omega) ?_
          · rintro ob j kk v Hz xs Ny Nn hk fz bx ⟨zs, rfl⟩ lx yes no
            obtain ⟨⟨n, z⟩, hr, e⟩ : ∃ q, hm[j]? = some q ∧ (Sum.inr q.1, V.int q.2) = (kk, v) := by
              unfold kvK at hk
              rw [List.getElem?_map] at hk
              obtain ⟨q, e1, e2⟩ := Option.map_eq_some_iff.mp hk
              exact ⟨q, e1, e2⟩
            cases e
            have dg : DGet Hz hd (.str n) (some (.int z)) := by
              have := dgetSR (f := V.int) (.inr ⟨ob, fz⟩) n
              rw [mem_getA ndH (List.mem_of_getElem? hr)] at this
              exact this
            rw [eYes]
            exact if_yes rfl ⟨_, rfl, _, rfl, hd, _, rfl, dg, yes _ _ fz (But.refl _ _) ⟨zs ++ [z], by rw [List.map_append]; rfl⟩⟩
          · rintro M xs Hz syz hM Mz ⟨zs, rfl⟩ lx
            rw [kv_len, List.length_map] at lx
            have Wz := (Wy.still syz).w
            have hhz := syz _ _ hhy
            have wdz := syz _ _ wdy
            have kz : ∀ b o, b ≠ p → b ≠ l → H b = some o → Hz b = some o := fun b o n1 n2 q => syz _ _ (ky b o n1 n2 q)
            have Mp := Wy.np hM
            have Ml := Wy.nl hM
            have gM : Gx M = none := Wy.same.free hM
            have M0 : H M = none := by
              cases e : H M with
              | none => rfl
              | some o =>
                have := ky _ _ Mp Ml e
                rw [hM] at this
                cases this
            clear syz hhy wdy ky hM Wy
            dsimp only [gName, List.set]
            refine ⟨_, rfl, wd, _, rfl, .of wdz, fun L1 hL1 => ⟨_, rfl, _, _, rfl, rfl, ?_⟩⟩
            have j1 := Wz.tmp (o := .lst ((kvK Sum.inl wyV ws).map fun kv => kV kv.1)) hL1
            have L2 : (upd Hz L1 (.lst ((kvK Sum.inl wyV ws).map fun kv => kV kv.1))) L1 = some (.lst ((keysA ws).map V.int)) := by
              rw [upd_same]
              unfold kvK keysA
              rw [List.map_map, List.map_map]
              rfl
            have lws : ws.length ≤ 40 := wok.up.len
            have lkw : (keysA ws).length ≤ 40 := by unfold keysA; rw [List.length_map]; exact lws
            have lrep : ((keysA ws).map V.int).length * (nl + 1).toNat ≤ 440 := by
              rw [List.length_map]
              refine Nat.le_trans (Nat.mul_le_mul lkw (show (nl + 1).toNat ≤ 11 by omega)) (by decide)
            refine ⟨L1, _, _, rfl, rfl, L2, by omega, by omega, by omega, fun L3 hL3 => ?_⟩
            have j2 := j1.trans Wz (j1.w.tmp (o := .lst (List.replicate (nl + 1).toNat ((keysA ws).map V.int)).flatten) hL3)
            have L4 : (upd (upd Hz L1 (.lst ((kvK Sum.inl wyV ws).map fun kv => kV kv.1))) L3 (.lst (List.replicate (nl + 1).toNat ((keysA ws).map V.int)).flatten)) L3 = some (.lst (List.replicate (nl + 1).toNat ((keysA ws).map V.int)).flatten) := upd_same
            have hh4 := j2.keep _ _ hp hl hhz
            have M4 := j2.keep _ _ Mp Ml Mz
            have wp' : wd ≠ p := fun e => by
              obtain ⟨m, t, _, _, h⟩ := Wz.dk
              rw [← e, wdz] at h
              cases h
            have wl' : wd ≠ l := fun e => by
              obtain ⟨m, _, h⟩ := Wz.ls
              rw [← e, wdz] at h
              cases h
            have wd4 := j2.keep _ _ wp' wl' wdz
            have k4 : ∀ b o, b ≠ p → b ≠ l → H b = some o → (upd (upd Hz L1 (.lst ((kvK Sum.inl wyV ws).map fun kv => kV kv.1))) L3 (.lst (List.replicate (nl + 1).toNat ((keysA ws).map V.int)).flatten)) b = some o := fun b o n1 n2 q => j2.keep b o n1 n2 (kz b o n1 n2 q)
            have W4 := j2.w
            have nML : M ≠ L3 := fun e => by
              rw [← e] at hL3
              have := j1.keep _ _ Mp Ml Mz
              rw [hL3] at this
              cases this
            generalize hfl : (List.replicate (nl + 1).toNat ((keysA ws).map V.int)).flatten = fl at L4 W4 hh4 M4 wd4 k4 ⊢
            have lfl : fl.length ≤ 440 := by
              rw [← hfl, PyProof.Rows.lm_len_rep_flat]
              rw [Nat.mul_comm]
              exact lrep
            have mfl : ∀ x ∈ fl, ∃ b : Int, x = V.int b := fun x m => by
              rw [← hfl, List.mem_flatten] at m
              obtain ⟨r, hr, m⟩ := m
              rw [(List.mem_replicate.mp hr).2] at m
              obtain ⟨b, _, e⟩ := List.mem_map.mp m
              exact ⟨b, e.symm⟩
            generalize upd (upd Hz L1 (.lst ((kvK Sum.inl wyV ws).map fun kv => kV kv.1))) L3 (.lst fl) = H4 at L4 W4 hh4 M4 wd4 k4 ⊢
            clear hfl j1 j2 L2 hL1 hL3 hhz Mz wdz kz Wz lrep
            refine ⟨L3, rfl, ⟨_, SqL.of L4⟩, for_list (K := K) (a := L3) (xs := fl) (fun j σ Hx => ∃ (o14 : Option V) (zs : List Int), σ = [some (.ref p), some (.ref na), some (.int nl), some (.ref hd), some (.int tp), o5, some (.ref sp), some (.ref wd), o8, o9, o10, some (.int (0 + (i : Int))), some .non, some (.ref M), o14] ∧
                Wd p l Gx Hx ∧ (∀ b o, b ≠ p → b ≠ l → H b = some o → Hx b = some o) ∧ Hx hd = some (.dK (kvK Sum.inr V.int hm)) ∧ Hx wd = some (.dK (kvK Sum.inl wyV ws)) ∧ Hx L3 = some (.lst fl) ∧ Hx M = some (.lst (zs.map V.int)) ∧ zs.length ≤ 9 + j)
              ⟨_, zs, rfl, W4, k4, hh4, wd4, L4, M4, by omega⟩ (fun j σ Hx _ ⟨_, _, _, _, _, _, _, h, _⟩ => SqL.of h) ?_ ?_⟩
            · clear W4 k4 hh4 wd4 L4 M4 lx
              rintro j x σ Hx hx ⟨o14, zs, rfl, Wx, kx, hhx, wdx, Lx, Mx, lz⟩
              have hj := (List.getElem?_eq_some_iff.mp hx).1
              obtain ⟨b, rfl⟩ := mfl x (List.mem_of_getElem? hx)
              dsimp only [gName, List.set]
              refine ⟨_, rfl, _, rfl, M, _, rfl, .inl (SqL.of Mx), rfl, flat_ints zs, _, rfl, ?_⟩
              show if inV (.int b) (zs.map V.int) = true then _ else _
              rw [inV_int]
              refine iteD (fun h1 => ?_) (fun h1 => ⟨_, zs, rfl, Wx, kx, hhx, wdx, Lx, Mx, by omega⟩)
              refine ⟨_, rfl, _, rfl, wd, _, rfl, dgetI (f := wyV) wdx b, _, rfl, ?_⟩
              rw [isA]
              refine iteD (fun h2 => ?_) (fun h2 => ⟨_, zs, rfl, Wx, kx, hhx, wdx, Lx, Mx, by omega⟩)
              obtain ⟨y, hy, my⟩ := getA_in h2
              have dg : DGet Hx wd (.int b) (some (.ref y.1)) := by
                have := dgetI (f := wyV) wdx b
                rw [hy] at this
                exact this
              refine ⟨_, rfl, .inl ⟨rfl, _, SqL.of Mx⟩, _, rfl, _, rfl, wd, _, rfl, dg, y.1, _, 1, V.int y.2.2, rfl, rfl, sameT Wx.same (wt _ my), rfl, M, _, _, rfl, rfl, Mx, by rw [List.length_map]; omega, ?_⟩
              have nMh : M ≠ hd := fun e => by rw [e, hhx] at Mx; cases Mx
              have nMw : M ≠ wd := fun e => by rw [e, wdx] at Mx; cases Mx
              refine ⟨_, zs ++ [y.2.2], rfl, Wx.own Mp Ml gM, fun b o n1 n2 q => ?_, by rw [upd_ne nMh.symm]; exact hhx, by rw [upd_ne nMw.symm]; exact wdx, by rw [upd_ne nML.symm]; exact Lx, by rw [upd_same, List.map_append]; rfl, by rw [List.length_append, List.length_singleton]; omega⟩
              rw [upd_ne (ne_of_none q M0)]
              exact kx b o n1 n2 q
            · clear W4 k4 hh4 wd4 L4 M4 lx zs
              rintro σ Hx ⟨o14, zs, rfl, Wx, kx, hhx, wdx, Lx, Mx, lz⟩
              dsimp only [gName, List.set]
              rw [eAsg, eCB, eCons]
              refine lc_keys (d := wd) (kvs := kvK Sum.inl wyV ws) rfl wdx (fun j xs Hv => ∃ ts : List Addr, xs = ts.map V.ref ∧ Paired (fun (t : Addr) (q : Int × Wy) => t ≠ wd ∧ Hv t = some (.tup [.int q.1, .ref q.2.1])) ts ((ws.take j).filter fun q => decide (q.1 ∈ zs)))
                ?_ ⟨[], rfl, .nil⟩ ?_ (by rw [kv_len]; have := wok.len; omega) ?_
              · rintro j xs H5 H6 kp ⟨ts, rfl, pr⟩
                exact ⟨ts, rfl, paired_mpL pr fun t q ⟨nt, h⟩ => ⟨nt, kp t _ nt h⟩⟩
              · rintro ob j kk v Hv xs Ny Nn hk fz bx ⟨ts, rfl, pr⟩ lx yes no
                obtain ⟨⟨s, y⟩, hr, e⟩ : ∃ q, ws[j]? = some q ∧ (Sum.inl q.1, wyV q.2) = (kk, v) := by
                  unfold kvK at hk
                  rw [List.getElem?_map] at hk
                  obtain ⟨q, e1, e2⟩ := Option.map_eq_some_iff.mp hk
                  exact ⟨q, e1, e2⟩
                cases e
                have tk : ws.take (j + 1) = ws.take j ++ [(s, y)] := by rw [List.take_add_one, hr]; rfl
                have nMw : M ≠ wd := fun e => by rw [e, wdx] at Mx; cases Mx
                have Mv := bx _ _ nMw Mx
                refine ⟨_, rfl, _, rfl, M, _, rfl, .inl (SqL.of Mv), rfl, flat_ints zs, _, rfl, ?_⟩
                show if inV (.int s) (zs.map V.int) = true then _ else _
                rw [inV_int]
                refine iteD (fun h1 => ?_) (fun h1 => ?_)
                · have dg : DGet Hv wd (.int s) (some (.ref y.1)) := by
                    have := dgetIR (f := wyV) (.inr ⟨ob, fz⟩) s
                    rw [mem_getA wok.nd (List.mem_of_getElem? hr)] at this
                    exact this
                  refine ⟨_, rfl, _, rfl, _, rfl, wd, _, rfl, dg, by show 2 ≤ sizeLine; decide, fun t ht => ?_⟩
                  have ntw : t ≠ wd := fun z => by rw [z, fz] at ht; cases ht
                  have b6 : But wd Hv (upd Hv t (.tup [V.int s, V.ref y.1])) := (But.refl wd Hv).add ht
                  refine yes _ _ (by rw [upd_ne ntw.symm]; exact fz) b6 ⟨ts ++ [t], by rw [List.map_append]; rfl, ?_⟩
                  rw [tk, List.filter_append, List.filter_cons_of_pos (by simpa using h1), List.filter_nil]
                  exact paired_snoc (paired_mpL pr fun t q ⟨nt, h⟩ => ⟨nt, b6 _ _ nt h⟩) ⟨ntw, upd_same⟩
                · refine no _ fz (But.refl _ _) ⟨ts, rfl, ?_⟩
                  rw [tk, List.filter_append, List.filter_cons_of_neg (by simpa using h1), List.filter_nil, List.append_nil]
                  exact pr
              · rintro L5 xs Hv sxv hL5 L5v ⟨ts, rfl, pr⟩ lxv
                rw [kv_len, List.take_length] at pr
                have sub : (ws.filter fun q => decide (q.1 ∈ zs)).Sublist ws := List.filter_sublist
                generalize ws.filter (fun q => decide (q.1 ∈ zs)) = us at pr sub
                have uok : WaysK 39 us := ⟨List.Sublist.nodup (sub.map Prod.fst) wok.nd, fun q m => wok.pos q (sub.subset m), fun q m => wok.end0 q (sub.subset m), fun q m => wok.kind q (sub.subset m), Nat.le_trans sub.length_le wok.len⟩
                have Wv := (Wx.still sxv).w
                refine ⟨L5, ts, kvK Sum.inl wyV us, rfl, SqL.of L5v, ?_, fun w2 hw2 => ?_⟩
                · clear sub uok sxv L5v lxv
                  induction pr with
                  | nil => exact .nil
                  | cons h _ ih => exact .cons (SqT.of h.2) ih
                · have mm := merge_kv (ι := (Sum.inl : Int → Key)) (f := wyV) inl_inj us [] (by rw [List.nil_append]; exact uok.nd)
                  rw [List.nil_append] at mm
                  have mm2 : mergeK [] (kvK (Sum.inl : Int → Key) wyV us) = kvK Sum.inl wyV us := mm
                  rw [mm2]
                  dsimp only [gName, List.set]
                  exact ⟨_, _, _, _, _, _, _, _, w2, rfl, Gx, us, (Wv.tmp hw2).w, sx, gx, fun b o n1 n2 q => sameAdd hw2 _ _ (sxv _ _ (kx b o n1 n2 q)), sameAdd hw2 _ _ (sxv _ _ hhx), upd_same, uok, fun q m => wt q (sub.subset m)⟩
        · rintro σ Hv ⟨o5, o8, o9, o10, o11, o12, o13, o14, wd, rfl, Gv, us, Wv, _, gv, kv, hhv, _, _, _⟩
          refine ⟨_, rfl, fun w2 hw2 => ?_⟩
          have e2 := Wv.tmp (o := .dK []) hw2
          refine ⟨hd, w2, hm, [], rfl, sameAdd hw2 _ _ hhv, upd_same, fun q m => absurd m List.not_mem_nil, ndH, by omega, List.nodup_nil, by decide, List.not_mem_nil, fun ys bs v Hy pys sys beg sy res => ?_⟩
          rcases res with ⟨hno, _⟩ | ⟨c, hc, dc⟩
          · unfold numF at hno
            rw [if_pos (show ∀ k ∈ keysA ([] : Ws), k ∈ orderF [] bs (0 :: bs) from fun k m => absurd m List.not_mem_nil)] at hno
            cases hno
          · obtain ⟨G', e', s'⟩ := W.back e2.w (fun b o n1 n2 q => e2.keep b o n1 n2 (kv b o n1 n2 q)) sy
            exact k c v G' Hy ⟨ys, hm, [], bs, homeOk, ⟨List.nodup_nil, fun q m => absurd m List.not_mem_nil, fun q m => absurd m List.not_mem_nil, fun q m => absurd m List.not_mem_nil, by decide⟩, pys, up_of sys, beg, hc⟩ (by rw [numF_alen hc]; decide) e' (dc.mono s')
end
end L2.Hx

/-! What a drawn case is; where a name stands in it; the looks. -/
namespace L2.Hx
open PySem PySem.Spec PyProof.Rows
structure CaseOk (ns : List Str) (c : Cs) : Prop where
  perm : c.1.flatten.Perm ns
  pos : 0 < c.1.length
  len : c.1.length ≤ 60
  alen : c.2.length ≤ 40
  bnd : (c.2.map fun q => q.1).Nodup
  ar : ∀ q ∈ c.2, 0 ≤ q.1 ∧ q.1 < c.1.length ∧ (q.2.1 = "short" ∨ q.2.1 = "long") ∧ 0 ≤ q.2.2 ∧ q.2.2 < c.1.length
theorem ixO_lt {o : List Int} {s : Int} (h : s ∈ o) : 0 ≤ ixO o s ∧ ixO o s < o.length := by
  have := List.idxOf_lt_length_of_mem h
  unfold ixO
  omega
theorem begins_len {ys : List Str} {hm : Hm} {bs : List Int} (h : Begins ys hm bs) : bs.length ≤ hm.length := by
  have := once_len (T := bs) (ks := hm.map Prod.snd) ⟨h.nd, fun s m => by
    obtain ⟨_, ne⟩ := (h.mem s).mp m
    obtain ⟨n, r, e⟩ := List.exists_cons_of_ne_nil ne
    have mn : n ∈ lotF ys hm s := by
      rw [e]
      exact List.mem_cons_self
    exact List.mem_map.mpr ⟨_, getA_mem (mem_lotF.mp mn).2.2, rfl⟩⟩
  rw [List.length_map] at this
  exact this
theorem case_ok {ns : List Str} {c : Cs} (nd : ns.Nodup) (nn : ¬ ("nil" : Str) ∈ ns) (ln : ns.length ≤ 8) (h : CaseF ns c) : CaseOk ns c := by
  obtain ⟨ys, hm, ws, bs, ho, wo, py, _, bg, hc⟩ := h
  unfold numF at hc
  split at hc
  · rename_i hall
    cases hc
    have n0 : ¬ (0 : Int) ∈ bs := fun m => ((bg.mem 0).mp m).1 rfl
    have nd0 : (0 :: bs).Nodup := List.nodup_cons.mpr ⟨n0, bg.nd⟩
    have ndo := orderF_nodup ws bs nd0
    have k0 : ¬ (0 : Int) ∈ keysA ws := fun m => by
      obtain ⟨q, mq, e⟩ := List.mem_map.mp m
      have := wo.pos q mq
      omega
    have lhm : hm.length ≤ 9 := by
      have := ho.keys.length_eq
      unfold keysA at this
      rw [List.length_map, List.length_cons] at this
      omega
    have lbs := begins_len bg
    have lw := wo.len
    have lo := ord_len (ws := ws) (bs := bs) ndo (orderF_sub (fun x m => List.mem_append_left _ m) fun k m => List.mem_append_right _ (List.mem_map.mpr ⟨k, m, rfl⟩))
    obtain ⟨t, et⟩ := orderF_pre ws bs (0 :: bs)
    have m0 : ∀ x, x ∈ 0 :: bs → x ∈ orderF ws bs (0 :: bs) := fun x m => by
      rw [et]
      exact List.mem_append_left _ m
    have cl := orderF_closed (ws := ws) (bs := bs) k0
    generalize hod : orderF ws bs (0 :: bs) = od at hall ndo lo m0 cl
    have pos : 0 < od.length := List.length_pos_of_mem (m0 0 List.mem_cons_self)
    refine ⟨?_, by rw [List.length_map]; exact pos, by rw [List.length_map]; omega, ?_, ?_, ?_⟩
    · refine (flat_perm ys hm ndo).trans ?_
      have e1 : (ys.filter fun n => decide (n ≠ ("nil" : Str)) && decide (∃ s ∈ od, getA hm n = some s)) = ys.filter fun n => decide (n ≠ ("nil" : Str)) := by
        refine List.filter_congr fun n m => ?_
        by_cases en : n = "nil"
        · rw [decide_eq_false (fun z => z en), Bool.false_and]
        · obtain ⟨s, e, _⟩ := getA_in (py.mem_iff.mp m)
          have ml : n ∈ lotF ys hm s := mem_lotF.mpr ⟨m, en, e⟩
          have : ∃ s ∈ od, getA hm n = some s := by
            refine ⟨s, m0 s ?_, e⟩
            by_cases es : s = 0
            · rw [es]
              exact List.mem_cons_self
            · exact List.mem_cons_of_mem _ ((bg.mem s).mpr ⟨es, fun z => by rw [z] at ml; exact List.not_mem_nil ml⟩)
          rw [decide_eq_true this, Bool.and_true]
      rw [e1]
      refine ((py.trans ho.keys).filter _).trans (List.Perm.of_eq ?_)
      rw [List.filter_cons_of_neg (by simp)]
      exact List.filter_eq_self.mpr fun n m => decide_eq_true fun z => nn (by rw [← z]; exact m)
    · unfold arsF
      rw [List.length_mergeSort, List.length_map]
      exact lw
    · unfold arsF
      refine ((List.mergeSort_perm (ws.map fun q => (ixO od q.1, q.2.2.1, ixO od q.2.2.2)) (PySem.W.dataLe false arD)).map fun q => q.1).nodup_iff.mpr ?_
      rw [List.map_map]
      have nk := wo.nd
      unfold keysA at nk
      rw [List.nodup_iff_pairwise_ne, List.pairwise_map] at nk ⊢
      refine nk.imp_of_mem fun {a b} ma mb hne e => hne ?_
      have ka := hall _ (List.mem_map.mpr ⟨a, ma, rfl⟩)
      have kb := hall _ (List.mem_map.mpr ⟨b, mb, rfl⟩)
      have e2 : od.idxOf a.1 = od.idxOf b.1 := Int.ofNat.inj e
      have h1 := List.getElem?_eq_getElem (List.idxOf_lt_length_of_mem ka)
      have h2 := List.getElem?_eq_getElem (List.idxOf_lt_length_of_mem kb)
      rw [List.getElem_idxOf] at h1 h2
      rw [e2, h2] at h1
      exact (Option.some.inj h1).symm
    · intro q m
      unfold arsF at m
      obtain ⟨r, mr, rfl⟩ := List.mem_map.mp ((List.mergeSort_perm _ _).mem_iff.mp m)
      have mk : r.1 ∈ keysA ws := List.mem_map.mpr ⟨r, mr, rfl⟩
      have h1 := ixO_lt (hall _ mk)
      have h2 := cl _ (hall _ mk) mk
      rw [endW_of (mem_getA wo.nd mr)] at h2
      have h3 := ixO_lt h2
      rw [List.length_map]
      exact ⟨h1.1, h1.2, (wo.kind r mr).imp id fun z => z.1, h3.1, h3.2⟩
  · cases hc
/-- the lot that has the name -/
def spotF (lots : List (List Str)) (t : Str) : Nat := if t = "nil" then 0 else lots.findIdx fun l => decide (t ∈ l)
theorem find_uniq {t : Str} : ∀ {lots : List (List Str)} {i : Nat} {l : List Str}, lots.flatten.Nodup → lots[i]? = some l → t ∈ l → lots.findIdx (fun l => decide (t ∈ l)) = i
  | [], _, _, _, h, _ => by cases h
  | l0 :: ls, 0, l, _, h, m => by
    cases h
    rw [List.findIdx_cons, decide_eq_true m]
    rfl
  | l0 :: ls, i + 1, l, nd, h, m => by
    have h : ls[i]? = some l := h
    rw [List.flatten_cons] at nd
    obtain ⟨_, n2, n3⟩ := List.nodup_append.mp nd
    have no : ¬ t ∈ l0 := fun z => n3 t z t (List.mem_flatten.mpr ⟨l, List.mem_of_getElem? h, m⟩) rfl
    rw [List.findIdx_cons, decide_eq_false no, find_uniq n2 h m]
    rfl
theorem find_at {t : Str} {lots : List (List Str)} (nd : lots.flatten.Nodup) (m : t ∈ lots.flatten) : ∃ l, lots[lots.findIdx fun l => decide (t ∈ l)]? = some l ∧ t ∈ l := by
  obtain ⟨l, ml, mt⟩ := List.mem_flatten.mp m
  obtain ⟨i, e⟩ := List.mem_iff_getElem?.mp ml
  exact ⟨l, by rw [find_uniq nd e mt]; exact e, mt⟩
theorem CaseOk.nd {ns : List Str} {c : Cs} (h : CaseOk ns c) (nd : ns.Nodup) : c.1.flatten.Nodup := h.perm.nodup_iff.mpr nd
theorem CaseOk.spot_lt {ns : List Str} {c : Cs} {t : Str} (h : CaseOk ns c) (nd : ns.Nodup) (m : t = "nil" ∨ t ∈ ns) : spotF c.1 t < c.1.length := by
  unfold spotF
  split
  · exact h.pos
  · rename_i e
    obtain ⟨l, e2, _⟩ := find_at (h.nd nd) (h.perm.mem_iff.mpr (m.resolve_left e))
    exact (List.getElem?_eq_some_iff.mp e2).1
theorem CaseOk.spot_iff {ns : List Str} {c : Cs} {t : Str} {i : Nat} {l : List Str} (h : CaseOk ns c) (nd : ns.Nodup) (nn : ¬ ("nil" : Str) ∈ ns) (m : t = "nil" ∨ t ∈ ns) (hi : c.1[i]? = some l) : (t ∈ l ∨ (t = "nil" ∧ i = 0)) ↔ i = spotF c.1 t := by
  have nnl : ¬ ("nil" : Str) ∈ l := fun z => nn (h.perm.mem_iff.mp (List.mem_flatten.mpr ⟨l, List.mem_of_getElem? hi, z⟩))
  unfold spotF
  by_cases e : t = "nil"
  · rw [if_pos e]
    exact ⟨fun z => z.elim (fun y => absurd (by rw [← e]; exact y) nnl) fun y => y.2, fun z => .inr ⟨e, z⟩⟩
  · rw [if_neg e]
    refine ⟨fun z => z.elim (fun y => (find_uniq (h.nd nd) hi y).symm) fun y => absurd y.1 e, fun z => .inl ?_⟩
    obtain ⟨l2, e2, m2⟩ := find_at (h.nd nd) (h.perm.mem_iff.mpr (m.resolve_left e))
    rw [← z, hi] at e2
    cases e2
    exact m2
theorem da_strs_inv {K : PySem.W.Frag} {G : Hp} : ∀ {vs : List V} {ys : List Str}, DaAll K G vs (ys.map PyData.str) → vs = ys.map V.str
  | [], [], _ => rfl
  | v :: vs, y :: ys, h => by
    cases h with
    | cons h1 h2 =>
      cases h1
      rw [da_strs_inv h2]
      rfl
  | [], y :: ys, h => by cases h
  | v :: vs, [], h => by cases h
theorem da_case {K : PySem.W.Frag} {G : Hp} {v : V} {c : Cs} (h : Da K G v (caseD c)) : ∃ a b1 b2 ls as, v = .ref a ∧ SqT K G a [.ref b1, .ref b2] ∧ SqT K G b1 ls ∧ DaAll K G ls (c.1.map fun l => .tuple (l.map .str)) ∧ SqT K G b2 as ∧ DaAll K G as (c.2.map arD) := by
  obtain ⟨a, xs, e, sq, da⟩ := h.tupI
  cases da with
  | cons h1 t =>
    cases t with
    | cons h2 t =>
      cases t
      obtain ⟨b1, ls, rfl, s1, d1⟩ := h1.tupI
      obtain ⟨b2, as, rfl, s2, d2⟩ := h2.tupI
      exact ⟨a, b1, b2, ls, as, e, sq, s1, d1, s2, d2⟩
theorem da_lot {K : PySem.W.Frag} {G : Hp} {ls : List V} {lots : List (List Str)} {i : Nat} {x : V} (h : DaAll K G ls (lots.map fun l => .tuple (l.map .str))) (hx : ls[i]? = some x) : ∃ a l, lots[i]? = some l ∧ x = .ref a ∧ SqT K G a (l.map V.str) := by
  obtain ⟨d, e, da⟩ := h.get hx
  rw [List.getElem?_map] at e
  obtain ⟨l, e1, rfl⟩ := Option.map_eq_some_iff.mp e
  obtain ⟨a, xs, rfl, sq, da2⟩ := da.tupI
  exact ⟨a, l, e1, rfl, by rw [← da_strs_inv da2]; exact sq⟩
section
variable {P : Program} {w : World} {K : PySem.W.Frag} {mg : Str → Option Value} {base : Heap}
theorem walk_enumT {a : Addr} {xs : List V} : Walk (Iet K a) xs.length (fun H => SqT K H a xs) (YPair (fun i => some (.int (i : Nat))) (fun i => xs[i]?)) :=
  ⟨fun i H hi h => ⟨xs, xs[i], h, by simp [hi]⟩, fun H h => ⟨xs, h, Nat.le_refl _⟩, fun i H x H' hi h y => by
    obtain ⟨T, z, rfl, hT, rfl, y⟩ := y
    exact ⟨T, _, z, rfl, hT, rfl, rfl, y xs h⟩⟩
end
end L2.Hx

/-! A store and cells drawn of a case. -/
namespace L2.Hx
open PySem PySem.Spec PyProof.Rows
theorem Wd.allnew {p l : Addr} {G H G2 H' : Hp} (W : Wd p l G H) (W' : Wd p l G2 H') (s2 : Same G G2) (k : ∀ b o, b ≠ p → b ≠ l → H b = some o → H' b = some o) : ∃ G', Ext p l G H G' H' ∧ Same (Nw H H') G' := by
  obtain ⟨o1, hp⟩ : ∃ o, H p = some o := by
    obtain ⟨m, t, _, _, h⟩ := W.dk
    exact ⟨_, h⟩
  obtain ⟨o2, hl⟩ : ∃ o, H l = some o := by
    obtain ⟨m, _, h⟩ := W.ls
    exact ⟨_, h⟩
  refine ⟨fun b => if (H b).isNone = true then H' b else G b, ⟨⟨fun b o q => ?_, ?_, ?_, W'.dk, W'.ls⟩, fun b o q => ?_, k, fun b o q g => ?_⟩, fun b o q => ?_⟩
  · split at q
    · exact q
    · exact W'.same _ _ (s2 _ _ q)
  · show (if (H p).isNone = true then H' p else G p) = none
    rw [hp]
    exact W.gp
  · show (if (H l).isNone = true then H' l else G l) = none
    rw [hl]
    exact W.gl
  · show (if (H b).isNone = true then H' b else G b) = some o
    rw [W.same _ _ q]
    exact q
  · show (if (H b).isNone = true then H' b else G b) = none
    rw [q]
    exact g
  · show (if (H b).isNone = true then H' b else G b) = some o
    unfold Nw at q
    split at q
    · rename_i e
      rw [if_pos e]
      exact q
    · cases q
abbrev Ch := Int × List Int × Int
/-- cells set one behind the other from b on -/
def linkP (cs : List (Int × Int)) (b : Int) (ds : List Int) : List (Int × Int) × Int := ds.foldl (fun s d => (putA s.1 s.2 d, d)) (cs, b)
theorem linkP_snoc (cs : List (Int × Int)) (b : Int) (ds : List Int) (d : Int) : linkP cs b (ds ++ [d]) = (putA (linkP cs b ds).1 (linkP cs b ds).2 d, d) := by
  unfold linkP
  rw [List.foldl_append]
  rfl
theorem linkP_len (cs : List (Int × Int)) (b : Int) : ∀ ds : List Int, (linkP cs b ds).1.length ≤ cs.length + ds.length := by
  intro ds
  suffices ∀ (ds : List Int) (s : List (Int × Int) × Int), (ds.foldl (fun s d => (putA s.1 s.2 d, d)) s).1.length ≤ s.1.length + ds.length from this ds (cs, b)
  intro ds
  induction ds with
  | nil => intro s; exact Nat.le_refl _
  | cons d ds ih =>
    intro s
    have h := ih (putA s.1 s.2 d, d)
    have h2 := putA_len s.1 s.2 d
    rw [List.foldl_cons, List.length_cons]
    exact Nat.le_trans h (by show (putA s.1 s.2 d).length + ds.length ≤ _; omega)
def linkF (cs : List (Int × Int)) (ch : Ch) : List (Int × Int) := putA (linkP cs ch.1 ch.2.1).1 (linkP cs ch.1 ch.2.1).2 ch.2.2
def cellsF (chs : List Ch) : List (Int × Int) := chs.foldl linkF []
theorem cellsF_snoc (chs : List Ch) (ch : Ch) : cellsF (chs ++ [ch]) = linkF (cellsF chs) ch := by
  unfold cellsF
  rw [List.foldl_append]
  rfl
abbrev pairS (q : Str × Int) : PyData := .tuple [.str q.1, .int q.2]
def rowsF (lots : List (List Str)) (vals : List Int) : List (Str × Int) := (lots.zip vals).flatMap fun q => q.1.map fun n => (n, q.2)
def storeF (c : Cs) (vals : List Int) : List (Str × Int) := (rowsF c.1 vals).mergeSort (PySem.W.dataLe false pairS)
def heapF (chs : List Ch) : List (Int × Int) := (cellsF chs).mergeSort (PySem.W.dataLe false pairI)
structure HeapF (most : Nat) (c : Cs) (vals : List Int) (chs : List Ch) : Prop where
  len : vals.length = c.1.length
  zero : vals[0]? = some 0
  chain : Paired (fun (ch : Ch) (a : Ar) => vals[a.1.toNat]? = some ch.1 ∧ vals[a.2.2.toNat]? = some ch.2.2 ∧ (a.2.1 ≠ "long" → ch.2.1 = []) ∧ ch.2.1.length < most) chs c.2
  nodup : (vals ++ chs.flatMap fun ch => ch.2.1).Nodup
  pos : ∀ x ∈ vals ++ chs.flatMap fun ch => ch.2.1, 0 ≤ x
def spHeap (K : PySem.W.Frag) : Sp := fun vs H Q _ => ∃ (p l : Addr) (G : Hp) (v : V) (ns : List Str) (c : Cs) (most : Nat), vs = [.ref p, v, .int (most : Int)] ∧ Wd p l G H ∧ Da K G v (caseD c) ∧ CaseOk ns c ∧ ns.length ≤ 8 ∧ 1 ≤ most ∧ most ≤ 10 ∧
  ∀ (r a b : Addr) (ps : List Addr) (vals : List Int) (chs : List Ch) (G' H' : Hp), Ext p l G H G' H' → SqT K G' r [.ref a, .ref b] → PlT G' a (ps.map V.ref) → (∃ qs : List Addr, PlT G' b (qs.map V.ref) ∧ DaAll K G' (qs.map V.ref) ((heapF chs).map pairI)) → DaAll K G' (ps.map V.ref) ((storeF c vals).map pairS) → Da K G' (.ref b) (.tuple ((heapF chs).map pairI)) → HeapF most c vals chs → Q (.ref r) H'
theorem pop_int {l : Addr} {H : Hp} {rest : List Int} {x : Int} {Q : VK} (h : H l = some (.lst ((rest ++ [x]).map V.int))) (k : Q (.int x) (upd H l (.lst (rest.map V.int)))) : rPop (.ref l) [] H Q := by
  refine ⟨l, _, .int x, rfl, rfl, h, ?_, ?_⟩
  · rw [List.map_append, List.length_append, List.length_map]
    show (rest.map V.int ++ [V.int x])[rest.length + 1 - 1]? = _
    rw [Nat.add_sub_cancel, List.getElem?_append_right (by rw [List.length_map]; exact Nat.le_refl _), List.length_map, Nat.sub_self]
    rfl
  · rw [List.map_append]
    show Q (V.int x) (upd H l (.lst (rest.map V.int ++ [V.int x]).dropLast))
    rw [List.dropLast_concat]
    exact k
theorem snoc_of {l : List Int} (h : 0 < l.length) : ∃ r x, l = r ++ [x] := ⟨l.dropLast, l.getLast (List.ne_nil_of_length_pos h), (List.dropLast_concat_getLast _).symm⟩
theorem da_ar {K : PySem.W.Frag} {G : Hp} {as : List V} {ars : List Ar} {i : Nat} {x : V} (h : DaAll K G as (ars.map arD)) (hx : as[i]? = some x) : ∃ a q, ars[i]? = some q ∧ x = .ref a ∧ SqT K G a [.int q.1, .str q.2.1, .int q.2.2] := by
  obtain ⟨d, e, da⟩ := h.get hx
  rw [List.getElem?_map] at e
  obtain ⟨q, e1, rfl⟩ := Option.map_eq_some_iff.mp e
  obtain ⟨a, xs, rfl, sq, da2⟩ := da.tupI
  cases da2 with
  | cons h1 t =>
    cases h1
    cases t with
    | cons h2 t =>
      cases h2
      cases t with
      | cons h3 t =>
        cases h3
        cases t
        exact ⟨a, q, e1, rfl, sq⟩
theorem at_nat {xs : List V} {i : Int} {x : V} (h0 : 0 ≤ i) (h : xs[i.toNat]? = some x) : atI xs i = some x := by
  have := (List.getElem?_eq_some_iff.mp h).1
  unfold atI ixN
  rw [if_pos h0, if_pos (by omega)]
  exact h
theorem refs_of {β : Type} {F : Addr → β → Prop} : ∀ {ys : List V} {bs : List β}, Paired (fun x b => ∃ t, x = V.ref t ∧ F t b) ys bs → ∃ ts : List Addr, ys = ts.map V.ref ∧ Paired F ts bs
  | _, _, .nil => ⟨[], rfl, .nil⟩
  | _, _, .cons ⟨t, e, h⟩ r => by
    obtain ⟨ts, e2, p⟩ := refs_of r
    subst e e2
    exact ⟨t :: ts, rfl, .cons h p⟩
theorem paired_append {α β : Type} {F : α → β → Prop} : ∀ {as cs : List α} {bs ds : List β}, Paired F as bs → Paired F cs ds → Paired F (as ++ cs) (bs ++ ds)
  | _, _, _, _, .nil, h => h
  | _, _, _, _, .cons r t, h => .cons r (paired_append t h)
theorem paired_map2 {α β δ : Type} {F : α → β → Prop} {G : α → δ → Prop} {g : β → δ} (h : ∀ a b, F a b → G a (g b)) : ∀ {as : List α} {bs : List β}, Paired F as bs → Paired G as (bs.map g)
  | _, _, .nil => .nil
  | _, _, .cons r t => .cons (h _ _ r) (paired_map2 h t)
theorem paired_in {α β : Type} {F G : α → β → Prop} : ∀ {as : List α} {bs : List β}, Paired F as bs → (∀ a b, a ∈ as → F a b → G a b) → Paired G as bs
  | _, _, .nil, _ => .nil
  | _, _, .cons r t, h => .cons (h _ _ List.mem_cons_self r) (paired_in t fun a b m => h a b (List.mem_cons_of_mem _ m))
theorem da_pairs {K : PySem.W.Frag} {G : Hp} {β : Type} {f : β → PyData} {g : β → List V} {h : β → List PyData} (e : ∀ b, f b = .tuple (h b)) (d : ∀ b, DaAll K G (g b) (h b)) : ∀ {ts : List Addr} {bs : List β}, Paired (fun t b => SqT K G t (g b)) ts bs → DaAll K G (ts.map V.ref) (bs.map f)
  | _, _, .nil => .nil
  | _, _, .cons (b := b) r t => by
    rw [List.map_cons, List.map_cons, e b]
    exact .cons (.tup r (d b)) (da_pairs e d t)
section
variable {P : Program} {w : World} {K : PySem.W.Frag} {mg : Str → Option Value} {base : Heap}
theorem D_l_heap (T : Txt K mg) : Df P w K mg base 3 "_law_heap" ["deck", "case", "most"] (spHeap K) := by
  have D_l_draw := D_draw (P := P) (w := w) (base := base) T
  have D_l_pick := D_pick (P := P) (w := w) (base := base) T
  have D_l_mixed := D_l_mixed (P := P) (w := w) (base := base) T
  obtain ⟨f, fd, S⟩ := T.d_l_heap
  refine Df.mk' (k := 2) S sc_l_heap (fun vs H Q E h => ?_) (fun cdv A outer s H vs Q E hgd hr h => ?_)
  · obtain ⟨p, l, G, v, ns, c, most, rfl, _⟩ := h
    rfl
  · obtain ⟨p, l, G, v, ns, c, most, rfl, W, da, ok, ln, m1, m10, k⟩ := h
    have hu := hu_of hr
    have big : (2000 : Nat) ≤ sizeLine := by decide
    refine ⟨_, (pss_cons (ps_par (i := 3) (j := 4) (by rfl) sc_l_heap.nd rfl rfl (by decide) rfl rfl (pa_cons (pe_ix ix_tup (pv 1) pe_int (fun _ _ => rfl)) (pa_cons pe_dnewK pa_nil)) (by rfl))
      (pss_cons (ps_set (i := 5) sc_l_heap.nd rfl (.inr rfl) (pe_d D_l_mixed hgd hr (pa_cons (pv 0) (pa_cons (pe_listRg rfl (by rfl) T.b_list (prg_2 (by rfl) T.b_range pe_int (pe_op op_add (pe_op op_add (pe_callB call_len_seq (by rfl) T.b_len (by decide +kernel) (pa_cons (pv 3) pa_nil)) (pe_op op_mul (pv 2) (pe_callB call_len_seq (by rfl) T.b_len (by decide +kernel) (pa_cons (pe_ix ix_tup (pv 1) pe_int (fun _ _ => rfl)) pa_nil)))) pe_int))) pa_nil))))
      (pss_cons (ps_set (i := 6) sc_l_heap.nd rfl (.inr rfl) (pe_d D_l_pick hgd hr (pa_cons (pv 0) (pa_cons (pe_lst (pa_cons pe_int (pa_cons pe_int (pa_cons pe_int (pa_cons (pe_op op_pow pe_int pe_int) pa_nil))))) pa_nil))))
      (pss_cons (ps_set (i := 7) sc_l_heap.nd rfl (.inr rfl) (pe_op op_cat (pe_lst (pa_cons pe_int pa_nil)) (pe_lc (X := (cxOf CX0 P w K mg base ["deck", "case", "most", "lots", "cells", "pool", "far", "values", "lot", "begin", "kind", "end", "here", "turn", "further", "store", "spot", "name"] "_law_heap" (defScope s_l_heap) f cdv A outer s H E).nox) (own := [("lot", 8)]) (g := gName 8) (tt := tYes) (te := tOp (rI CMul fun i j => .int (i * j)) (tBM0 K "list" rPop (tVar 5)) (tVar 6)) rfl sc_l_heap.nd (pi_tup (pe_slice sl_tupA (pv 3) (po_some pe_int) po_none)) (blkOk_by (own := [("lot", 8)]) (N := ["deck", "case", "most", "lots", "cells", "pool", "far", "values", "lot", "begin", "kind", "end", "here", "turn", "further", "store", "spot", "name"]) (sc := defScope s_l_heap) (by decide +kernel)) (fun _ _ _ _ _ => pg_name (i := 8) sc_l_heap.nd rfl (.inl rfl)) (fun _ _ _ _ _ => pts_nil) (fun _ _ _ _ _ => (pe_op op_mul (pe_bm0 PySem.F.plainAttrs_list PySem.F.slot_list_pop PySem.F.type_list_pop mt_pop (pv 5)) (pv 6))))))
      (pss_cons (ps_for PassesOwn.never rfl (pi_tup (pe_ix ix_tup (pv 1) pe_int (fun _ _ => rfl))) (pg_tup rfl (pgs_cons (pg_name (i := 9) sc_l_heap.nd rfl (.inl rfl)) (pgs_cons (pg_name (i := 10) sc_l_heap.nd rfl (.inl rfl)) (pgs_cons (pg_name (i := 11) sc_l_heap.nd rfl (.inl rfl)) pgs_nil))))
      (pss_cons (ps_set (i := 12) sc_l_heap.nd rfl (.inl rfl) (pe_ix ix_list (pv 7) (pv 9) (fun _ _ => rfl)))
      (pss_cons (ps_for PassesOwn.never rfl (pi_range1 rfl T.b_range (pa_cons (pe_ifExp (pt_cmpR op_eq (pv 10) pe_str (nomark _)) (pe_d D_l_draw hgd hr (pa_cons (pv 0) (pa_cons (pv 2) pa_nil))) pe_int) pa_nil)) (pg_name (i := 13) sc_l_heap.nd rfl (.inl rfl))
      (pss_cons (ps_set (i := 14) sc_l_heap.nd rfl (.inl rfl) (pe_op op_mul (pe_bm0 PySem.F.plainAttrs_list PySem.F.slot_list_pop PySem.F.type_list_pop mt_pop (pv 5)) (pv 6)))
      (pss_one (ps_asg (pe_tup (pa_cons (pv 14) (pa_cons (pv 14) pa_nil))) (pg_tup rfl (pgs_cons (pg_sub (pv 4) (pv 12) (set_dict hu)) (pgs_cons (pg_name (i := 12) sc_l_heap.nd rfl (.inl rfl)) pgs_nil)))))))
      (pss_one (ps_dput hu (pv 4) (pv 12) (pe_ix ix_list (pv 7) (pv 11) (fun _ _ => rfl)) rfl)))))
      (pss_cons (ps_set (i := 15) sc_l_heap.nd rfl (.inl rfl) (pe_lst pa_nil))
      (pss_cons (ps_for PassesOwn.never rfl (pi_enumT rfl T.b_enumerate (pa_cons (pv 3) pa_nil)) (pg_tup rfl (pgs_cons (pg_name (i := 16) sc_l_heap.nd rfl (.inr rfl)) (pgs_cons (pg_name (i := 8) sc_l_heap.nd rfl (.inl rfl)) pgs_nil)))
      (pss_one (ps_set (i := 15) sc_l_heap.nd rfl (.inl rfl) (pe_op op_cat (pv 15) (pe_lc (X := (cxOf CX0 P w K mg base ["deck", "case", "most", "lots", "cells", "pool", "far", "values", "lot", "begin", "kind", "end", "here", "turn", "further", "store", "spot", "name"] "_law_heap" (defScope s_l_heap) f cdv A outer s H E).nox) (own := [("name", 17)]) (g := gName 17) (tt := tYes) (te := tTup (tCons (tVar 17) (tCons (tOp (rIxL K) (tVar 7) (tVar 16)) tNil))) rfl sc_l_heap.nd (pi_tup (pv 8)) (blkOk_by (own := [("name", 17)]) (N := ["deck", "case", "most", "lots", "cells", "pool", "far", "values", "lot", "begin", "kind", "end", "here", "turn", "further", "store", "spot", "name"]) (sc := defScope s_l_heap) (by decide +kernel)) (fun _ _ _ _ _ => pg_name (i := 17) sc_l_heap.nd rfl (.inl rfl)) (fun _ _ _ _ _ => pts_nil) (fun _ _ _ _ _ => (pe_tup (pa_cons (pv 17) (pa_cons (pe_ix ix_list (pv 7) (pv 16) (fun _ _ => rfl)) pa_nil)))))))))
      (pss_one (ps_ret (pe_tup (pa_cons (pe_callTy call_tuple_ofP (by rfl) T.b_tuple (by decide +kernel) (pa_cons (pe_callB (cr_sortedT2 hr.units) (by rfl) T.b_sorted (by decide +kernel) (pa_cons (pv 15) pa_nil)) pa_nil)) (pa_cons (pe_callTy call_tuple_ofP (by rfl) T.b_tuple (by decide +kernel) (pa_cons (pe_callB (cr_sortedItI rfl hr.units) (by rfl) T.b_sorted (by decide +kernel) (pa_cons (pe_bm0 PySem.F.plainAttrs_dict PySem.F.slot_dict_items PySem.F.type_dict_items mt_itemsK (pv 4)) pa_nil)) pa_nil)) pa_nil)))))))))))), ?_⟩
    obtain ⟨va, b1, b2, ls, as, rfl, sva, sb1, dls, sb2, das⟩ := da_case da
    have ll : ls.length = c.1.length := by rw [dls.length, List.length_map]
    have la : as.length = c.2.length := by rw [das.length, List.length_map]
    have lp := ok.pos
    have l60 := ok.len
    have l40 := ok.alen
    refine ⟨_, rfl, va, _, 0, _, rfl, rfl, sameT W.same sva, rfl, fun cd hcd => ?_⟩
    refine ⟨_, _, rfl, ?_⟩
    dsimp only [gName, List.set]
    have e1 := W.tmp (o := .dK []) hcd
    have cp := W.np hcd
    have cl := W.nl hcd
    have c1 : (upd H cd (.dK [])) cd = some (.dK []) := upd_same
    have gc : G cd = none := W.same.free hcd
    have hmul : most * as.length ≤ 10 * 40 := Nat.mul_le_mul m10 (by omega)
    generalize hN : ls.length + most * as.length + 2 = N
    have hN2 : ((ls.length : Int) + (most : Int) * (as.length : Int) + 3) = (N : Int) + 1 := by
      rw [← hN, Int.natCast_add, Int.natCast_add, Int.natCast_mul]
      omega
    refine ⟨_, rfl, _, rfl, b1, ls, rfl, .inr (sameT e1.w.same sb1), _, rfl, _, rfl, va, _, 1, _, rfl, rfl, sameT e1.w.same sva, rfl, b2, as, rfl, .inr (sameT e1.w.same sb2), _, _, rfl, rfl, .inl ⟨by omega, by omega⟩, _, _, rfl, rfl, _, _, rfl, rfl, 1, _, rfl, rfl, RgOk.of_le (by omega) (by rw [hN2]; omega) (by omega) (by rw [hN2]; omega), fun q hq => ?_⟩
    rw [hN2, spL_rg, Int.toNat_natCast]
    have e2 := e1.trans W (e1.w.tmp (o := .lst ((spL N).map V.int)) hq)
    have q2 : (upd (upd H cd (.dK [])) q (.lst ((spL N).map V.int))) q = some (.lst ((spL N).map V.int)) := upd_same
    have c2 := sameAdd (o := .lst ((spL N).map V.int)) hq _ _ c1
    generalize upd (upd H cd (.dK [])) q (.lst ((spL N).map V.int)) = H2 at e2 q2 c2 ⊢
    refine ⟨p, l, G, q, (spL N).map (fun i => (V.int i, PyData.int i)), rfl, e2.w, .inl (SqL.of (by rw [List.map_map]; exact q2)), by rw [List.length_map, spL_len]; omega, fun z m => ?_, fun r ys G3 H3 e3 r3 r0 gr pm => ?_⟩
    · obtain ⟨i, _, rfl⟩ := List.mem_map.mp m
      exact ⟨.int i, rfl, by show PyData.depth (.int i) ≤ 20; simp [PyData.depth]⟩
    obtain ⟨is, rfl, pis⟩ := perm_map_inv (f := fun i => (V.int i, PyData.int i)) pm _ rfl
    rw [List.map_map] at r3
    have r3 : H3 r = some (.lst (is.map V.int)) := r3
    have c3 := e3.keep _ _ cp cl c2
    have g3 : G3 cd = none := e3.new _ _ c2 gc
    have k3 : ∀ b o, b ≠ p → b ≠ l → H b = some o → H3 b = some o := fun b o n1 n2 h => e3.keep b o n1 n2 (e2.keep b o n1 n2 h)
    have W3 := e3.w
    have s3 := e3.sub
    have rp := W3.np (a := r)
    have npr : r ≠ p := e2.w.np r0
    have nlr : r ≠ l := e2.w.nl r0
    have lis : is.length = N := by rw [pis.length_eq, spL_len]
    have nds : is.Nodup := pis.nodup_iff.mpr (by
      unfold spL
      exact List.pairwise_map.mpr (List.nodup_range.imp fun h e => h (by omega)))
    have pos : ∀ x ∈ is, 1 ≤ x ∧ x ≤ N := fun x m => spL_mem (pis.mem_iff.mp m)
    have hr0 : H r = none := by
      cases z : H r with
      | none => rfl
      | some o =>
        have := e2.keep _ _ npr nlr z
        rw [r0] at this
        cases this
    have ncr : cd ≠ r := fun e => by
      rw [e, r3] at c3
      cases c3
    clear rp e3 e2 e1 r0 c2 c1 q2 hq pm
    dsimp only [gName, List.set]
    -- far
    refine ⟨_, rfl, 10, 20, rfl, rfl, ⟨by decide, by decide, by decide⟩, by show 4 ≤ sizeLine; decide, fun fc hfc => ?_⟩
    have f1 := W3.tmp (o := .lst [V.int 1, V.int 1, V.int 7, V.int (10 ^ (20 : Int).toNat)]) hfc
    refine ⟨p, l, G3, fc, _, rfl, f1.w, upd_same, W3.np hfc, W3.nl hfc, by decide, by decide, fun xf H4 mx f2 => ?_⟩
    obtain ⟨far, rfl, far1⟩ : ∃ z : Int, xf = .int z ∧ 1 ≤ z := by
      rcases List.mem_cons.mp mx with rfl | mx
      · exact ⟨_, rfl, by decide⟩
      · rcases List.mem_cons.mp mx with rfl | mx
        · exact ⟨_, rfl, by decide⟩
        · rcases List.mem_cons.mp mx with rfl | mx
          · exact ⟨_, rfl, by decide⟩
          · rw [List.mem_singleton.mp mx]
            exact ⟨_, rfl, by decide⟩
    have f3 := f1.trans W3 f2
    have r4 := f3.keep _ _ npr nlr r3
    have c4 := f3.keep _ _ cp cl c3
    have k4 : ∀ b o, b ≠ p → b ≠ l → H b = some o → H4 b = some o := fun b o n1 n2 h => f3.keep b o n1 n2 (k3 b o n1 n2 h)
    have W4 := f3.w
    clear f3 f2 f1 hfc mx W3 k3 c3 r3
    dsimp only [gName, List.set]
    -- values
    refine ⟨by show 1 ≤ sizeLine; decide, fun v0 hv0 => ?_⟩
    have W5 := (W4.tmp (o := .lst [V.int 0]) hv0).w
    have r5 := sameAdd (o := .lst [V.int 0]) hv0 _ _ r4
    have c5 := sameAdd (o := .lst [V.int 0]) hv0 _ _ c4
    have k5 : ∀ b o, b ≠ p → b ≠ l → H b = some o → (upd H4 v0 (.lst [V.int 0])) b = some o := fun b o n1 n2 h => sameAdd hv0 _ _ (k4 b o n1 n2 h)
    have v5 : (upd H4 v0 (.lst [V.int 0])) v0 = some (.lst [V.int 0]) := upd_same
    generalize upd H4 v0 (.lst [V.int 0]) = H5 at W5 r5 c5 k5 v5 ⊢
    clear W4 r4 c4 k4 hv0 H4
    refine ⟨_, rfl, _, rfl, b1, ls, rfl, sameT (s3.trans W5.same) sb1, fun e => absurd e.1 ?_, fun _ p5 hp5 => ?_⟩
    · intro e0
      have := HT.sIx_nat ls.length 0 1
      rw [Nat.min_eq_left (by omega)] at this
      exact absurd (this.symm.trans e0) (by decide)
    rw [cut1 (by omega)]
    have W6 := (W5.tmp (o := .tup (ls.drop 1)) hp5).w
    have r6 := sameAdd (o := .tup (ls.drop 1)) hp5 _ _ r5
    have c6 := sameAdd (o := .tup (ls.drop 1)) hp5 _ _ c5
    have v6 := sameAdd (o := .tup (ls.drop 1)) hp5 _ _ v5
    have k6 : ∀ b o, b ≠ p → b ≠ l → H b = some o → (upd H5 p5 (.tup (ls.drop 1))) b = some o := fun b o n1 n2 h => sameAdd hp5 _ _ (k5 b o n1 n2 h)
    have t6 : (upd H5 p5 (.tup (ls.drop 1))) p5 = some (.tup (ls.drop 1)) := upd_same
    generalize upd H5 p5 (.tup (ls.drop 1)) = H6 at W6 r6 c6 v6 k6 t6 ⊢
    clear W5 r5 c5 v5 k5 hp5 H5
    have ne_r : ∀ {Hx : Hp} {b : Addr} {o : HO} {zs : List V}, Hx r = some (.lst zs) → Hx b = some o → (∀ ys, o ≠ .lst ys) → b ≠ r := fun h1 h2 h3 e => by
      rw [e, h1] at h2
      exact h3 _ (Option.some.inj h2).symm
    have nvr : v0 ≠ r := fun e => by
      rw [e, r6] at v6
      injection v6 with v6
      injection v6 with v6
      have := congrArg List.length v6
      rw [List.length_map] at this
      simp at this
      omega
    refine ⟨p5, rfl, ⟨_, SqT.of t6⟩, fun D hD => lc_tup (K := K) (a := p5) (xs := ls.drop 1) (fun i Hx => Wd p l G3 Hx ∧ Hx cd = some (.dK []) ∧ (∀ b o, b ≠ p → b ≠ l → H b = some o → Hx b = some o) ∧ Hx v0 = some (.lst [V.int 0]) ∧ Hx p5 = some (.tup (ls.drop 1)) ∧
        ∃ rest got : List Int, is = rest ++ got.reverse ∧ got.length = i ∧ Hx r = some (.lst (rest.map V.int)) ∧ Hx D = some (.lst ((got.map (· * far)).map V.int)))
      ⟨(W6.tmp hD).w, sameAdd hD _ _ c6, fun b o n1 n2 h => sameAdd hD _ _ (k6 b o n1 n2 h), sameAdd hD _ _ v6, sameAdd hD _ _ t6, is, [], by simp, rfl, sameAdd hD _ _ r6, upd_same⟩ (fun i Hx _ h => SqT.of h.2.2.2.2.1) ?_ ?_⟩
    · rintro i x Hx hx ⟨Wx, cx, kx, vx, tx, rest, got, eis, lg, rx, dx⟩
      have hi := (List.getElem?_eq_some_iff.mp hx).1
      rw [List.length_drop] at hi
      have lr : 0 < rest.length := by
        have := congrArg List.length eis
        rw [List.length_append, List.length_reverse] at this
        omega
      obtain ⟨rest, y, rfl⟩ := snoc_of lr
      have yin : y ∈ is := by
        rw [eis]
        simp
      have := pos y yin
      have nDr : D ≠ r := fun e => by rw [e, r6] at hD; cases hD
      have nDp := W6.np hD
      have nDl := W6.nl hD
      have gD : G3 D = none := W6.same.free hD
      have nDc : D ≠ cd := fun e => by rw [e, c6] at hD; cases hD
      have nDv : D ≠ v0 := fun e => by rw [e, v6] at hD; cases hD
      have nDt : D ≠ p5 := fun e => by rw [e, t6] at hD; cases hD
      have ntr := ne_r rx tx (by intro ys z; cases z)
      refine ⟨rfl, _, rfl, .inl ⟨rfl, _, SqL.of rx⟩, pop_int rx ⟨_, rfl, _, _, rfl, rfl, .inl ⟨by omega, by omega⟩, _, by rw [upd_ne nDr]; exact dx, by rw [List.length_map, List.length_map]; omega, ?_⟩⟩
      refine ⟨(Wx.own npr nlr gr).own nDp nDl gD, by rw [upd_ne nDc.symm, upd_ne ncr]; exact cx, fun b o n1 n2 h => ?_, by rw [upd_ne nDv.symm, upd_ne nvr]; exact vx, by rw [upd_ne nDt.symm, upd_ne ntr]; exact tx, rest, got ++ [y], ?_, by rw [List.length_append, lg]; rfl, by rw [upd_ne nDr.symm, upd_same], ?_⟩
      · by_cases b1 : b = D
        · rw [b1] at h
          have := k6 _ _ nDp nDl h
          rw [hD] at this
          cases this
        · rw [upd_ne b1, upd_ne (ne_of_none h hr0)]
          exact kx b o n1 n2 h
      · rw [eis]
        simp
      · rw [upd_same, List.map_append, List.map_append]
        rfl
    · rintro Hx ⟨Wx, cx, kx, vx, tx, rest, got, eis, lg, rx, dx⟩
      rw [List.length_drop] at lg
      have nDp := W6.np hD
      have nDl := W6.nl hD
      have hD0 : H D = none := by
        cases z : H D with
        | none => rfl
        | some o =>
          have := k6 _ _ nDp nDl z
          rw [hD] at this
          cases this
      have nDr : D ≠ r := fun e => by rw [e, r6] at hD; cases hD
      have gD : G3 D = none := W6.same.free hD
      clear W6 r6 c6 v6 k6 t6 hD tx
      refine ⟨v0, D, _, _, rfl, rfl, vx, dx, by simp only [List.length_map, List.length_cons, List.length_nil]; omega, fun vl hvl => ?_⟩
      have ev : [V.int 0] ++ (got.map (· * far)).map V.int = (0 :: got.map (· * far)).map V.int := rfl
      rw [ev]
      have lv : (0 :: got.map (· * far)).length = c.1.length := by rw [List.length_cons, List.length_map, lg]; omega
      have W7 := (Wx.tmp (o := .lst ((0 :: got.map (· * far)).map V.int)) hvl).w
      have r7 := sameAdd (o := .lst ((0 :: got.map (· * far)).map V.int)) hvl _ _ rx
      have c7 := sameAdd (o := .lst ((0 :: got.map (· * far)).map V.int)) hvl _ _ cx
      have k7 : ∀ b o, b ≠ p → b ≠ l → H b = some o → (upd Hx vl (.lst ((0 :: got.map (· * far)).map V.int))) b = some o := fun b o n1 n2 h => sameAdd hvl _ _ (kx b o n1 n2 h)
      have v7 : (upd Hx vl (.lst ((0 :: got.map (· * far)).map V.int))) vl = some (.lst ((0 :: got.map (· * far)).map V.int)) := upd_same
      have nvlp := Wx.np hvl
      have nvll := Wx.nl hvl
      have nvlr : vl ≠ r := fun e => by rw [e, rx] at hvl; cases hvl
      have nvlc : vl ≠ cd := fun e => by rw [e, cx] at hvl; cases hvl
      generalize upd Hx vl (.lst ((0 :: got.map (· * far)).map V.int)) = H7 at W7 r7 c7 k7 v7 ⊢
      clear Wx rx cx kx vx dx hvl nDp nDl nDr gD hD0 nvr ne_r
      generalize hvals : (0 :: got.map (· * far)) = vals at lv v7
      dsimp only [gName, List.set]
      -- the arrows
      refine ⟨_, rfl, va, _, 1, _, rfl, rfl, sameT (s3.trans W7.same) sva, rfl, b2, rfl, ⟨_, sameT (s3.trans W7.same) sb2⟩, for_tup (K := K) (a := b2) (xs := as) (fun j σ Hx => ∃ o8 o9 o10 o11 o12 o13 o14 : Option V, σ = [some (.ref p), some (.ref va), some (.int (most : Int)), some (.ref b1), some (.ref cd), some (.ref r), some (.int far), some (.ref vl), o8, o9, o10, o11, o12, o13, o14, none, none, none] ∧
          Wd p l G3 Hx ∧ (∀ b o, b ≠ p → b ≠ l → H b = some o → Hx b = some o) ∧ Hx vl = some (.lst (vals.map V.int)) ∧ ∃ (rest more : List Int) (chs : List Ch), is = rest ++ (got ++ more).reverse ∧ Hx r = some (.lst (rest.map V.int)) ∧ (chs.flatMap fun ch => ch.2.1) = more.map (· * far) ∧
          Paired (fun (ch : Ch) (a : Ar) => vals[a.1.toNat]? = some ch.1 ∧ vals[a.2.2.toNat]? = some ch.2.2 ∧ (a.2.1 ≠ "long" → ch.2.1 = []) ∧ ch.2.1.length < most) chs (c.2.take j) ∧ Hx cd = some (.dK (kvK Sum.inl V.int (cellsF chs))) ∧ more.length ≤ j * most ∧ (cellsF chs).length ≤ j * most)
        ⟨_, _, _, _, _, _, _, rfl, W7, k7, v7, rest, [], [], by rw [List.append_nil]; exact eis, r7, rfl, .nil, c7, by simp, by show 0 ≤ _; omega⟩ (fun j σ Hx _ ⟨_, _, _, _, _, _, _, _, Wx, _⟩ => sameT (s3.trans Wx.same) sb2) ?_ ?_⟩
      · rintro j x σ Hx hx ⟨o8, o9, o10, o11, o12, o13, o14, rfl, Wx, kx, vx, rest, more, chs, eis, rx, ech, pch, cx, lmore, lcs⟩
        obtain ⟨ta, qa, hqa, rfl, sqa⟩ := da_ar das hx
        have jlt := (List.getElem?_eq_some_iff.mp hx).1
        have ar := ok.ar qa (List.mem_of_getElem? hqa)
        have jm : j * most + most ≤ most * as.length := by
          have h1 : (j + 1) * most ≤ as.length * most := Nat.mul_le_mul_right most jlt
          rw [Nat.add_mul, Nat.one_mul, Nat.mul_comm as.length most] at h1
          exact h1
        have lis2 : rest.length + got.length + more.length = N := by
          rw [← lis, eis, List.length_append, List.length_reverse, List.length_append]
          omega
        obtain ⟨hb, ehb⟩ : ∃ hb, vals[qa.1.toNat]? = some hb := ⟨vals[qa.1.toNat]'(by omega), List.getElem?_eq_getElem (by omega)⟩
        obtain ⟨ve, eve⟩ : ∃ ve, vals[qa.2.2.toNat]? = some ve := ⟨vals[qa.2.2.toNat]'(by omega), List.getElem?_eq_getElem (by omega)⟩
        dsimp only [gName, List.set]
        refine ⟨ta, _, rfl, sameT (s3.trans Wx.same) sqa, rfl, _, _, rfl, _, _, rfl, _, _, rfl, rfl, ?_⟩
        dsimp only [gName, List.set]
        refine ⟨_, rfl, _, rfl, vl, _, qa.1, V.int hb, rfl, rfl, SqL.of vx, at_nat ar.1 (by rw [List.getElem?_map, ehb]; rfl), ?_⟩
        dsimp only [gName, List.set]
        refine for_rng (I := fun m Hy => m < most ∧ (qa.2.1 ≠ "long" → m = 0) ∧ Ext p l G3 Hx G3 Hy) (fun Qn fin => ?_) ?_
        · refine ⟨_, rfl, rfl, _, rfl, ?_⟩
          by_cases e : qa.2.1 = "long"
          · rw [decide_eq_true (show V.str qa.2.1 = V.str "long" by rw [e])]
            refine if_yes rfl ⟨_, rfl, _, rfl, p, l, G3, most, rfl, by omega, by omega, Wx, fun d Hy d0 d1 ed => ?_⟩
            have := fin d.toNat Hy ⟨by omega, fun z => absurd e z, ed⟩
            rw [Int.toNat_of_nonneg d0] at this
            exact this
          · rw [decide_eq_false (show ¬ V.str qa.2.1 = V.str "long" from fun z => e (V.str.inj z))]
            exact if_no rfl (fin 0 Hx ⟨by omega, fun _ => rfl, Ext.refl Wx⟩)
        · rintro m Hy ⟨lm, m0, ey⟩
          have vy := ey.keep _ _ nvlp nvll vx
          have ry := ey.keep _ _ npr nlr rx
          have cy := ey.keep _ _ cp cl cx
          have ky : ∀ b o, b ≠ p → b ≠ l → H b = some o → Hy b = some o := fun b o n1 n2 h => ey.keep b o n1 n2 (kx b o n1 n2 h)
          have Wy := ey.w
          clear ey vx rx cx kx Wx
          refine ⟨(m : Int), rfl, by omega, by omega, for_range (lo := 0) (n := ((m : Nat) : Int).toNat) (fun i σ Hz => ∃ (hc : Int) (o13 o14 : Option V), σ = [some (.ref p), some (.ref va), some (.int (most : Int)), some (.ref b1), some (.ref cd), some (.ref r), some (.int far), some (.ref vl), o8, some (.int qa.1), some (.str qa.2.1), some (.int qa.2.2), some (.int hc), o13, o14, none, none, none] ∧
              Wd p l G3 Hz ∧ (∀ b o, b ≠ p → b ≠ l → H b = some o → Hz b = some o) ∧ Hz vl = some (.lst (vals.map V.int)) ∧ ∃ rest2 raw : List Int, is = rest2 ++ (got ++ (more ++ raw)).reverse ∧ raw.length = i ∧ Hz r = some (.lst (rest2.map V.int)) ∧
              Hz cd = some (.dK (kvK Sum.inl V.int (linkP (cellsF chs) hb (raw.map (· * far))).1)) ∧ hc = (linkP (cellsF chs) hb (raw.map (· * far))).2)
            ⟨_, _, _, rfl, Wy, ky, vy, rest, [], by rw [List.append_nil]; exact eis, rfl, ry, cy, rfl⟩ ?_ ?_⟩
          · clear Wy ky vy ry cy
            rintro i σ Hz hi ⟨hc, o13, o14, rfl, Wz, kz, vz, rest2, raw, eis2, lraw, rz, cz, rfl⟩
            rw [Int.toNat_natCast] at hi
            have lis3 : rest2.length + got.length + more.length + raw.length = N := by
              rw [← lis, eis2, List.length_append, List.length_reverse, List.length_append, List.length_append]
              omega
            obtain ⟨rest2, y, rfl⟩ := snoc_of (l := rest2) (by omega)
            have := pos y (by rw [eis2]; simp)
            have lpk := linkP_len (cellsF chs) hb (raw.map (· * far))
            rw [List.length_map] at lpk
            dsimp only [gName, List.set]
            refine ⟨_, rfl, .inl ⟨rfl, _, SqL.of rz⟩, pop_int rz ⟨_, rfl, _, _, rfl, rfl, .inl ⟨by omega, by omega⟩, ?_⟩⟩
            have Wa := Wz.own (o := .lst (rest2.map V.int)) npr nlr gr
            have ra : (upd Hz r (.lst (rest2.map V.int))) r = some (.lst (rest2.map V.int)) := upd_same
            have ca : (upd Hz r (.lst (rest2.map V.int))) cd = some (.dK (kvK Sum.inl V.int (linkP (cellsF chs) hb (raw.map (· * far))).1)) := by rw [upd_ne ncr]; exact cz
            have vya : (upd Hz r (.lst (rest2.map V.int))) vl = some (.lst (vals.map V.int)) := by rw [upd_ne nvlr]; exact vz
            have ka : ∀ b o, b ≠ p → b ≠ l → H b = some o → (upd Hz r (.lst (rest2.map V.int))) b = some o := fun b o n1 n2 h => by rw [upd_ne (ne_of_none h hr0)]; exact kz b o n1 n2 h
            generalize upd Hz r (.lst (rest2.map V.int)) = Ha at Wa ra ca vya ka ⊢
            dsimp only [gName, List.set]
            refine ⟨_, rfl, _, rfl, by show 2 ≤ sizeLine; decide, fun t ht => ?_⟩
            have Wb := (Wa.tmp (o := .tup [V.int (y * far), V.int (y * far)]) ht).w
            have rb := sameAdd (o := .tup [V.int (y * far), V.int (y * far)]) ht _ _ ra
            have cb := sameAdd (o := .tup [V.int (y * far), V.int (y * far)]) ht _ _ ca
            have vb := sameAdd (o := .tup [V.int (y * far), V.int (y * far)]) ht _ _ vya
            have kb : ∀ b o, b ≠ p → b ≠ l → H b = some o → (upd Ha t (.tup [V.int (y * far), V.int (y * far)])) b = some o := fun b o n1 n2 h => sameAdd ht _ _ (ka b o n1 n2 h)
            refine ⟨t, _, rfl, SqT.of upd_same, rfl, _, _, rfl, _, rfl, _, rfl, cd, _, rfl, dputI (f := V.int) cb _ (y * far) (by omega), _, _, rfl, rfl, ?_⟩
            dsimp only [gName, List.set]
            have eM : (raw ++ [y]).map (· * far) = raw.map (· * far) ++ [y * far] := by rw [List.map_append]; rfl
            refine ⟨_, _, _, rfl, Wb.own cp cl g3, fun b o n1 n2 h => by rw [upd_ne (ne_of_none h hcd)]; exact kb b o n1 n2 h, by rw [upd_ne nvlc]; exact vb, rest2, raw ++ [y], by rw [eis2]; simp, by rw [List.length_append, lraw]; rfl, by rw [upd_ne ncr.symm]; exact rb, ?_, ?_⟩
            · rw [upd_same, eM, linkP_snoc]
            · rw [eM, linkP_snoc]
          · clear Wy ky vy ry cy
            rintro σ Hz ⟨hc, o13, o14, rfl, Wz, kz, vz, rest2, raw, eis2, lraw, rz, cz, rfl⟩
            rw [Int.toNat_natCast] at lraw
            have lpk := linkP_len (cellsF chs) hb (raw.map (· * far))
            rw [List.length_map] at lpk
            dsimp only [gName, List.set]
            refine ⟨_, rfl, _, rfl, vl, _, qa.2.2, V.int ve, rfl, rfl, SqL.of vz, at_nat ar.2.2.2.1 (by rw [List.getElem?_map, eve]; rfl), _, rfl, _, rfl, cd, _, rfl, dputI (f := V.int) cz _ ve (by omega), ?_⟩
            have ecs : cellsF (chs ++ [(hb, raw.map (· * far), ve)]) = putA (linkP (cellsF chs) hb (raw.map (· * far))).1 (linkP (cellsF chs) hb (raw.map (· * far))).2 ve := by
              rw [cellsF_snoc]
              rfl
            have tk : c.2.take (j + 1) = c.2.take j ++ [qa] := by rw [List.take_add_one, hqa]; rfl
            refine ⟨_, _, _, _, _, _, _, rfl, Wz.own cp cl g3, fun b o n1 n2 h => by rw [upd_ne (ne_of_none h hcd)]; exact kz b o n1 n2 h, by rw [upd_ne nvlc]; exact vz, rest2, more ++ raw, chs ++ [(hb, raw.map (· * far), ve)], eis2, by rw [upd_ne ncr.symm]; exact rz, ?_, ?_, ?_, ?_, ?_⟩
            · rw [List.flatMap_append, ech, List.map_append]
              simp
            · rw [tk]
              refine paired_snoc pch ⟨ehb, eve, fun z => ?_, by show (raw.map (· * far)).length < most; rw [List.length_map]; omega⟩
              have r0 : raw = [] := List.length_eq_zero_iff.mp (by rw [lraw]; exact m0 z)
              rw [r0]
              rfl
            · rw [upd_same, ecs]
            · rw [List.length_append, Nat.add_mul]
              omega
            · rw [ecs, Nat.add_mul]
              have := putA_len (linkP (cellsF chs) hb (raw.map (· * far))).1 (linkP (cellsF chs) hb (raw.map (· * far))).2 ve
              omega
      · rintro σ Hx ⟨o8, o9, o10, o11, o12, o13, o14, rfl, Wx, kx, vx, rest, more, chs, eis, rx, ech, pch, cx, lmore, lcs⟩
        have hlv : vals[0]? = some 0 := by rw [← hvals]; rfl
        have hfin : HeapF most c vals chs := by
          rw [la, List.take_length] at pch
          refine ⟨lv, hlv, pch, ?_, ?_⟩
          · rw [ech, ← hvals, List.cons_append, ← List.map_append]
            have nd2 : (got ++ more).Nodup := by
              have h := nds
              rw [eis] at h
              exact (List.reverse_perm _).nodup_iff.mp (List.nodup_append.mp h).2.1
            refine List.nodup_cons.mpr ⟨fun m => ?_, ?_⟩
            · obtain ⟨x, mx, e⟩ := List.mem_map.mp m
              have := pos x (by rw [eis]; simp only [List.mem_append, List.mem_reverse]; exact .inr (List.mem_append.mp mx))
              have := Int.mul_pos (show 0 < x by omega) (show 0 < far by omega)
              omega
            · exact List.pairwise_map.mpr (nd2.imp fun h e => h (Int.eq_of_mul_eq_mul_right (by omega) e))
          · intro x m
            rw [ech, ← hvals, List.cons_append, ← List.map_append] at m
            rcases List.mem_cons.mp m with rfl | m
            · exact Int.le_refl _
            · obtain ⟨y, my, rfl⟩ := List.mem_map.mp m
              have := pos y (by rw [eis]; simp only [List.mem_append, List.mem_reverse]; exact .inr (List.mem_append.mp my))
              exact Int.mul_nonneg (by omega) (by omega)
        clear pch ech lmore lcs rx eis hlv v7 k7 W7 c7 r7
        have lotle : ∀ l ∈ c.1, l.length ≤ 8 := fun l m => by
          have := (List.sublist_flatten_of_mem m).length_le
          have := ok.perm.length_eq
          omega
        have free0 : ∀ {Hy : Hp} {t : Addr}, Same Hx Hy → Hy t = none → H t = none := fun {Hy t} sy h => by
          cases z : H t with
          | none => rfl
          | some o =>
            have n1 : t ≠ p := (Wx.still sy).w.np h
            have n2 : t ≠ l := (Wx.still sy).w.nl h
            have := sy _ _ (kx _ _ n1 n2 z)
            rw [h] at this
            cases this
        refine ⟨Nat.zero_le _, fun st hst => ?_⟩
        dsimp only [gName, List.set]
        refine ⟨_, rfl, b1, ls, rfl, sameT ((s3.trans Wx.same).trans (sameAdd hst)) sb1, for_enumT (K := K) (a := b1) (xs := ls) (fun i σ Hy => ∃ (o8 o16 : Option V) (st : Addr), σ = [some (.ref p), some (.ref va), some (.int (most : Int)), some (.ref b1), some (.ref cd), some (.ref r), some (.int far), some (.ref vl), o8, o9, o10, o11, o12, o13, o14, some (.ref st), o16, none] ∧
            Same Hx Hy ∧ ∃ ts : List Addr, Hy st = some (.lst (ts.map V.ref)) ∧ ts.length ≤ i * 8 ∧ Paired (fun (t : Addr) (q : Str × Int) => NT H Hy t [.str q.1, .int q.2]) ts (((c.1.zip vals).take i).flatMap fun q => q.1.map fun n => (n, q.2)))
          ⟨o8, none, st, rfl, sameAdd hst, [], upd_same, Nat.zero_le _, .nil⟩ (fun i σ Hy _ ⟨_, _, _, _, sy, _⟩ => sameT ((s3.trans Wx.same).trans sy) sb1) ?_ ?_⟩
        · clear hst st
          rintro i x T' σ Hy hx ⟨o8, o16, st, rfl, sy, ts, hst, lts, pts⟩ hT
          obtain ⟨b, l, hl, rfl, sb⟩ := da_lot dls hx
          have ilt := (List.getElem?_eq_some_iff.mp hl).1
          obtain ⟨v, hv⟩ : ∃ v, vals[i]? = some v := ⟨vals[i]'(by omega), List.getElem?_eq_getElem (by omega)⟩
          have l8 := lotle l (List.mem_of_getElem? hl)
          have tk : (c.1.zip vals).take (i + 1) = (c.1.zip vals).take i ++ [(l, v)] := by
            rw [List.take_add_one, List.getElem?_zip_eq_some.mpr (show c.1[i]? = some (l, v).1 ∧ vals[i]? = some (l, v).2 from ⟨hl, hv⟩)]
            rfl
          dsimp only [gName, List.set]
          refine ⟨T', _, rfl, SqT.of upd_same, rfl, _, _, rfl, _, _, rfl, rfl, ?_⟩
          dsimp only [gName, List.set]
          have s1 := sy.trans (sameAdd (o := .tup [V.int i, V.ref b]) hT)
          have hst1 := sameAdd (o := .tup [V.int i, V.ref b]) hT _ _ hst
          have pts1 := paired_mpL pts fun t q h => h.same (sameAdd (o := .tup [V.int i, V.ref b]) hT)
          generalize upd Hy T' (.tup [V.int i, V.ref b]) = Hz at s1 hst1 pts1 ⊢
          clear hst pts sy hT Hy
          refine ⟨_, rfl, _, rfl, b, rfl, ⟨_, sameT ((s3.trans Wx.same).trans s1) sb⟩, fun D hD => lc_tup (K := K) (a := b) (xs := l.map V.str) (fun j Ha => Same Hz Ha ∧ ∃ us : List Addr, Ha D = some (.lst (us.map V.ref)) ∧ us.length = j ∧ Paired (fun (t : Addr) (n : Str) => NT H Ha t [.str n, .int v]) us (l.take j))
            ⟨sameAdd hD, [], upd_same, rfl, .nil⟩ (fun j Ha _ h => sameT (((s3.trans Wx.same).trans s1).trans h.1) sb) ?_ ?_⟩
          · rintro j x Ha hx ⟨sa, us, hDa, lus, pus⟩
            obtain ⟨n, hn, rfl⟩ : ∃ n, l[j]? = some n ∧ x = V.str n := by
              rw [List.getElem?_map] at hx
              obtain ⟨n, e, q⟩ := Option.map_eq_some_iff.mp hx
              exact ⟨n, e, q.symm⟩
            have jl := (List.getElem?_eq_some_iff.mp hn).1
            have tkj : l.take (j + 1) = l.take j ++ [n] := by rw [List.take_add_one, hn]; rfl
            refine ⟨rfl, _, rfl, _, rfl, _, rfl, vl, _, (i : Int), V.int v, rfl, rfl, SqL.of (((s1.trans sa)) _ _ vx), at_nat (by omega) (by rw [Int.toNat_natCast, List.getElem?_map, hv]; rfl), by show 2 ≤ sizeLine; decide, fun t ht => ?_⟩
            have nDt : D ≠ t := fun e => by rw [← e, hDa] at ht; cases ht
            refine ⟨us.map V.ref, by rw [upd_ne nDt]; exact hDa, by rw [List.length_map]; omega, sameOut (sa.trans (sameAdd ht)) hD, us ++ [t], by rw [upd_same, List.map_append]; rfl, by rw [List.length_append, lus]; rfl, ?_⟩
            rw [tkj]
            refine paired_snoc (paired_mpL pus fun u n h => ?_) ⟨free0 (s1.trans sa) ht, by rw [upd_ne nDt.symm, upd_same]⟩
            have h2 := h.same (sameAdd (o := .tup [V.str n, V.int v]) ht)
            refine ⟨h.1, ?_⟩
            rw [upd_ne (show u ≠ D from fun e => by rw [e] at h; rw [h.2] at hDa; cases hDa)]
            exact sameAdd ht _ _ h.2
          · rintro Ha ⟨sa, us, hDa, lus, pus⟩
            rw [List.length_map] at lus pus
            rw [List.take_length] at pus
            refine ⟨st, D, _, _, rfl, rfl, sa _ _ hst1, hDa, by rw [List.length_map, List.length_map]; omega, fun st2 hst2 => ?_⟩
            dsimp only [gName, List.set]
            refine ⟨_, _, st2, rfl, (s1.trans sa).trans (sameAdd hst2), ts ++ us, by rw [upd_same, List.map_append], by rw [List.length_append]; omega, ?_⟩
            rw [tk, List.flatMap_append]
            refine paired_append (paired_mpL pts1 fun t q h => (h.same sa).same (sameAdd hst2)) ?_
            have := paired_map2 (g := fun n => (n, v)) (G := fun (t : Addr) (q : Str × Int) => NT H (upd Ha st2 (.lst (ts.map V.ref ++ us.map V.ref))) t [.str q.1, .int q.2]) (fun t n h => h.same (sameAdd hst2)) pus
            simpa using this
        · rintro σ Hy ⟨o8, o16, st, rfl, sy, ts, hst, lts, pts⟩
          have tkall : (c.1.zip vals).take ls.length = c.1.zip vals := List.take_of_length_le (by rw [List.length_zip]; omega)
          rw [tkall] at pts
          have pts : Paired (fun (t : Addr) (q : Str × Int) => NT H Hy t [.str q.1, .int q.2]) ts (rowsF c.1 vals) := pts
          have Wy := (Wx.still sy).w
          have ky : ∀ b o, b ≠ p → b ≠ l → H b = some o → Hy b = some o := fun b o n1 n2 h => sy _ _ (kx b o n1 n2 h)
          have cy := sy _ _ cx
          have fy : ∀ {Ha : Hp} {t : Addr}, Same Hy Ha → Ha t = none → H t = none := fun sa h => free0 (sy.trans sa) h
          clear free0 kx vx cx Wx
          refine ⟨_, rfl, st, ts.map V.ref, Str × Int, rowsF c.1 vals, pairS, fun x q => ∃ t, x = V.ref t ∧ NT H Hy t [.str q.1, .int q.2], rfl, SqL.of hst, fun x m => ?_, ?_, ?_, ?_, ?_, ?_, fun ys p2 py pr hp2 => ?_⟩
          · obtain ⟨t, _, rfl⟩ := List.mem_map.mp m
            exact ⟨t, rfl⟩
          · exact paired_map1 (fun t q h => ⟨t, rfl, h⟩) pts
          · exact paired_map1 (fun t q h => .tup h.sq (.cons (.str _) (.cons (.int _) .nil))) pts
          · intro b b'
            simp [PySem.W.alike, PySem.W.alikeAll]
          · exact fun b => ⟨_, _, rfl⟩
          · intro b _
            simp only [PyData.depth, PyData.depthAll]
            omega
          · obtain ⟨us, rfl, pus⟩ := refs_of pr
            have sa : Same Hy (upd Hy p2 (.lst (us.map V.ref))) := sameAdd hp2
            have p2a : (upd Hy p2 (.lst (us.map V.ref))) p2 = some (.lst (us.map V.ref)) := upd_same
            generalize upd Hy p2 (.lst (us.map V.ref)) = Ha at sa p2a ⊢
            refine ⟨p2, _, rfl, SqL.of p2a, fun a0 o ho ha0 => ?_⟩
            have sb := sa.trans (sameAdd (o := .frz o (.tup (us.map V.ref))) ha0)
            have a0b : (upd Ha a0 (.frz o (.tup (us.map V.ref)))) a0 = some (.frz o (.tup (us.map V.ref))) := upd_same
            have fa0 : H a0 = none := fy sa ha0
            generalize upd Ha a0 (.frz o (.tup (us.map V.ref))) = Hb at sb a0b ⊢
            have cb := sb _ _ cy
            refine ⟨_, rfl, .inr (.inr (.inl ⟨rfl, .inl ⟨_, cb⟩⟩)), cd, _, rfl, rfl, cb, fun iv hiv => ?_⟩
            have s4 := sb.trans (sameAdd (o := DX.itemsO iv cd) hiv)
            have a0d := sameAdd (o := DX.itemsO iv cd) hiv _ _ a0b
            have ivd : (upd Hb iv (DX.itemsO iv cd)) iv = some (DX.itemsO iv cd) := upd_same
            have cdd := sameAdd (o := DX.itemsO iv cd) hiv _ _ cb
            generalize upd Hb iv (DX.itemsO iv cd) = Hd at s4 a0d ivd cdd ⊢
            refine ⟨iv, cd, cellsF chs, rfl, ivd, cdd, fun He lz tz se hlz le ptz ntz => ?_⟩
            have s5 : Same Hy He := s4.trans se
            have a0e := se _ _ a0d
            have ntz2 : Paired (fun (t : Addr) (q : Int × Int) => NT H He t [.int q.1, .int q.2]) tz (heapF chs) := paired_in ptz fun t q m h => ⟨fy s4 (ntz t m), h⟩
            clear ptz ntz cdd ivd cb se
            refine ⟨lz, _, rfl, SqL.of le, fun b0 ob hob hb0 => ⟨by show 2 ≤ sizeLine; decide, fun rr hrr => ?_⟩⟩
            have sf := (s5.trans (sameAdd (o := .frz ob (.tup (tz.map V.ref))) hb0)).trans (sameAdd (o := .tup [V.ref a0, V.ref b0]) hrr)
            have a0f := sameAdd (o := .tup [V.ref a0, V.ref b0]) hrr _ _ (sameAdd (o := .frz ob (.tup (tz.map V.ref))) hb0 _ _ a0e)
            have b0f : (upd (upd He b0 (.frz ob (.tup (tz.map V.ref)))) rr (.tup [V.ref a0, V.ref b0])) b0 = some (.frz ob (.tup (tz.map V.ref))) := sameAdd hrr _ _ upd_same
            have rrf : (upd (upd He b0 (.frz ob (.tup (tz.map V.ref)))) rr (.tup [V.ref a0, V.ref b0])) rr = some (.tup [V.ref a0, V.ref b0]) := upd_same
            have nf := paired_mpL ntz2 fun t q h => (h.same (sameAdd (o := .frz ob (.tup (tz.map V.ref))) hb0)).same (sameAdd (o := .tup [V.ref a0, V.ref b0]) hrr)
            have fb0 : H b0 = none := fy s5 hb0
            have frr : H rr = none := fy (s5.trans (sameAdd (o := .frz ob (.tup (tz.map V.ref))) hb0)) hrr
            generalize upd (upd He b0 (.frz ob (.tup (tz.map V.ref)))) rr (.tup [V.ref a0, V.ref b0]) = Hf at sf a0f b0f rrf nf ⊢
            obtain ⟨G', e', sN⟩ := W.allnew (Wy.still sf).w s3 fun b o n1 n2 h => sf _ _ (ky b o n1 n2 h)
            refine k rr a0 b0 us vals chs G' Hf e' (SqT.of (sN _ _ (Nw.of frr rrf))) ⟨o, ho, sN _ _ (Nw.of fa0 a0f)⟩ ⟨tz, ⟨ob, hob, sN _ _ (Nw.of fb0 b0f)⟩, da_pairs (g := fun q : Int × Int => [.int q.1, .int q.2]) (h := fun q => [.int q.1, .int q.2]) (fun q => rfl) (fun q => .cons (.int _) (.cons (.int _) .nil)) (paired_mpL nf fun t q h => sameT sN h.nw)⟩ ?_ ?_ hfin
            · refine da_pairs (g := fun q : Str × Int => [.str q.1, .int q.2]) (h := fun q => [.str q.1, .int q.2]) (fun q => rfl) (fun q => .cons (.str _) (.cons (.int _) .nil)) (paired_mpL pus fun t q h => ?_)
              exact sameT sN (h.same sf).nw
            · refine .tup (PlT.sqT ⟨ob, hob, sN _ _ (Nw.of fb0 b0f)⟩) (da_pairs (g := fun q : Int × Int => [.int q.1, .int q.2]) (h := fun q => [.int q.1, .int q.2]) (fun q => rfl) (fun q => .cons (.int _) (.cons (.int _) .nil)) (paired_mpL nf fun t q h => ?_))
              exact sameT sN h.nw
end
end L2.Hx

/-! Parts taken out of cases: the law's homes, ways, looks. -/
namespace L2.Hx
open PySem PySem.Spec PyProof.Rows
def Trm (ns : List Str) (t : Str) : Prop := t = "nil" ∨ t ∈ ns
def wSp (c : Cs) (t : Str) : Int := (spotF c.1 t : Int)
theorem ar_at {K : PySem.W.Frag} {G : Hp} {as : List V} {ars : List Ar} {i : Nat} {x : V} (h : DaAll K G as (ars.map arD)) (hx : as[i]? = some x) : ∃ a q, ars[i]? = some q ∧ x = .ref a ∧ SqT K G a [.int q.1, .str q.2.1, .int q.2.2] := by
  obtain ⟨d, e, da⟩ := h.get hx
  rw [List.getElem?_map] at e
  obtain ⟨q, e1, rfl⟩ := Option.map_eq_some_iff.mp e
  obtain ⟨a, xs, rfl, sq, da2⟩ := da.tupI
  cases da2 with
  | cons h1 t =>
    cases h1
    cases t with
    | cons h2 t =>
      cases h2
      cases t with
      | cons h3 t =>
        cases h3
        cases t
        exact ⟨a, q, e1, rfl, sq⟩
/-- a new key put behind -/
def spHome (K : PySem.W.Frag) : Sp := fun vs H Q _ => ∃ (v : V) (G : Hp) (ns : List Str) (c : Cs), vs = [v] ∧ Same G H ∧ Da K G v (caseD c) ∧ CaseOk ns c ∧ ns.Nodup ∧ ¬ ("nil" : Str) ∈ ns ∧ ns.length ≤ 8 ∧
  ∀ (d : Addr) (sp : List (Str × Int)) (H' : Hp), Same H H' → H d = none → H' d = some (.dK (kvK Sum.inr V.int sp)) → (∀ t, Trm ns t → getA sp t = some (wSp c t)) → (keysA sp).Nodup → (∀ t ∈ keysA sp, Trm ns t) → Q (.ref d) H'
abbrev tailW (q : Int × Wy) : Ar := (q.1, q.2.2)
def spWays (K : PySem.W.Frag) : Sp := fun vs H Q _ => ∃ (v : V) (G : Hp) (c : Cs), vs = [v] ∧ Same G H ∧ Da K G v (caseD c) ∧ (c.2.map fun q => q.1).Nodup ∧ c.2.length ≤ 40 ∧
  ∀ (d : Addr) (ws : Ws) (H' : Hp), Same H H' → H d = none → H' d = some (.dK (kvK Sum.inl wyV ws)) → ws.map tailW = c.2 → (∀ q ∈ ws, SqT K H' q.2.1 [.str q.2.2.1, .int q.2.2.2]) → Q (.ref d) H'
theorem sq_lst {K : PySem.W.Frag} {L : Addr} {o2 : HO} {H : Hp} {a : Addr} {xs zs : List V} (hL : H L = some (.lst zs)) (q : SqT K H a xs) : SqT K (upd H L o2) a xs := by
  have n : ∀ o, H a = some o → (∀ ys, o ≠ .lst ys) → a ≠ L := fun o e z q => by
    rw [q, hL] at e
    exact z zs (Option.some.inj e).symm
  rcases q with (q | ⟨o, q⟩) | q
  · exact .inl (.inl (by rw [upd_ne (n _ q (by intro k z; cases z))]; exact q))
  · exact .inl (.inr ⟨o, by rw [upd_ne (n _ q (by intro k z; cases z))]; exact q⟩)
  · exact .inr q
section
variable {P : Program} {w : World} {K : PySem.W.Frag} {mg : Str → Option Value} {base : Heap}
theorem D_l_home (T : Txt K mg) : Df P w K mg base 1 "_law_home" ["case"] (spHome K) := by
  obtain ⟨f, fd, S⟩ := T.d_l_home
  refine Df.mk' (k := 0) S sc_l_home (fun vs H Q E h => ?_) (fun cdv A outer s H vs Q E hgd hr h => ?_)
  · obtain ⟨v, G, ns, c, rfl, _⟩ := h
    rfl
  · obtain ⟨v, G, ns, c, rfl, sm, dcase, ok, ndn, nnn, lnn, kk⟩ := h
    obtain ⟨va, a, b2, ls, as, rfl, sva, ha, da, _, _⟩ := da_case dcase
    have mem : ∀ z, z ∈ c.1.flatten ↔ z ∈ ns := fun z => ok.perm.mem_iff
    have nd : c.1.flatten.Nodup := ok.nd ndn
    have nn : ¬ ("nil" : Str) ∈ c.1.flatten := fun z => nnn ((mem _).mp z)
    have ln : c.1.flatten.length ≤ 100 := by have := ok.perm.length_eq; omega
    have k : ∀ (d : Addr) (sp : List (Str × Int)) (H' : Hp), Same H H' → H d = none → H' d = some (.dK (kvK Sum.inr V.int sp)) → (∀ t : Str, t = "nil" ∨ t ∈ c.1.flatten → getA sp t = some (spotF c.1 t : Int)) → (keysA sp).Nodup → (∀ t ∈ keysA sp, t = "nil" ∨ t ∈ c.1.flatten) → Q (.ref d) H' := fun d sp H' a1 a2 a3 a4 a5 a6 => kk d sp H' a1 a2 a3 (fun t ht => a4 t (ht.imp id (mem t).mpr)) a5 fun t ht => (a6 t ht).imp id (mem t).mp
    generalize c.1 = lots at da nd nn ln k
    have hu := hu_of hr
    have big : (2000 : Nat) ≤ sizeLine := by decide
    refine ⟨_, (pss_cons (ps_set (i := 1) sc_l_home.nd rfl (.inl rfl) (pe_disp (pps_cons pe_str pe_int pps_nil) (by rfl) (by rfl) (fun z => by cases z) (by decide)))
      (pss_cons (ps_for PassesOwn.never rfl (pi_enumT rfl T.b_enumerate (pa_cons (pe_ix ix_tup (pv 0) pe_int (fun _ _ => rfl)) pa_nil)) (pg_tup rfl (pgs_cons (pg_name (i := 2) sc_l_home.nd rfl (.inl rfl)) (pgs_cons (pg_name (i := 3) sc_l_home.nd rfl (.inl rfl)) pgs_nil)))
      (pss_one (ps_for PassesOwn.never rfl (pi_tup (pv 3)) (pg_name (i := 4) sc_l_home.nd rfl (.inl rfl))
      (pss_one (ps_dput hu (pv 1) (pv 4) (pv 2) rfl)))))
      (pss_one (ps_ret (pv 1))))), ?_⟩
    refine fun d hd => ⟨upd_same, [(.inr "nil", .int 0)], rfl, by decide, ?_⟩
    have em : mergeK [] [((Sum.inr "nil" : Key), V.int 0)] = kvK Sum.inr V.int [(("nil" : Str), (0 : Int))] := rfl
    rw [em]
    have s1 : Same H (upd (upd H d (.dK [])) d (.dK (kvK Sum.inr V.int [(("nil" : Str), (0 : Int))]))) := sameOut (sameAdd hd) hd
    have h1 : (upd (upd H d (.dK [])) d (.dK (kvK Sum.inr V.int [(("nil" : Str), (0 : Int))]))) d = some (.dK (kvK Sum.inr V.int [(("nil" : Str), (0 : Int))])) := upd_same
    generalize upd (upd H d (.dK [])) d (.dK (kvK Sum.inr V.int [(("nil" : Str), (0 : Int))])) = H1 at s1 h1 ⊢
    dsimp only [gName, List.set]
    have lt : ∀ i, ((lots.take i).flatten).length ≤ 100 := fun i => by
      have e : lots.flatten = (lots.take i).flatten ++ (lots.drop i).flatten := by rw [← List.flatten_append, List.take_append_drop]
      have := congrArg List.length e
      rw [List.length_append] at this
      omega
    refine ⟨_, rfl, va, _, 0, _, rfl, rfl, sameT (sm.trans s1) sva, rfl, a, ls, rfl, sameT (sm.trans s1) ha, for_enumT (K := K) (a := a) (xs := ls) (fun i σ Hx => ∃ o2 o3 o4, σ = [some (.ref va), some (.ref d), o2, o3, o4] ∧ Same H Hx ∧ ∃ sp : List (Str × Int), Hx d = some (.dK (kvK Sum.inr V.int sp)) ∧ sp.length ≤ 1 + ((lots.take i).flatten).length ∧
        getA sp "nil" = some 0 ∧ (keysA sp).Nodup ∧ (∀ t ∈ keysA sp, t = "nil" ∨ t ∈ lots.flatten) ∧ ∀ t ∈ (lots.take i).flatten, getA sp t = some ((lots.findIdx fun l => decide (t ∈ l) : Nat) : Int))
      ⟨_, _, _, rfl, s1, _, h1, by simp, rfl, by decide +kernel, fun t m => .inl (List.mem_singleton.mp m), fun t m => by simp at m⟩ (fun i σ Hx _ ⟨_, _, _, _, sx, _⟩ => sameT (sm.trans sx) ha) ?_ ?_⟩
    · rintro i x T' σ Hx hx ⟨o2, o3, o4, rfl, sx, sp, hsp, lsp, gn, knd, ksub, gt⟩ hT
      obtain ⟨b, l, hl, rfl, sb⟩ := da_lot da hx
      have tk : (lots.take (i + 1)).flatten = (lots.take i).flatten ++ l := by rw [List.take_add_one, hl, List.flatten_append]; simp
      have hlen := lt (i + 1)
      rw [tk, List.length_append] at hlen
      dsimp only [gName, List.set]
      refine ⟨T', _, rfl, SqT.of upd_same, rfl, _, _, rfl, _, _, rfl, rfl, ?_⟩
      dsimp only [gName, List.set]
      have s2 := sx.trans (sameAdd (o := .tup [V.int i, V.ref b]) hT)
      have hsp2 := sameAdd (o := .tup [V.int i, V.ref b]) hT _ _ hsp
      generalize upd Hx T' (.tup [V.int i, V.ref b]) = Hy at s2 hsp2 ⊢
      refine ⟨_, rfl, b, rfl, ⟨_, sameT (sm.trans s2) sb⟩, for_tup (K := K) (a := b) (xs := l.map V.str) (fun j σ Hx => ∃ o4, σ = [some (.ref va), some (.ref d), some (.int i), some (.ref b), o4] ∧ Same H Hx ∧ ∃ sp : List (Str × Int), Hx d = some (.dK (kvK Sum.inr V.int sp)) ∧ sp.length ≤ 1 + ((lots.take i).flatten).length + j ∧
          getA sp "nil" = some 0 ∧ (keysA sp).Nodup ∧ (∀ t ∈ keysA sp, t = "nil" ∨ t ∈ lots.flatten) ∧ ∀ t ∈ (lots.take i).flatten ++ l.take j, getA sp t = some ((lots.findIdx fun l => decide (t ∈ l) : Nat) : Int))
        ⟨_, rfl, s2, sp, hsp2, by omega, gn, knd, ksub, fun t m => gt t (by simpa using m)⟩ (fun j σ Hx _ ⟨_, _, sx, _⟩ => sameT (sm.trans sx) sb) ?_ ?_⟩
      · clear sx hsp lsp gn knd ksub gt sp s2 hsp2
        rintro j x σ Hx hx ⟨o4, rfl, sx, sp, hsp, lsp, gn, knd, ksub, gt⟩
        obtain ⟨n, hn, rfl⟩ : ∃ n, l[j]? = some n ∧ x = V.str n := by
          rw [List.getElem?_map] at hx
          obtain ⟨n, e, q⟩ := Option.map_eq_some_iff.mp hx
          exact ⟨n, e, q.symm⟩
        have jl := (List.getElem?_eq_some_iff.mp hn).1
        dsimp only [gName, List.set]
        refine ⟨_, rfl, _, rfl, _, rfl, d, _, rfl, dputS (f := V.int) hsp n (i : Int) (by omega), ?_⟩
        have tj : l.take (j + 1) = l.take j ++ [n] := by rw [List.take_add_one, hn]; rfl
        have ml : n ∈ l := List.mem_of_getElem? hn
        have nen : ¬ ("nil" : Str) = n := fun e => nn (by rw [e]; exact List.mem_flatten.mpr ⟨l, List.mem_of_getElem? hl, ml⟩)
        refine ⟨_, rfl, sameOut sx hd, putA sp n (i : Int), upd_same, by have := putA_len sp n (i : Int); omega, by rw [get_putA, if_neg nen]; exact gn, putA_nodup knd, fun t m => (putA_keys.mp m).elim (ksub t) fun e => .inr (by rw [e]; exact List.mem_flatten.mpr ⟨l, List.mem_of_getElem? hl, ml⟩), fun t m => ?_⟩
        rw [get_putA]
        split
        · rename_i e
          rw [e, find_uniq nd hl ml]
        · rename_i e
          refine gt t ?_
          rw [tj, ← List.append_assoc] at m
          exact (List.mem_append.mp m).resolve_right fun z => e (List.mem_singleton.mp z)
      · rintro σ Hx ⟨o4, rfl, sx, sp, hsp, lsp, gn, knd, ksub, gt⟩
        rw [List.length_map] at lsp gt
        rw [List.take_length] at gt
        exact ⟨_, _, _, rfl, sx, sp, hsp, by rw [tk, List.length_append]; omega, gn, knd, ksub, by rw [tk]; exact gt⟩
    · rintro σ Hx ⟨o2, o3, o4, rfl, sx, sp, hsp, lsp, gn, knd, ksub, gt⟩
      have e : lots.take ls.length = lots := by
        rw [da.length, List.length_map, List.take_length]
      rw [e] at gt
      refine ⟨_, rfl, k d sp Hx sx hd hsp (fun t m => ?_) knd ksub⟩
      unfold spotF
      split
      · rename_i e
        rw [e]
        exact gn
      · rename_i e
        exact gt t (m.resolve_left e)
theorem D_l_ways (T : Txt K mg) : Df P w K mg base 1 "_law_ways" ["case"] (spWays K) := by
  obtain ⟨f, fd, S⟩ := T.d_l_ways
  refine Df.mk' (k := 0) S sc_l_ways (fun vs H Q E h => ?_) (fun cdv A outer s H vs Q E hgd hr h => ?_)
  · obtain ⟨v, G, c, rfl, _⟩ := h
    rfl
  · obtain ⟨v, G, c, rfl, sm, dc, bnd, al, k⟩ := h
    have hu := hu_of hr
    have big : (2000 : Nat) ≤ sizeLine := by decide
    refine ⟨_, (pss_one (ps_ret (pe_callTy (call_dictP rfl) (by rfl) T.b_dict (by decide +kernel) (pa_cons (pe_lc (X := (cxOf CX0 P w K mg base ["case", "begin", "kind", "end"] "_law_ways" (defScope s_l_ways) f cdv A outer s H E).nox) (own := [("begin", 1), ("kind", 2), ("end", 3)]) (g := gTup K 3 (gCons (gName 1) (gCons (gName 2) (gCons (gName 3) gNil)))) (tt := tYes) (te := tTup (tCons (tVar 1) (tCons (tTup (tCons (tVar 2) (tCons (tVar 3) tNil))) tNil))) rfl sc_l_ways.nd (pi_tup (pe_ix ix_tup (pv 0) pe_int (fun _ _ => rfl))) (blkOk_by (own := [("begin", 1), ("kind", 2), ("end", 3)]) (N := ["case", "begin", "kind", "end"]) (sc := defScope s_l_ways) (by decide +kernel)) (fun _ _ _ _ _ => pg_tup rfl (pgs_cons (pg_name (i := 1) sc_l_ways.nd rfl (.inl rfl)) (pgs_cons (pg_name (i := 2) sc_l_ways.nd rfl (.inl rfl)) (pgs_cons (pg_name (i := 3) sc_l_ways.nd rfl (.inl rfl)) pgs_nil)))) (fun _ _ _ _ _ => pts_nil) (fun _ _ _ _ _ => (pe_tup (pa_cons (pv 1) (pa_cons (pe_tup (pa_cons (pv 2) (pa_cons (pv 3) pa_nil))) pa_nil))))) pa_nil)))), ?_⟩
    obtain ⟨a, b1, b2, ls, as, rfl, sa, sb1, dls, sb2, das⟩ := da_case dc
    have la : as.length = c.2.length := by rw [das.length, List.length_map]
    refine ⟨_, rfl, a, _, 1, _, rfl, rfl, sameT sm sa, rfl, b2, rfl, ⟨_, sameT sm sb2⟩, fun L hL => lc_tup (K := K) (a := b2) (xs := as) (fun i Hx => Same H Hx ∧ ∃ (ts : List Addr) (ws : Ws), Hx L = some (.lst (ts.map V.ref)) ∧ ws.map tailW = c.2.take i ∧ ts.length = i ∧ (∀ q ∈ ws, SqT K Hx q.2.1 [.str q.2.2.1, .int q.2.2.2] ∧ q.2.1 ≠ L) ∧ Paired (fun (t : Addr) (q : Int × Wy) => Hx t = some (.tup [.int q.1, .ref q.2.1])) ts ws)
      ⟨sameAdd hL, [], [], upd_same, rfl, rfl, fun q m => absurd m List.not_mem_nil, .nil⟩ (fun i Hx _ h => sameT (sm.trans h.1) sb2) ?_ ?_⟩
    · rintro i x Hx hx ⟨sx, ts, ws, lx, ew, lt, wt, pt⟩
      obtain ⟨t, q, hq, rfl, sq⟩ := ar_at das hx
      have hi := (List.getElem?_eq_some_iff.mp hq).1
      have tk : c.2.take (i + 1) = c.2.take i ++ [q] := by rw [List.take_add_one, hq]; rfl
      refine ⟨t, _, rfl, sameT (sm.trans sx) sq, rfl, _, _, rfl, _, _, rfl, _, _, rfl, rfl, rfl, _, rfl, _, rfl, _, rfl, by show 2 ≤ sizeLine; decide, fun t1 ht1 => ⟨by show 2 ≤ sizeLine; decide, fun t2 ht2 => ?_⟩⟩
      have s1 := sameAdd (o := .tup [V.str q.2.1, .int q.2.2]) ht1
      have s2 := s1.trans (sameAdd (o := .tup [V.int q.1, .ref t1]) ht2)
      have lx2 := s2 _ _ lx
      have n1 : t1 ≠ L := fun e => by rw [e, lx] at ht1; cases ht1
      have n2 : t2 ≠ L := fun e => by rw [e, s1 _ _ lx] at ht2; cases ht2
      refine ⟨_, lx2, by rw [List.length_map]; omega, sameOut (sx.trans s2) hL, ts ++ [t2], ws ++ [(q.1, t1, q.2)], by rw [upd_same, List.map_append]; rfl, by rw [List.map_append, ew, tk]; rfl, by rw [List.length_append, lt]; rfl, ?_, ?_⟩
      · intro z m
        rcases List.mem_append.mp m with m | m
        · obtain ⟨h1, h2⟩ := wt z m
          exact ⟨sq_lst lx2 (sameT s2 h1), h2⟩
        · rw [List.mem_singleton.mp m]
          exact ⟨SqT.of (by rw [upd_ne n1]; exact sameAdd ht2 _ _ upd_same), n1⟩
      · refine paired_snoc (paired_mpL pt fun u z h => ?_) (by rw [upd_ne n2, upd_same])
        have hu2 := s2 _ _ h
        rw [upd_ne (show u ≠ L from fun e => by rw [e] at h; rw [lx] at h; cases h)]
        exact hu2
    · rintro Hx ⟨sx, ts, ws, lx, ew, lt, wt, pt⟩
      rw [la, List.take_length] at ew
      have kd : (keysA ws).Nodup := by
        have e : keysA ws = c.2.map fun q => q.1 := by
          rw [← ew, List.map_map]
          rfl
        rw [e]
        exact bnd
      refine ⟨L, ts, kvK Sum.inl wyV ws, rfl, SqL.of lx, ?_, fun D hD => ?_⟩
      · clear ew wt kd lt lx
        induction pt with
        | nil => exact .nil
        | cons h _ ih => exact .cons (SqT.of h) ih
      · have mm := merge_kv (ι := (Sum.inl : Int → Key)) (f := wyV) inl_inj ws [] (by rw [List.nil_append]; exact kd)
        rw [List.nil_append] at mm
        have mm2 : mergeK [] (kvK (Sum.inl : Int → Key) wyV ws) = kvK Sum.inl wyV ws := mm
        rw [mm2]
        exact k D ws _ (sx.trans (sameAdd hD)) (sx.free hD) upd_same ew fun q m => sameT (sameAdd hD) (wt q m).1
end
end L2.Hx

/-! Chains of a heap that is drawn of a case. -/
namespace L2.Hx
open PySem PySem.Spec PyProof.Rows
/-- the cells of a chain -/
def lnkR : Int → List Int → Int → List (Int × Int)
  | b, [], e => [(b, e)]
  | b, d :: ds, e => (b, d) :: lnkR d ds e
theorem lnkR_keys : ∀ (b : Int) (ds : List Int) (e : Int), keysA (lnkR b ds e) = b :: ds
  | _, [], _ => rfl
  | b, d :: ds, e => by
    show b :: keysA (lnkR d ds e) = _
    rw [lnkR_keys d ds e]
theorem putA_new {l : List (Int × Int)} {k v : Int} (h : ¬ k ∈ keysA l) : putA l k v = l ++ [(k, v)] := by
  unfold putA
  rw [if_neg h]
theorem linkF_new : ∀ (ds : List Int) (cs : List (Int × Int)) (b e : Int), (keysA cs ++ b :: ds).Nodup → linkF cs (b, ds, e) = cs ++ lnkR b ds e
  | [], cs, b, e, h => by
    have hn : ¬ b ∈ keysA cs := fun m => (List.nodup_append.mp h).2.2 b m b List.mem_cons_self rfl
    exact putA_new hn
  | d :: ds, cs, b, e, h => by
    have hn : ¬ b ∈ keysA cs := fun m => (List.nodup_append.mp h).2.2 b m b List.mem_cons_self rfl
    show linkF (putA cs b d) (d, ds, e) = _
    have e1 : keysA (cs ++ [(b, d)]) ++ d :: ds = keysA cs ++ b :: d :: ds := by
      unfold keysA
      rw [List.map_append, List.append_assoc]
      rfl
    rw [putA_new hn, linkF_new ds (cs ++ [(b, d)]) d e (by rw [e1]; exact h), List.append_assoc]
    rfl
def lnkC (ch : Ch) : List (Int × Int) := lnkR ch.1 ch.2.1 ch.2.2
def exC (ch : Ch) : List Int := ch.1 :: ch.2.1
theorem cells_new : ∀ (chs pre : List Ch), ((pre ++ chs).flatMap exC).Nodup → (keysA (pre.flatMap lnkC) = pre.flatMap exC) → chs.foldl linkF (pre.flatMap lnkC) = (pre ++ chs).flatMap lnkC
  | [], pre, _, _ => by
    rw [List.append_nil]
    rfl
  | ch :: chs, pre, h, hk => by
    have e1 : pre ++ ch :: chs = (pre ++ [ch]) ++ chs := by rw [List.append_assoc]; rfl
    have h1 : (keysA (pre.flatMap lnkC) ++ exC ch).Nodup := by
      rw [hk]
      rw [e1, List.flatMap_append, List.flatMap_append] at h
      have := (List.nodup_append.mp h).1
      simpa using this
    have e2 : linkF (pre.flatMap lnkC) ch = (pre ++ [ch]).flatMap lnkC := by
      obtain ⟨b, ds, e⟩ := ch
      rw [linkF_new ds _ b e h1, List.flatMap_append]
      simp [lnkC]
    show chs.foldl linkF (linkF (pre.flatMap lnkC) ch) = _
    rw [e2, e1]
    refine cells_new chs (pre ++ [ch]) (by rw [← e1]; exact h) ?_
    rw [List.flatMap_append, List.flatMap_append]
    unfold keysA at hk ⊢
    rw [List.map_append, hk]
    have := lnkR_keys ch.1 ch.2.1 ch.2.2
    unfold keysA at this
    simp [lnkC, exC, this]
theorem cellsF_eq {chs : List Ch} (h : (chs.flatMap exC).Nodup) : cellsF chs = chs.flatMap lnkC ∧ keysA (cellsF chs) = chs.flatMap exC := by
  have e : cellsF chs = chs.flatMap lnkC := by
    have := cells_new chs [] (by simpa using h) rfl
    simpa [cellsF] using this
  refine ⟨e, ?_⟩
  rw [e]
  unfold keysA
  rw [List.map_flatMap]
  congr 1
  funext ch
  exact lnkR_keys _ _ _
/-- along a chain -/
theorem flat_inj {α β : Type} {f : α → List β} : ∀ {L : List α}, (L.flatMap f).Nodup → ∀ {x y : α} {z : β}, x ∈ L → y ∈ L → z ∈ f x → z ∈ f y → x = y
  | a :: L, h, x, y, z, hx, hy, zx, zy => by
    rw [List.flatMap_cons] at h
    obtain ⟨_, h2, h3⟩ := List.nodup_append.mp h
    rcases List.mem_cons.mp hx with rfl | hx2 <;> rcases List.mem_cons.mp hy with rfl | hy2
    · rfl
    · exact absurd rfl (h3 z zx z (List.mem_flatMap.mpr ⟨y, hy2, zy⟩))
    · exact absurd rfl (h3 z zy z (List.mem_flatMap.mpr ⟨x, hx2, zx⟩))
    · exact flat_inj h2 hx2 hy2 zx zy
theorem ex_perm : ∀ chs : List Ch, (chs.flatMap exC).Perm (chs.map (fun ch => ch.1) ++ chs.flatMap fun ch => ch.2.1)
  | [] => .refl _
  | ch :: chs => by
    rw [List.flatMap_cons, List.flatMap_cons, List.map_cons]
    show (ch.1 :: (ch.2.1 ++ chs.flatMap exC)).Perm (ch.1 :: (chs.map (fun ch => ch.1) ++ (ch.2.1 ++ chs.flatMap fun ch => ch.2.1)))
    refine .cons _ (((List.Perm.refl _).append (ex_perm chs)).trans ?_)
    rw [← List.append_assoc, ← List.append_assoc]
    exact List.perm_append_comm.append_right _
section
variable {ns : List Str} {c : Cs} {most : Nat} {vals : List Int} {chs : List Ch}
theorem fst_nodup (ok : CaseOk ns c) (hf : HeapF most c vals chs) : (chs.map fun ch => ch.1).Nodup := by
  have nv : vals.Nodup := (List.nodup_append.mp hf.nodup).1
  have key : ∀ {chs : List Ch} {ars : List Ar}, Paired (fun (ch : Ch) (a : Ar) => vals[a.1.toNat]? = some ch.1 ∧ vals[a.2.2.toNat]? = some ch.2.2 ∧ (a.2.1 ≠ "long" → ch.2.1 = []) ∧ ch.2.1.length < most) chs ars → (∀ a ∈ ars, 0 ≤ a.1) → (ars.map fun q => q.1).Nodup → (chs.map fun ch => ch.1).Nodup ∧ ∀ x ∈ chs.map (fun ch => ch.1), ∃ a ∈ ars, vals[a.1.toNat]? = some x := by
    intro chs ars p
    induction p with
    | nil => exact fun _ _ => ⟨List.nodup_nil, fun x m => absurd m List.not_mem_nil⟩
    | @cons ch a chs ars r t ih =>
      intro h0 nd
      have nc := List.nodup_cons.mp nd
      obtain ⟨i1, i2⟩ := ih (fun x m => h0 x (List.mem_cons_of_mem _ m)) nc.2
      refine ⟨List.nodup_cons.mpr ⟨fun m => ?_, i1⟩, fun x m => ?_⟩
      · obtain ⟨b, mb, eb⟩ := i2 _ m
        have e := (List.getElem?_inj (List.getElem?_eq_some_iff.mp r.1).1 nv).mp (r.1.trans eb.symm)
        have h1 := h0 a List.mem_cons_self
        have h2 := h0 b (List.mem_cons_of_mem _ mb)
        exact nc.1 (List.mem_map.mpr ⟨b, mb, by show b.1 = a.1; omega⟩)
      · rcases List.mem_cons.mp m with rfl | m
        · exact ⟨a, List.mem_cons_self, r.1⟩
        · obtain ⟨b, mb, eb⟩ := i2 x m
          exact ⟨b, List.mem_cons_of_mem _ mb, eb⟩
  exact (key hf.chain (fun a m => (ok.ar a m).1) ok.bnd).1
theorem ex_nodup (ok : CaseOk ns c) (hf : HeapF most c vals chs) : (chs.flatMap exC).Nodup := by
  refine (ex_perm chs).nodup_iff.mpr (List.nodup_append.mpr ⟨fst_nodup ok hf, (List.nodup_append.mp hf.nodup).2.1, fun x hx y hy => ?_⟩)
  obtain ⟨ch, mc, rfl⟩ := List.mem_map.mp hx
  have hv : ch.1 ∈ vals := by
    have key : ∀ {chs : List Ch} {ars : List Ar}, Paired (fun (ch : Ch) (a : Ar) => vals[a.1.toNat]? = some ch.1 ∧ vals[a.2.2.toNat]? = some ch.2.2 ∧ (a.2.1 ≠ "long" → ch.2.1 = []) ∧ ch.2.1.length < most) chs ars → ∀ ch ∈ chs, ch.1 ∈ vals := by
      intro chs ars p
      induction p with
      | nil => exact fun ch m => absurd m List.not_mem_nil
      | cons r t ih =>
        intro ch m
        rcases List.mem_cons.mp m with rfl | m
        · exact List.mem_of_getElem? r.1
        · exact ih ch m
    exact key hf.chain ch mc
  exact (List.nodup_append.mp hf.nodup).2.2 _ hv _ hy
/-- the chain of an arrow -/
def chF (c : Cs) (chs : List Ch) (b : Int) : Ch := (getA ((c.2.map fun q => q.1).zip chs) b).getD (0, [], 0)
theorem chF_of (ok : CaseOk ns c) (hf : HeapF most c vals chs) {i : Nat} {q : Ar} (hq : c.2[i]? = some q) : chs[i]? = some (chF c chs q.1) ∧ vals[q.1.toNat]? = some (chF c chs q.1).1 ∧ vals[q.2.2.toNat]? = some (chF c chs q.1).2.2 ∧ (q.2.1 ≠ "long" → (chF c chs q.1).2.1 = []) := by
  have hlen := hf.chain.length
  have il := (List.getElem?_eq_some_iff.mp hq).1
  obtain ⟨a, ea, r⟩ := paired_at hf.chain (List.getElem?_eq_getElem (show i < chs.length by omega))
  rw [hq] at ea
  cases ea
  have hz : (q.1, chs[i]) ∈ (c.2.map fun q => q.1).zip chs := List.mem_of_getElem? (List.getElem?_zip_eq_some.mpr ⟨by rw [List.getElem?_map, hq]; rfl, List.getElem?_eq_getElem (by omega)⟩)
  have kz : keysA ((c.2.map fun q => q.1).zip chs) = c.2.map fun q => q.1 := by
    unfold keysA
    exact List.map_fst_zip (by rw [List.length_map]; omega)
  have e : chF c chs q.1 = chs[i] := by
    unfold chF
    rw [mem_getA (by rw [kz]; exact ok.bnd) hz]
    rfl
  rw [e]
  exact ⟨List.getElem?_eq_getElem (by omega), r.1, r.2.1, r.2.2.1⟩
def vF (vals : List Int) (b : Int) : Int := (vals[b.toNat]?).getD 0
theorem vF_at {b : Int} {x : Int} (h : vals[b.toNat]? = some x) : vF vals b = x := by
  unfold vF
  rw [h]
  rfl
theorem vF_inj (hf : HeapF most c vals chs) {a b : Int} (a0 : 0 ≤ a) (a1 : a < c.1.length) (b0 : 0 ≤ b) (b1 : b < c.1.length) (h : vF vals a = vF vals b) : a = b := by
  have nv : vals.Nodup := (List.nodup_append.mp hf.nodup).1
  have hl := hf.len
  have ea := List.getElem?_eq_getElem (show a.toNat < vals.length by omega)
  have eb := List.getElem?_eq_getElem (show b.toNat < vals.length by omega)
  rw [vF_at ea, vF_at eb] at h
  rw [h, ← eb] at ea
  have := (List.getElem?_inj (by omega) nv).mp ea
  omega
end
end L2.Hx

/-! Cases numbered, over plain lists; nameless lots taken out; what a heap has of a case. -/
namespace L2.Hx
open PySem PySem.Spec PyProof.Rows
structure CaseN (ns : List Str) (c : Cs) : Prop where
  ok : CaseOk ns c
  pos0 : ∀ q ∈ c.2, 0 < q.1
  kind : ∀ q ∈ c.2, q.2.1 = "short" ∨ (q.2.1 = "long" ∧ q.2.2 ≠ q.1)
  up : ∀ l ∈ c.1, l.Pairwise leZ
  reach : ∀ S : Int → Prop, (∀ (i : Nat) l, 0 < i → c.1[i]? = some l → l ≠ [] → S (i : Int)) → (∀ q ∈ c.2, S q.1 → S q.2.2) → ∀ q ∈ c.2, S q.1
theorem ix_at {o : List Int} {s : Int} (h : s ∈ o) : o[(ixO o s).toNat]? = some s := by
  unfold ixO
  rw [Int.toNat_natCast, List.getElem?_eq_getElem (List.idxOf_lt_length_of_mem h)]
  congr 1
  exact List.getElem_idxOf _
theorem ix_inj {o : List Int} {a b : Int} (ha : a ∈ o) (hb : b ∈ o) (h : ixO o a = ixO o b) : a = b := by
  have h1 := ix_at ha
  rw [h, ix_at hb] at h1
  exact (Option.some.inj h1).symm
theorem ix_pos {o : List Int} {s : Int} {t : List Int} (e : o = 0 :: t) (h : s ≠ 0) : 0 < ixO o s := by
  unfold ixO
  rw [e, List.idxOf_cons]
  have : ((0 : Int) == s) = false := by
    rw [beq_eq_false_iff_ne]
    exact fun z => h z.symm
  rw [this]
  simp
theorem ars_mem {ws : Ws} {o : List Int} {q : Ar} : q ∈ arsF ws o ↔ ∃ z ∈ ws, q = (ixO o z.1, z.2.2.1, ixO o z.2.2.2) := by
  unfold arsF
  rw [(List.mergeSort_perm _ _).mem_iff, List.mem_map]
  exact ⟨fun ⟨z, m, e⟩ => ⟨z, m, e.symm⟩, fun ⟨z, m, e⟩ => ⟨z, m, e.symm⟩⟩
/-- what is met is come to -/
theorem order_met {ws : Ws} {bs : List Int} (nd : (keysA ws).Nodup) (S : Int → Prop) (hb : ∀ b ∈ bs, S b) (hs : ∀ q ∈ ws, S q.1 → S q.2.2.2) : ∀ x ∈ orderF ws bs (0 :: bs), x = 0 ∨ S x := fun x m => by
  have go : ∀ {a x : Int}, Rch (keysA ws) (endW ws) a x → S a → S x := fun {a x} h => by
    induction h with
    | here _ => exact id
    | step ha _ ih =>
      intro sa
      obtain ⟨y, e, my⟩ := getA_in ha
      refine ih ?_
      rw [endW_of e]
      exact hs _ my sa
  rcases (mem_orderF bs _).mp m with m | ⟨b, mb, m⟩
  · rcases List.mem_cons.mp m with e | m
    · exact .inl e
    · exact .inr (hb x m)
  · obtain ⟨y, my, rfl⟩ := List.mem_map.mp m
    right
    have ra := (reach_all (ks := keysA ws) (M := endW ws) b [] (fun k m => absurd m List.not_mem_nil)).2.2.2 y my
    have r := ra.resolve_left List.not_mem_nil
    have sy := go r (hb b mb)
    obtain ⟨z, e, mz⟩ := getA_in r.key
    rw [endW_of e]
    exact hs _ mz sy
theorem case_n {ns : List Str} {c : Cs} (nd : ns.Nodup) (nn : ¬ ("nil" : Str) ∈ ns) (ln : ns.length ≤ 8) (h : CaseF ns c) : CaseN ns c := by
  have ok := case_ok nd nn ln h
  obtain ⟨ys, hm, ws, bs, ho, wo, py, up, bg, hc⟩ := h
  unfold numF at hc
  split at hc
  case isFalse => cases hc
  rename_i hall
  have hc := (Option.some.inj hc).symm
  subst hc
  have n0 : ¬ (0 : Int) ∈ bs := fun m => ((bg.mem 0).mp m).1 rfl
  have k0 : ¬ (0 : Int) ∈ keysA ws := fun m => by
    obtain ⟨q, mq, e⟩ := List.mem_map.mp m
    have := wo.pos q mq
    omega
  obtain ⟨t, et⟩ := orderF_pre ws bs (0 :: bs)
  have cl := orderF_closed (ws := ws) (bs := bs) k0
  have mk : ∀ z ∈ ws, z.1 ∈ orderF ws bs (0 :: bs) := fun z m => hall _ (List.mem_map.mpr ⟨z, m, rfl⟩)
  have me : ∀ z ∈ ws, z.2.2.2 ∈ orderF ws bs (0 :: bs) := fun z m => by
    have := cl _ (mk z m) (List.mem_map.mpr ⟨z, m, rfl⟩)
    rw [endW_of (mem_getA wo.nd m)] at this
    exact this
  have met := fun S => order_met (ws := ws) (bs := bs) wo.nd S
  have mb : ∀ b ∈ bs, b ∈ orderF ws bs (0 :: bs) := fun b m => by
    rw [et]
    exact List.mem_append_left _ (List.mem_cons_of_mem _ m)
  have eo : orderF ws bs (0 :: bs) = 0 :: (bs ++ t) := by rw [et]; rfl
  generalize orderF ws bs (0 :: bs) = od at ok mk me met mb eo
  refine ⟨ok, fun q m => ?_, fun q m => ?_, fun l m => ?_, fun S h1 h2 q m => ?_⟩
  · obtain ⟨z, mz, rfl⟩ := ars_mem.mp m
    exact ix_pos eo (fun e => by have := wo.pos z mz; omega)
  · obtain ⟨z, mz, rfl⟩ := ars_mem.mp m
    rcases wo.kind z mz with e | ⟨e, ne⟩
    · exact .inl e
    · exact .inr ⟨e, fun x => ne (ix_inj (me z mz) (mk z mz) x)⟩
  · obtain ⟨s, _, rfl⟩ := List.mem_map.mp m
    exact lotF_up0 up hm s
  · obtain ⟨z, mz, rfl⟩ := ars_mem.mp m
    have z0 : z.1 ≠ 0 := fun e => by have := wo.pos z mz; omega
    refine ((met (fun x => S (ixO od x)) (fun b m => ?_) (fun q mq hq => h2 _ (ars_mem.mpr ⟨q, mq, rfl⟩) hq) z.1 (mk z mz)).resolve_left z0)
    have b0 : b ≠ 0 := fun e => n0 (by rw [← e]; exact m)
    have ip := ix_pos eo b0
    have ia := ix_at (mb b m)
    have e : ixO od b = ((ixO od b).toNat : Int) := by omega
    rw [e]
    refine h1 _ (lotF ys hm b) (by omega) (by rw [List.getElem?_map, ia]; rfl) ((bg.mem b).mp m).2
/-- lots and arrows that are all met make a case -/
theorem numF_some {ys : List Str} {hm : Hm} {ws : Ws} {bs : List Int} (nd : (keysA ws).Nodup) (k0 : ¬ (0 : Int) ∈ keysA ws) (reach : ∀ S : Int → Prop, (∀ s ∈ bs, S s) → (∀ q ∈ ws, S q.1 → S q.2.2.2) → ∀ q ∈ ws, S q.1) : ∃ c, numF ys hm ws bs = some c := by
  obtain ⟨t, et⟩ := orderF_pre ws bs (0 :: bs)
  have cl := orderF_closed (ws := ws) (bs := bs) k0
  refine ⟨_, if_pos fun k m => ?_⟩
  obtain ⟨q, mq, rfl⟩ := List.mem_map.mp m
  refine reach (fun x => x ∈ orderF ws bs (0 :: bs)) (fun s m => by rw [et]; exact List.mem_append_left _ (List.mem_cons_of_mem _ m)) (fun q mq hq => ?_) q mq
  have := cl _ hq (List.mem_map.mpr ⟨q, mq, rfl⟩)
  rw [endW_of (mem_getA nd mq)] at this
  exact this
/-- a case's lots by their places -/
def lotC (c : Cs) (s : Int) : List Str := if 0 ≤ s then (c.1[s.toNat]?).getD [] else []
theorem lotC_at {c : Cs} {i : Nat} {l : List Str} (h : c.1[i]? = some l) : lotC c (i : Int) = l := by
  unfold lotC
  rw [if_pos (by omega), Int.toNat_natCast, h]
  rfl
theorem lotC_out {c : Cs} {s : Int} (h : lotC c s ≠ []) : 0 ≤ s ∧ s < c.1.length ∧ c.1[s.toNat]? = some (lotC c s) := by
  unfold lotC at h ⊢
  by_cases s0 : 0 ≤ s
  · rw [if_pos s0] at h ⊢
    cases e : c.1[s.toNat]? with
    | none =>
      rw [e] at h
      exact absurd rfl h
    | some l =>
      have := (List.getElem?_eq_some_iff.mp e).1
      exact ⟨s0, by omega, rfl⟩
  · rw [if_neg s0] at h
    exact absurd rfl h
structure HomeC (ns : List Str) (c : Cs) (hm : Hm) : Prop where
  get : ∀ t, Trm ns t → getA hm t = some (wSp c t)
  nd : (keysA hm).Nodup
  sub : ∀ t ∈ keysA hm, Trm ns t
section
variable {ns : List Str} {c : Cs} {hm : Hm}
theorem HomeC.ok (h : HomeC ns c hm) (nd : ns.Nodup) (nn : ¬ ("nil" : Str) ∈ ns) : HomeOk ns hm := by
  refine ⟨(List.perm_ext_iff_of_nodup h.nd (List.nodup_cons.mpr ⟨nn, nd⟩)).mpr fun t => ⟨fun m => List.mem_cons.mpr (h.sub t m), fun m => ?_⟩, ?_, fun q m => ?_⟩
  · have := h.get t (List.mem_cons.mp m)
    exact List.mem_map.mpr ⟨_, getA_mem this, rfl⟩
  · rw [h.get "nil" (.inl rfl)]
    rfl
  · have e := mem_getA h.nd (show (q.1, q.2) ∈ hm from m)
    rw [h.get q.1 (h.sub _ (List.mem_map.mpr ⟨q, m, rfl⟩))] at e
    have e2 := Option.some.inj e
    unfold wSp at e2
    omega
theorem HomeC.lot (h : HomeC ns c hm) (N : CaseN ns c) (nd : ns.Nodup) (nn : ¬ ("nil" : Str) ∈ ns) {ys : List Str} (py : ys.Perm (keysA hm)) (up : Up0 ys) : lotF ys hm = lotC c := by
  funext s
  have mem : ∀ z, z ∈ c.1.flatten ↔ z ∈ ns := fun z => N.ok.perm.mem_iff
  have ndf := N.ok.nd nd
  refine lotF_back up (py.nodup_iff.mpr h.nd) ?_ ?_ fun n => ⟨fun ⟨m, nil, g⟩ => ?_, fun m => ?_⟩
  · by_cases e : lotC c s = []
    · rw [e]
      exact .nil
    · exact N.up _ (List.mem_of_getElem? (lotC_out e).2.2)
  · by_cases e : lotC c s = []
    · rw [e]
      exact .nil
    · exact ndf.sublist (List.sublist_flatten_of_mem (List.mem_of_getElem? (lotC_out e).2.2))
  · have tn := (h.sub n (py.mem_iff.mp m))
    rw [h.get n tn] at g
    have e := Option.some.inj g
    obtain ⟨l, e1, m1⟩ := find_at ndf ((mem n).mpr (tn.resolve_left nil))
    unfold wSp spotF at e
    rw [if_neg nil] at e
    rw [← e, lotC_at e1]
    exact m1
  · have ne : lotC c s ≠ [] := fun e => by rw [e] at m; exact absurd m List.not_mem_nil
    obtain ⟨s0, s1, hs⟩ := lotC_out ne
    have mf : n ∈ c.1.flatten := List.mem_flatten.mpr ⟨_, List.mem_of_getElem? hs, m⟩
    have mn := (mem n).mp mf
    have nil : n ≠ "nil" := fun e => nn (by rw [← e]; exact mn)
    have g := h.get n (.inr mn)
    have e := find_uniq ndf hs m
    refine ⟨py.mem_iff.mpr (List.mem_map.mpr ⟨_, getA_mem g, rfl⟩), nil, ?_⟩
    rw [g]
    unfold wSp spotF
    rw [if_neg nil, e]
    congr 1
    omega
end
/-- homes told anew -/
def hmC (ns : List Str) (c : Cs) : Hm := ("nil", 0) :: ns.map fun t => (t, wSp c t)
theorem hmC_ok {ns : List Str} {c : Cs} (nd : ns.Nodup) (nn : ¬ ("nil" : Str) ∈ ns) : HomeC ns c (hmC ns c) := by
  have ek : keysA (hmC ns c) = ("nil" : Str) :: ns := by
    show ("nil" : Str) :: (ns.map fun t => (t, wSp c t)).map Prod.fst = _
    rw [List.map_map]
    congr 1
    exact List.map_id'' (fun _ => rfl) ns
  have ndk : (keysA (hmC ns c)).Nodup := by
    rw [ek]
    exact List.nodup_cons.mpr ⟨nn, nd⟩
  refine ⟨fun t ht => mem_getA ndk ?_, ndk, fun t m => by rw [ek] at m; exact List.mem_cons.mp m⟩
  rcases ht with rfl | m
  · exact List.mem_cons_self
  · exact List.mem_cons_of_mem _ (List.mem_map.mpr ⟨t, m, rfl⟩)
theorem up_ns {ns : List Str} (nn : ¬ ("nil" : Str) ∈ ns) (h : ns.Pairwise leZ) : Up0 ("nil" :: ns) := by
  unfold Up0
  rw [List.filter_cons]
  rw [if_neg (by simp)]
  exact h.sublist List.filter_sublist
/-- the first lots of a case -/
def begC (c : Cs) : List Int := (((((spL (c.1.length - 1)).filter fun s => decide (lotC c s ≠ [])).map fun s => (lotC c s, s)).mergeSort (PySem.W.dataLe false encB)).map Prod.snd)
theorem spL_nodup (n : Nat) : (spL n).Nodup := by
  unfold spL
  rw [List.nodup_iff_pairwise_ne, List.pairwise_map]
  exact (List.nodup_range).imp fun {a b} h e => h (by omega)
theorem mem_spL {n : Nat} {x : Int} : x ∈ spL n ↔ 1 ≤ x ∧ x ≤ n := by
  refine ⟨spL_mem, fun ⟨h1, h2⟩ => ?_⟩
  unfold spL
  exact List.mem_map.mpr ⟨(x - 1).toNat, List.mem_range.mpr (by omega), by omega⟩
theorem begC_ok (c : Cs) : BegL (lotC c) (begC c) := by
  refine begL_of ((spL_nodup _).sublist List.filter_sublist) fun s => ?_
  rw [List.mem_filter, mem_spL, decide_eq_true_eq]
  refine ⟨fun ⟨a, b⟩ => ⟨by omega, b⟩, fun ⟨a, b⟩ => ?_⟩
  obtain ⟨h1, h2, _⟩ := lotC_out b
  exact ⟨by omega, b⟩
end L2.Hx

/-! Nameless lots taken out, over plain lists; what a heap has of a case stays. -/
namespace L2.Hx
open PySem PySem.Spec PyProof.Rows
def lnkA (V : Int → Int) (D : Int → List Int) (q : Ar) : List (Int × Int) := lnkR (V q.1) (D q.1) (V q.2.2)
structure EmbV (c : Cs) (S : List (Str × Int)) (X : List (Int × Int)) (V : Int → Int) (D : Int → List Int) : Prop where
  zero : V 0 = 0
  inj : ∀ i j : Int, 0 ≤ i → i < c.1.length → 0 ≤ j → j < c.1.length → V i = V j → i = j
  apart : ∀ q ∈ c.2, ∀ x ∈ D q.1, ∀ i : Int, 0 ≤ i → i < c.1.length → V i ≠ x
  names : ∀ (i : Nat) l, c.1[i]? = some l → ∀ n ∈ l, getA S n = some (V (i : Int))
  short : ∀ q ∈ c.2, q.2.1 ≠ "long" → D q.1 = []
  cells : X.Perm (c.2.flatMap (lnkA V D))
def EmbC (c : Cs) (S : List (Str × Int)) (X : List (Int × Int)) : Prop := ∃ V D, EmbV c S X V D
theorem flat_congr {α β : Type} {f g : α → List β} : ∀ {l : List α}, (∀ x ∈ l, f x = g x) → l.flatMap f = l.flatMap g
  | [], _ => rfl
  | x :: l, h => by
    rw [List.flatMap_cons, List.flatMap_cons, h x List.mem_cons_self, flat_congr fun y m => h y (List.mem_cons_of_mem _ m)]
theorem emb_num {lot : Int → List Str} {ws : Ws} {bs : List Int} {c' : Cs} {S : List (Str × Int)} {X : List (Int × Int)} {V : Int → Int} {D : Int → List Int} (hc : numL lot ws bs = some c') (nd : (keysA ws).Nodup) (k0 : ¬ (0 : Int) ∈ keysA ws) (nd0 : ((0 : Int) :: bs).Nodup) (V0 : V 0 = 0)
    (inj : ∀ i ∈ orderF ws bs (0 :: bs), ∀ j ∈ orderF ws bs (0 :: bs), V i = V j → i = j) (apart : ∀ q ∈ ws, ∀ x ∈ D q.1, ∀ i ∈ orderF ws bs (0 :: bs), V i ≠ x)
    (names : ∀ s ∈ orderF ws bs (0 :: bs), ∀ n ∈ lot s, getA S n = some (V s)) (short : ∀ q ∈ ws, q.2.2.1 ≠ "long" → D q.1 = []) (cells : X.Perm (ws.flatMap fun q => lnkR (V q.1) (D q.1) (V q.2.2.2))) : EmbC c' S X := by
  unfold numL at hc
  split at hc
  case isFalse => cases hc
  rename_i hall
  have hc := (Option.some.inj hc).symm
  subst hc
  obtain ⟨t, et⟩ := orderF_pre ws bs (0 :: bs)
  have cl := orderF_closed (ws := ws) (bs := bs) k0
  have mk : ∀ z ∈ ws, z.1 ∈ orderF ws bs (0 :: bs) := fun z m => hall _ (List.mem_map.mpr ⟨z, m, rfl⟩)
  have me : ∀ z ∈ ws, z.2.2.2 ∈ orderF ws bs (0 :: bs) := fun z m => by
    have := cl _ (mk z m) (List.mem_map.mpr ⟨z, m, rfl⟩)
    rw [endW_of (mem_getA nd m)] at this
    exact this
  have ndo := orderF_nodup ws bs nd0
  have eo : orderF ws bs (0 :: bs) = 0 :: (bs ++ t) := by rw [et]; rfl
  generalize orderF ws bs (0 :: bs) = od at inj apart names mk me eo ndo
  have gx : ∀ s ∈ od, od.getD (ixO od s).toNat 0 = s := fun s m => by
    rw [List.getD_eq_getElem?_getD, ix_at m]
    rfl
  have gi : ∀ i : Int, 0 ≤ i → i < (od.map lot).length → ∃ h : i.toNat < od.length, od.getD i.toNat 0 = od[i.toNat] := fun i h0 h1 => by
    rw [List.length_map] at h1
    have h : i.toNat < od.length := by omega
    exact ⟨h, by rw [List.getD_eq_getElem?_getD, List.getElem?_eq_getElem h]; rfl⟩
  refine ⟨fun j => V (od.getD j.toNat 0), fun j => D (od.getD j.toNat 0), ?_, fun i j i0 i1 j0 j1 e => ?_, fun q m x mx i i0 i1 => ?_, fun i l hl n mn => ?_, fun q m hk => ?_, ?_⟩
  · show V (od.getD (0 : Int).toNat 0) = 0
    rw [eo]
    exact V0
  · obtain ⟨hi, ei⟩ := gi i i0 i1
    obtain ⟨hj, ej⟩ := gi j j0 j1
    have e : V (od.getD i.toNat 0) = V (od.getD j.toNat 0) := e
    rw [ei, ej] at e
    have := inj _ (List.getElem_mem hi) _ (List.getElem_mem hj) e
    have := (List.getElem_inj ndo).mp this
    omega
  · obtain ⟨z, mz, rfl⟩ := ars_mem.mp m
    obtain ⟨hi, ei⟩ := gi i i0 i1
    have mx : x ∈ D (od.getD (ixO od z.1).toNat 0) := mx
    rw [gx _ (mk z mz)] at mx
    show V (od.getD i.toNat 0) ≠ x
    rw [ei]
    exact apart z mz x mx _ (List.getElem_mem hi)
  · rw [List.getElem?_map] at hl
    obtain ⟨s, e, rfl⟩ := Option.map_eq_some_iff.mp hl
    show getA S n = some (V (od.getD (i : Int).toNat 0))
    rw [Int.toNat_natCast, List.getD_eq_getElem?_getD, e]
    exact names s (List.mem_of_getElem? e) n mn
  · obtain ⟨z, mz, rfl⟩ := ars_mem.mp m
    show D (od.getD (ixO od z.1).toNat 0) = []
    rw [gx _ (mk z mz)]
    exact short z mz hk
  · refine cells.trans ?_
    have p := (List.mergeSort_perm (ws.map fun q => (ixO od q.1, q.2.2.1, ixO od q.2.2.2)) (PySem.W.dataLe false arD)).symm.flatMap_right (lnkA (fun j => V (od.getD j.toNat 0)) fun j => D (od.getD j.toNat 0))
    rw [List.flatMap_map] at p
    refine List.Perm.trans (List.Perm.of_eq (flat_congr fun q m => ?_)) p
    show lnkR (V q.1) (D q.1) (V q.2.2.2) = lnkR (V (od.getD (ixO od q.1).toNat 0)) (D (od.getD (ixO od q.1).toNat 0)) (V (od.getD (ixO od q.2.2.2).toNat 0))
    rw [gx _ (mk q m), gx _ (me q m)]
theorem lnkR_join : ∀ (ds : List Int) (a v : Int) (es : List Int) (e : Int), lnkR a (ds ++ v :: es) e = lnkR a ds v ++ lnkR v es e
  | [], a, v, es, e => rfl
  | d :: ds, a, v, es, e => by
    show (a, d) :: lnkR d (ds ++ v :: es) e = (a, d) :: (lnkR d ds v ++ lnkR v es e)
    rw [lnkR_join ds]
def endC (c : Cs) (s : Int) : Int := ((getA c.2 s).map fun y => y.2).getD 0
def insC (c : Cs) (s : Int) : List Int := (c.2.filter fun q => decide (q.2.2 = s)).map fun q => q.1
def canC (c : Cs) (s : Int) : Bool := decide (lotC c s = []) && (decide (s ∈ keysA c.2) && (decide ((insC c s).length = 1) && decide (endC c s ≠ (insC c s).headD 0)))
def leastC (c : Cs) : Option Int := (spL (c.1.length - 1)).find? (canC c)
def restR (c : Cs) (s : Int) : List Ar := c.2.filter fun q => decide (q.1 ≠ s) && decide (q.2.2 ≠ s)
def woR (c : Cs) (s b : Int) : List Ar := restR c s ++ [(b, (("long" : Str), endC c s))]
def toW (rs : List Ar) : Ws := rs.map fun q => (q.1, ((0 : Addr), q.2))
def stepC (c : Cs) (s : Int) : Cs := (numL (lotC c) (toW (woR c s ((insC c s).headD 0))) (begC c)).getD c
def foldF : Nat → Cs → Cs
  | 0, c => c
  | n + 1, c => match leastC c with
    | none => c
    | some s => foldF n (stepC c s)
structure Can (c : Cs) (s b e : Int) (k1 k2 : Str) : Prop where
  lot : lotC c s = []
  out : (s, k1, e) ∈ c.2
  in1 : (b, k2, s) ∈ c.2
  ins : insC c s = [b]
  end_ : endC c s = e
  ne : e ≠ b
  only : ∀ q ∈ c.2, q.2.2 = s → q = (b, k2, s)
theorem can_of {c : Cs} {s : Int} (h : canC c s = true) : ∃ b e k1 k2, Can c s b e k1 k2 := by
  unfold canC at h
  rw [Bool.and_eq_true, Bool.and_eq_true, Bool.and_eq_true, decide_eq_true_eq, decide_eq_true_eq, decide_eq_true_eq, decide_eq_true_eq] at h
  obtain ⟨h1, h2, h3, h4⟩ := h
  obtain ⟨y, g, my⟩ := getA_in h2
  unfold insC at h3 h4
  rw [List.length_map] at h3
  obtain ⟨q, eq⟩ := List.length_eq_one_iff.mp h3
  have mq : q ∈ c.2.filter fun q => decide (q.2.2 = s) := by rw [eq]; exact List.mem_cons_self
  obtain ⟨m1, m2⟩ := List.mem_filter.mp mq
  have m2 := of_decide_eq_true m2
  obtain ⟨b, k2, s'⟩ := q
  have m2 : s' = s := m2
  subst m2
  rw [eq] at h4
  have ee : endC c s' = y.2 := by
    unfold endC
    rw [g]
    rfl
  refine ⟨b, y.2, y.1, k2, h1, my, m1, by unfold insC; rw [eq]; rfl, ee, by rw [← ee]; exact h4, fun z mz ez => ?_⟩
  have : z ∈ c.2.filter fun q => decide (q.2.2 = s') := List.mem_filter.mpr ⟨mz, decide_eq_true ez⟩
  rw [eq] at this
  exact List.mem_singleton.mp this
section
variable {ns : List Str} {c : Cs} {s b e : Int} {k1 k2 : Str}
theorem Can.key (C : Can c s b e k1 k2) (bnd : (c.2.map fun q => q.1).Nodup) {q : Ar} (m : q ∈ c.2) (h : q.1 = s) : q = (s, k1, e) := by
  have h1 := mem_getA (l := c.2) bnd (show (q.1, q.2) ∈ c.2 from m)
  have h2 := mem_getA (l := c.2) bnd (show (s, (k1, e)) ∈ c.2 from C.out)
  rw [h, h2] at h1
  exact Prod.ext h (Option.some.inj h1).symm
theorem Can.bs (C : Can c s b e k1 k2) (bnd : (c.2.map fun q => q.1).Nodup) : b ≠ s := fun z => by
  have := C.key bnd C.in1 z
  have e2 : s = e := congrArg (fun q : Ar => q.2.2) this
  exact C.ne (by rw [← e2, z])
theorem Can.es (C : Can c s b e k1 k2) (bnd : (c.2.map fun q => q.1).Nodup) : e ≠ s := fun z => by
  have := C.only _ C.out z
  have e2 : s = b := congrArg (fun q : Ar => q.1) this
  exact C.bs bnd e2.symm
theorem Can.rest (C : Can c s b e k1 k2) (bnd : (c.2.map fun q => q.1).Nodup) {q : Ar} : q ∈ restR c s ↔ q ∈ c.2 ∧ q.1 ≠ s ∧ q.1 ≠ b := by
  unfold restR
  rw [List.mem_filter, Bool.and_eq_true, decide_eq_true_eq, decide_eq_true_eq]
  refine ⟨fun ⟨m, h1, h2⟩ => ⟨m, h1, fun z => h2 ?_⟩, fun ⟨m, h1, h2⟩ => ⟨m, h1, fun z => h2 ?_⟩⟩
  · have e1 := mem_getA (l := c.2) bnd (show (q.1, q.2) ∈ c.2 from m)
    have e2 := mem_getA (l := c.2) bnd (show (b, (k2, s)) ∈ c.2 from C.in1)
    rw [z, e2] at e1
    rw [← Option.some.inj e1]
  · rw [C.only q m z]
theorem ar_nodup (bnd : (c.2.map fun q => q.1).Nodup) : c.2.Nodup := by
  have h : c.2.Pairwise fun a b => a.1 ≠ b.1 := List.pairwise_map.mp bnd
  exact h.imp fun h e => h (by rw [e])
theorem Can.perm (C : Can c s b e k1 k2) (bnd : (c.2.map fun q => q.1).Nodup) : c.2.Perm ((b, k2, s) :: (s, k1, e) :: restR c s) := by
  have bs := C.bs bnd
  refine (List.perm_ext_iff_of_nodup (ar_nodup bnd) (List.nodup_cons.mpr ⟨fun m => ?_, List.nodup_cons.mpr ⟨fun m => ?_, (ar_nodup bnd).sublist List.filter_sublist⟩⟩)).mpr fun q => ?_
  · rcases List.mem_cons.mp m with z | m
    · exact bs (congrArg (fun q : Ar => q.1) z)
    · exact ((C.rest bnd).mp m).2.2 rfl
  · exact ((C.rest bnd).mp m).2.1 rfl
  · rw [List.mem_cons, List.mem_cons]
    show q ∈ c.2 ↔ q = (b, k2, s) ∨ q = (s, k1, e) ∨ q ∈ restR c s
    rw [C.rest bnd]
    constructor
    · intro m
      by_cases h1 : q.1 = s
      · exact .inr (.inl (C.key bnd m h1))
      · by_cases h2 : q.1 = b
        · left
          have e1 := mem_getA (l := c.2) bnd (show (q.1, q.2) ∈ c.2 from m)
          have e2 := mem_getA (l := c.2) bnd (show (b, (k2, s)) ∈ c.2 from C.in1)
          rw [h2, e2] at e1
          exact Prod.ext h2 (Option.some.inj e1).symm
        · exact .inr (.inr ⟨m, h1, h2⟩)
    · rintro (rfl | rfl | ⟨m, _⟩)
      · exact C.in1
      · exact C.out
      · exact m
theorem toW_tail (rs : List Ar) : (toW rs).map (fun q => (q.1, q.2.2)) = rs := by
  unfold toW
  rw [List.map_map]
  exact List.map_id'' (fun _ => rfl) rs
theorem toW_keys (rs : List Ar) : keysA (toW rs) = rs.map fun q => q.1 := by
  unfold toW keysA
  rw [List.map_map]
  rfl
theorem mem_toW {rs : List Ar} {q : Int × Wy} (m : q ∈ toW rs) : (q.1, q.2.2) ∈ rs := by
  obtain ⟨z, mz, rfl⟩ := List.mem_map.mp m
  exact mz
theorem ar_in {ns : List Str} {c : Cs} (N : CaseN ns c) {q : Ar} (m : q ∈ c.2) : 1 ≤ q.1 ∧ q.1 ≤ ((c.1.length - 1 : Nat) : Int) ∧ 0 ≤ q.2.2 ∧ q.2.2 < c.1.length := by
  have h := N.ok.ar q m
  have h2 := N.pos0 q m
  have := N.ok.pos
  omega
theorem step_ok (N : CaseN ns c) (nd : ns.Nodup) (nn : ¬ ("nil" : Str) ∈ ns) (ln : ns.length ≤ 8) (up : ns.Pairwise leZ) (hc : canC c s = true) :
    ∃ c', numL (lotC c) (toW (woR c s ((insC c s).headD 0))) (begC c) = some c' ∧ CaseN ns c' ∧ c'.1.length < c.1.length ∧ ∀ S X, EmbC c S X → EmbC c' S X := by
  obtain ⟨b, e, k1, k2, C⟩ := can_of hc
  have bnd := N.ok.bnd
  have bs := C.bs bnd
  have es := C.es bnd
  rw [C.ins]
  show ∃ c', numL (lotC c) (toW (woR c s b)) (begC c) = some c' ∧ _
  have ewo : woR c s b = restR c s ++ [(b, (("long" : Str), e))] := by
    unfold woR
    rw [C.end_]
  rw [ewo]
  generalize hws : toW (restR c s ++ [(b, (("long" : Str), e))]) = ws
  have tail : ws.map (fun q => (q.1, q.2.2)) = restR c s ++ [(b, (("long" : Str), e))] := by rw [← hws, toW_tail]
  have mw : ∀ q : Int × Wy, q ∈ ws → ((q.1, q.2.2) ∈ c.2 ∧ q.1 ≠ s ∧ q.1 ≠ b ∧ q.2.2.2 ≠ s) ∨ (q.1 = b ∧ q.2.2.1 = "long" ∧ q.2.2.2 = e) := fun q m => by
    rw [← hws] at m
    rcases List.mem_append.mp (mem_toW m) with m | m
    · have m2 := (C.rest bnd).mp m
      refine .inl ⟨m2.1, m2.2.1, m2.2.2, fun z => ?_⟩
      have := C.only _ m2.1 z
      exact m2.2.2 (congrArg (fun q : Ar => q.1) this)
    · have e0 := List.mem_singleton.mp m
      exact .inr ⟨congrArg (fun q : Ar => q.1) e0, congrArg (fun q : Ar => q.2.1) e0, congrArg (fun q : Ar => q.2.2) e0⟩
  have keys : keysA ws = (restR c s).map (fun q => q.1) ++ [b] := by
    rw [← hws, toW_keys, List.map_append]
    rfl
  have ndw : (keysA ws).Nodup := by
    rw [keys]
    refine List.nodup_append.mpr ⟨bnd.sublist (List.Sublist.map _ List.filter_sublist), by simp, fun x hx y hy z => ?_⟩
    obtain ⟨q, mq, rfl⟩ := List.mem_map.mp hx
    exact ((C.rest bnd).mp mq).2.2 (by rw [z, List.mem_singleton.mp hy])
  have bin := ar_in N C.in1
  have sout := ar_in N C.out
  have qin : ∀ q : Int × Wy, q ∈ ws → 1 ≤ q.1 ∧ 0 ≤ q.2.2.2 ∧ q.2.2.2 < c.1.length ∧ q.2.2.2 ≠ s := fun q m => by
    rcases mw q m with ⟨m, _, _, h⟩ | ⟨h1, _, h3⟩
    · have := ar_in N m
      exact ⟨this.1, this.2.2.1, this.2.2.2, h⟩
    · rw [h1, h3]
      exact ⟨bin.1, sout.2.2.1, sout.2.2.2, es⟩
  have wok : WaysOk ws := by
    refine ⟨ndw, fun q m => by have := qin q m; omega, fun q m => (qin q m).2.1, fun q m => ?_, ?_⟩
    · rcases mw q m with ⟨m, _⟩ | ⟨h1, h2, h3⟩
      · exact N.kind _ m
      · exact .inr ⟨h2, by rw [h1, h3]; exact C.ne⟩
    · have l1 := (C.perm bnd).length_eq
      have l2 := congrArg List.length tail
      rw [List.length_map, List.length_append, List.length_singleton] at l2
      rw [List.length_cons, List.length_cons] at l1
      have := N.ok.alen
      omega
  have k0 : ¬ (0 : Int) ∈ keysA ws := fun m => by
    obtain ⟨q, mq, z⟩ := List.mem_map.mp m
    have := qin q mq
    omega
  have hok := hmC_ok (c := c) nd nn
  have ho := hok.ok nd nn
  have py : (("nil" : Str) :: ns).Perm (keysA (hmC ns c)) := ho.keys.symm
  have up0 := up_ns nn up
  have el := hok.lot N nd nn py up0
  have bg := begC_ok c
  have bg2 : Begins ("nil" :: ns) (hmC ns c) (begC c) := ⟨bg.nd, by rw [el]; exact bg.mem, by rw [el]; exact bg.srt⟩
  have reach : ∀ S : Int → Prop, (∀ x ∈ begC c, S x) → (∀ q ∈ ws, S q.1 → S q.2.2.2) → ∀ q ∈ ws, S q.1 := fun S h1 h2 => by
    have old := N.reach (fun x => (S x ∧ x ≠ s) ∨ (x = s ∧ S b)) (fun i l i0 hl ne => ?_) (fun q mq hq => ?_)
    · intro q mq
      have inS : ∀ {z : Ar}, z ∈ c.2 → z.1 ≠ s → S z.1 := fun {z} m n => (old z m).elim (fun h => h.1) fun h => absurd h.1 n
      rcases mw q mq with ⟨m, h, _⟩ | ⟨h, _⟩
      · exact inS m h
      · rw [h]
        exact inS C.in1 bs
    · have el := lotC_at hl
      refine .inl ⟨h1 _ ((bg.mem _).mpr ⟨by omega, by rw [el]; exact ne⟩), fun z => ne ?_⟩
      rw [← el, z]
      exact C.lot
    · have bmem : ∃ a, (b, a, ("long" : Str), e) ∈ ws := by
        have : (b, (("long" : Str), e)) ∈ ws.map fun q => (q.1, q.2.2) := by
          rw [tail]
          exact List.mem_append_right _ List.mem_cons_self
        obtain ⟨z, mz, ez⟩ := List.mem_map.mp this
        obtain ⟨z1, a, z2⟩ := z
        cases ez
        exact ⟨a, mz⟩
      by_cases q1 : q.1 = s
      · have eq := C.key bnd mq q1
        have sb : S b := hq.elim (fun h => absurd q1 h.2) fun h => h.2
        obtain ⟨a, ma⟩ := bmem
        rw [eq]
        exact .inl ⟨h2 _ ma sb, es⟩
      · have sq : S q.1 := hq.elim (fun h => h.1) fun h => absurd h.1 q1
        by_cases q2 : q.1 = b
        · have e1 := mem_getA (l := c.2) bnd (show (q.1, q.2) ∈ c.2 from mq)
          have e2 := mem_getA (l := c.2) bnd (show (b, (k2, s)) ∈ c.2 from C.in1)
          rw [q2, e2] at e1
          rw [q2] at sq
          exact .inr ⟨by rw [← Option.some.inj e1], sq⟩
        · have mr : q ∈ restR c s := (C.rest bnd).mpr ⟨mq, q1, q2⟩
          have : q ∈ ws.map fun q => (q.1, q.2.2) := by
            rw [tail]
            exact List.mem_append_left _ mr
          obtain ⟨z, mz, ez⟩ := List.mem_map.mp this
          subst ez
          have := mw z mz
          refine .inl ⟨h2 z mz sq, (qin z mz).2.2.2⟩
  obtain ⟨c', hc'⟩ := numF_some (ys := "nil" :: ns) (hm := hmC ns c) ndw k0 reach
  have hF : CaseF ns c' := ⟨_, _, ws, begC c, ho, wok, py, up0, bg2, hc'⟩
  have hL : numL (lotC c) ws (begC c) = some c' := by
    rw [← el]
    exact hc'
  have n0 : ¬ (0 : Int) ∈ begC c := fun m => ((bg.mem 0).mp m).1 rfl
  have nd0 : ((0 : Int) :: begC c).Nodup := List.nodup_cons.mpr ⟨n0, bg.nd⟩
  have osub0 : ∀ x ∈ orderF ws (begC c) (0 :: begC c), x ∈ ((List.range c.1.length).map fun i : Nat => (i : Int)).filter fun x => decide (x ≠ s) := by
    refine orderF_sub (fun x m => ?_) (fun k m => ?_)
    · rcases List.mem_cons.mp m with rfl | m
      · refine List.mem_filter.mpr ⟨List.mem_map.mpr ⟨0, List.mem_range.mpr N.ok.pos, rfl⟩, decide_eq_true ?_⟩
        omega
      · have ne := ((bg.mem x).mp m).2
        obtain ⟨x0, x1, _⟩ := lotC_out ne
        refine List.mem_filter.mpr ⟨List.mem_map.mpr ⟨x.toNat, List.mem_range.mpr (by omega), by omega⟩, decide_eq_true fun z => ne ?_⟩
        rw [z]
        exact C.lot
    · obtain ⟨y, g, my⟩ := getA_in m
      rw [endW_of g]
      have q3 := qin _ my
      have q0 : 0 ≤ y.2.2 := q3.2.1
      have q1 : y.2.2 < c.1.length := q3.2.2.1
      exact List.mem_filter.mpr ⟨List.mem_map.mpr ⟨y.2.2.toNat, List.mem_range.mpr (by omega), by omega⟩, decide_eq_true q3.2.2.2⟩
  have osub : ∀ x ∈ orderF ws (begC c) (0 :: begC c), 0 ≤ x ∧ x < c.1.length ∧ x ≠ s := fun x m => by
    have m2 := List.mem_filter.mp (osub0 x m)
    obtain ⟨i, mi, ei⟩ := List.mem_map.mp m2.1
    have := List.mem_range.mp mi
    exact ⟨by omega, by omega, of_decide_eq_true m2.2⟩
  refine ⟨c', hL, case_n nd nn ln hF, ?_, fun S X hE => ?_⟩
  · have hall := hc'
    unfold numF at hall
    split at hall
    case isFalse => cases hall
    have e1 := (Option.some.inj hall).symm
    rw [e1]
    show ((orderF ws (begC c) (0 :: begC c)).map _).length < _
    rw [List.length_map]
    have ndo := orderF_nodup ws (begC c) nd0
    have l1 := once_len (T := s :: orderF ws (begC c) (0 :: begC c)) (ks := (List.range c.1.length).map fun i : Nat => (i : Int)) ⟨List.nodup_cons.mpr ⟨fun m => (osub s m).2.2 rfl, ndo⟩, fun x m => ?_⟩
    · rw [List.length_cons, List.length_map, List.length_range] at l1
      omega
    · have : 0 ≤ x ∧ x < c.1.length := by
        rcases List.mem_cons.mp m with rfl | m
        · omega
        · exact ⟨(osub x m).1, (osub x m).2.1⟩
      exact List.mem_map.mpr ⟨x.toNat, List.mem_range.mpr (by omega), by omega⟩
  · obtain ⟨V, D, E⟩ := hE
    refine emb_num (V := V) (D := fun x => if x = b then D b ++ V s :: D s else D x) hL ndw k0 nd0 E.zero (fun i mi j mj h => ?_) (fun q mq x mx i mi => ?_) (fun t mt n mn => ?_) (fun q mq h => ?_) ?_
    · have a1 := osub i mi
      have a2 := osub j mj
      exact E.inj i j a1.1 a1.2.1 a2.1 a2.2.1 h
    · have a1 := osub i mi
      have mx : x ∈ if q.1 = b then D b ++ V s :: D s else D q.1 := mx
      rcases mw q mq with ⟨m, h1, h2, _⟩ | ⟨h1, _⟩
      · rw [if_neg h2] at mx
        exact E.apart _ m x mx i a1.1 a1.2.1
      · rw [if_pos h1] at mx
        rcases List.mem_append.mp mx with mx | mx
        · exact E.apart _ C.in1 x mx i a1.1 a1.2.1
        · rcases List.mem_cons.mp mx with rfl | mx
          · intro z
            exact a1.2.2 (E.inj i s a1.1 a1.2.1 (by omega) (by omega) z)
          · exact E.apart _ C.out x mx i a1.1 a1.2.1
    · have ne : lotC c t ≠ [] := fun z => by rw [z] at mn; exact absurd mn List.not_mem_nil
      obtain ⟨t0, t1, ht⟩ := lotC_out ne
      have := E.names _ _ ht n mn
      rw [this]
      congr 2
      omega
    · show (if q.1 = b then D b ++ V s :: D s else D q.1) = []
      rcases mw q mq with ⟨m, h1, h2, _⟩ | ⟨_, h2, _⟩
      · rw [if_neg h2]
        exact E.short _ m h
      · exact absurd h2 h
    · refine E.cells.trans ?_
      have p := (C.perm bnd).flatMap_right (lnkA V D)
      refine p.trans ?_
      rw [List.flatMap_cons, List.flatMap_cons, ← List.append_assoc]
      have ej : lnkA V D (b, k2, s) ++ lnkA V D (s, k1, e) = lnkR (V b) (D b ++ V s :: D s) (V e) := (lnkR_join (D b) (V b) (V s) (D s) (V e)).symm
      rw [ej]
      have ew : ws.flatMap (fun q => lnkR (V q.1) (if q.1 = b then D b ++ V s :: D s else D q.1) (V q.2.2.2)) = (ws.map fun q => (q.1, q.2.2)).flatMap fun q : Ar => lnkR (V q.1) (if q.1 = b then D b ++ V s :: D s else D q.1) (V q.2.2) := by
        rw [List.flatMap_map]
      rw [ew, tail, List.flatMap_append, List.flatMap_cons, List.flatMap_nil, List.append_nil]
      have er : (restR c s).flatMap (fun q : Ar => lnkR (V q.1) (if q.1 = b then D b ++ V s :: D s else D q.1) (V q.2.2)) = (restR c s).flatMap (lnkA V D) := flat_congr fun q m => by
        rw [if_neg ((C.rest bnd).mp m).2.2]
        rfl
      rw [er]
      show (lnkR (V b) (D b ++ V s :: D s) (V e) ++ _).Perm ((restR c s).flatMap (lnkA V D) ++ lnkR (V b) (if b = b then D b ++ V s :: D s else D b) (V e))
      rw [if_pos rfl]
      exact List.perm_append_comm
end
end L2.Hx

/-! Folding to the end; a long arrow opened; heaps drawn have their case; how a case is fitted. -/
namespace L2.Hx
open PySem PySem.Spec PyProof.Rows
structure NsOk (ns : List Str) : Prop where
  nd : ns.Nodup
  nn : ¬ ("nil" : Str) ∈ ns
  ln : ns.length ≤ 8
  up : ns.Pairwise leZ
  shp : ∀ n ∈ ns, Shp (.str n)
section
variable {ns : List Str} {c : Cs}
theorem least_can {s : Int} (h : leastC c = some s) : canC c s = true ∧ 1 ≤ s ∧ s < c.1.length := by
  unfold leastC at h
  have h1 := List.find?_some h
  have h2 := mem_spL.mp (List.mem_of_find?_eq_some h)
  exact ⟨h1, by omega⟩
theorem stepC_ok (N : CaseN ns c) (O : NsOk ns) {s : Int} (h : canC c s = true) : numL (lotC c) (toW (woR c s ((insC c s).headD 0))) (begC c) = some (stepC c s) ∧ CaseN ns (stepC c s) ∧ (stepC c s).1.length < c.1.length ∧ ∀ S X, EmbC c S X → EmbC (stepC c s) S X := by
  obtain ⟨c', h1, h2, h3, h4⟩ := step_ok N O.nd O.nn O.ln O.up h
  have e : stepC c s = c' := by
    unfold stepC
    rw [h1]
    rfl
  rw [e]
  exact ⟨h1, h2, h3, h4⟩
theorem fold_fuel (O : NsOk ns) : ∀ (k : Nat) {c : Cs} (n m : Nat), CaseN ns c → c.1.length ≤ k → c.1.length ≤ n → c.1.length ≤ m → foldF n c = foldF m c
  | 0, c, n, m, N, hk, _, _ => by
    have := N.ok.pos
    omega
  | k + 1, c, n, m, N, hk, hn, hm => by
    have p := N.ok.pos
    obtain ⟨n, rfl⟩ : ∃ n', n = n' + 1 := ⟨n - 1, by omega⟩
    obtain ⟨m, rfl⟩ : ∃ m', m = m' + 1 := ⟨m - 1, by omega⟩
    unfold foldF
    cases e : leastC c with
    | none => rfl
    | some s =>
      obtain ⟨_, N2, l2, _⟩ := stepC_ok N O (least_can e).1
      exact fold_fuel O k n m N2 (by omega) (by omega) (by omega)
def foldC (c : Cs) : Cs := foldF c.1.length c
theorem foldC_stop (N : CaseN ns c) (h : leastC c = none) : foldC c = c := by
  have p := N.ok.pos
  unfold foldC
  obtain ⟨n, e⟩ : ∃ n', c.1.length = n' + 1 := ⟨c.1.length - 1, by omega⟩
  rw [e]
  unfold foldF
  rw [h]
theorem foldC_step (N : CaseN ns c) (O : NsOk ns) {s : Int} (h : leastC c = some s) : foldC (stepC c s) = foldC c := by
  have p := N.ok.pos
  obtain ⟨_, N2, l2, _⟩ := stepC_ok N O (least_can h).1
  obtain ⟨n, e⟩ : ∃ n', c.1.length = n' + 1 := ⟨c.1.length - 1, by omega⟩
  have e2 : foldC c = foldF n (stepC c s) := by
    unfold foldC
    rw [e]
    show (match leastC c with
    | none => c
    | some s => foldF n (stepC c s)) = _
    rw [h]
  rw [e2]
  exact fold_fuel O _ _ _ N2 (Nat.le_refl _) (Nat.le_refl _) (by omega)
theorem foldC_ok (O : NsOk ns) : ∀ (k : Nat) {c : Cs}, CaseN ns c → c.1.length ≤ k → CaseN ns (foldC c) ∧ leastC (foldC c) = none ∧ ∀ S X, EmbC c S X → EmbC (foldC c) S X
  | 0, c, N, hk => by
    have := N.ok.pos
    omega
  | k + 1, c, N, hk => by
    cases e : leastC c with
    | none =>
      rw [foldC_stop N e]
      exact ⟨N, e, fun _ _ h => h⟩
    | some s =>
      obtain ⟨_, N2, l2, em⟩ := stepC_ok N O (least_can e).1
      obtain ⟨h1, h2, h3⟩ := foldC_ok O k N2 (by omega)
      rw [foldC_step N O e] at h1 h2 h3
      exact ⟨h1, h2, fun S X h => h3 S X (em S X h)⟩
theorem foldC_again (N : CaseN ns c) (O : NsOk ns) : foldC (foldC c) = foldC c := by
  obtain ⟨h1, h2, _⟩ := foldC_ok O _ N (Nat.le_refl _)
  exact foldC_stop h1 h2
/-- a long arrow opened -/
theorem open_ok (N : CaseN ns c) (O : NsOk ns) {hm : Hm} (hh : HomeC ns c hm) {ys : List Str} (py : ys.Perm (keysA hm)) (up : Up0 ys) {bs : List Int} (bg : Begins ys hm bs) {ws : Ws} {b f e : Int} (ndw : (keysA ws).Nodup) (len : ws.length ≤ 40) (f1 : 1 ≤ f) (fe : e ≠ f) (hb : (b, (("long" : Str), e)) ∈ c.2)
    (mw : ∀ q : Int × Wy, q ∈ ws → ((q.1, q.2.2) ∈ c.2 ∧ q.1 ≠ b) ∨ (q.1 = b ∧ q.2.2.1 = "short" ∧ q.2.2.2 = f) ∨ (q.1 = f ∧ q.2.2.1 = "long" ∧ q.2.2.2 = e)) (back : ∀ q : Ar, q ∈ c.2 → q.1 ≠ b → ∃ z : Int × Wy, z ∈ ws ∧ (z.1, z.2.2) = q)
    (rb : ∃ z : Int × Wy, z ∈ ws ∧ (z.1, z.2.2) = (b, (("short" : Str), f))) (rf : ∃ z : Int × Wy, z ∈ ws ∧ (z.1, z.2.2) = (f, (("long" : Str), e))) : ∃ c', numF ys hm ws bs = some c' ∧ CaseN ns c' := by
  have bin := ar_in N hb
  have qin : ∀ q : Int × Wy, q ∈ ws → 1 ≤ q.1 ∧ 0 ≤ q.2.2.2 := fun q m => by
    rcases mw q m with ⟨m, _⟩ | ⟨h1, _, h3⟩ | ⟨h1, _, h3⟩
    · have := ar_in N m
      exact ⟨this.1, this.2.2.1⟩
    · rw [h1, h3]
      exact ⟨bin.1, by omega⟩
    · rw [h1, h3]
      exact ⟨f1, bin.2.2.1⟩
  have wok : WaysOk ws := ⟨ndw, fun q m => by have := qin q m; omega, fun q m => (qin q m).2, fun q m => by
    rcases mw q m with ⟨m, _⟩ | ⟨_, h2, _⟩ | ⟨h1, h2, h3⟩
    · exact N.kind _ m
    · exact .inl h2
    · exact .inr ⟨h2, by rw [h1, h3]; exact fe⟩, len⟩
  have k0 : ¬ (0 : Int) ∈ keysA ws := fun m => by
    obtain ⟨q, mq, z⟩ := List.mem_map.mp m
    have := qin q mq
    omega
  have el := hh.lot N O.nd O.nn py up
  have reach : ∀ S : Int → Prop, (∀ x ∈ bs, S x) → (∀ q ∈ ws, S q.1 → S q.2.2.2) → ∀ q ∈ ws, S q.1 := fun S h1 h2 => by
    have bf : S b → S f := fun sb => by
      obtain ⟨z, mz, ez⟩ := rb
      have e1 : z.1 = b := congrArg (fun q : Ar => q.1) ez
      have e2 : z.2.2.2 = f := congrArg (fun q : Ar => q.2.2) ez
      rw [← e2]
      exact h2 z mz (by rw [e1]; exact sb)
    have fe2 : S f → S e := fun sf => by
      obtain ⟨z, mz, ez⟩ := rf
      have e1 : z.1 = f := congrArg (fun q : Ar => q.1) ez
      have e2 : z.2.2.2 = e := congrArg (fun q : Ar => q.2.2) ez
      rw [← e2]
      exact h2 z mz (by rw [e1]; exact sf)
    have old := N.reach S (fun i l i0 hl ne => h1 _ ((bg.mem _).mpr ⟨by omega, by rw [el, lotC_at hl]; exact ne⟩)) (fun q mq hq => by
      by_cases q1 : q.1 = b
      · have e1 := mem_getA (l := c.2) N.ok.bnd (show (q.1, q.2) ∈ c.2 from mq)
        have e2 := mem_getA (l := c.2) N.ok.bnd (show (b, (("long" : Str), e)) ∈ c.2 from hb)
        rw [q1, e2] at e1
        rw [← Option.some.inj e1]
        rw [q1] at hq
        exact fe2 (bf hq)
      · obtain ⟨z, mz, ez⟩ := back q mq q1
        subst ez
        exact h2 z mz hq)
    intro q mq
    rcases mw q mq with ⟨m, _⟩ | ⟨h, _⟩ | ⟨h, _⟩
    · exact old _ m
    · rw [h]
      exact old _ hb
    · rw [h]
      exact bf (old _ hb)
  obtain ⟨c', hc'⟩ := numF_some (ys := ys) (hm := hm) ndw k0 reach
  exact ⟨c', hc', case_n O.nd O.nn O.ln ⟨ys, hm, ws, bs, hh.ok O.nd O.nn, wok, py, up, bg, hc'⟩⟩
/-- a heap that is drawn of a case has it -/
theorem rowsF_keys : ∀ {lots : List (List Str)} {vals : List Int}, vals.length = lots.length → keysA (rowsF lots vals) = lots.flatten
  | [], [], _ => rfl
  | l :: lots, v :: vals, h => by
    have ih := rowsF_keys (lots := lots) (vals := vals) (Nat.succ.inj h)
    unfold rowsF keysA at ih ⊢
    rw [List.zip_cons_cons, List.flatMap_cons, List.map_append, ih, List.flatten_cons, List.map_map]
    congr 1
    exact List.map_id'' (fun _ => rfl) l
theorem store_nd {most : Nat} {vals : List Int} {chs : List Ch} (ok : CaseOk ns c) (nd : ns.Nodup) (hf : HeapF most c vals chs) : (keysA (storeF c vals)).Nodup := by
  have pm := (List.mergeSort_perm (rowsF c.1 vals) (PySem.W.dataLe false pairS)).map Prod.fst
  refine pm.nodup_iff.mpr ?_
  show (keysA (rowsF c.1 vals)).Nodup
  rw [rowsF_keys hf.len]
  exact ok.nd nd
theorem heap_perm {most : Nat} {vals : List Int} {chs : List Ch} (ok : CaseOk ns c) (hf : HeapF most c vals chs) : (heapF chs).Perm (chs.flatMap lnkC) ∧ (keysA (heapF chs)).Nodup := by
  have n := ex_nodup ok hf
  obtain ⟨e1, e2⟩ := cellsF_eq n
  have p := List.mergeSort_perm (cellsF chs) (PySem.W.dataLe false pairI)
  refine ⟨by rw [← e1]; exact p, (p.map Prod.fst).nodup_iff.mpr ?_⟩
  show (keysA (cellsF chs)).Nodup
  rw [e2]
  exact n
theorem emb_heap {most : Nat} {vals : List Int} {chs : List Ch} (ok : CaseOk ns c) (nd : ns.Nodup) (hf : HeapF most c vals chs) : EmbC c (storeF c vals) (heapF chs) := by
  have kd := store_nd ok nd hf
  have at_ : ∀ i : Int, 0 ≤ i → i < c.1.length → vals[i.toNat]? = some (vF vals i) := fun i i0 i1 => by
    have := hf.len
    unfold vF
    rw [List.getElem?_eq_getElem (show i.toNat < vals.length by omega)]
    rfl
  have nv := List.nodup_append.mp hf.nodup
  refine ⟨vF vals, fun b => (chF c chs b).2.1, ?_, fun i j i0 i1 j0 j1 h => vF_inj hf i0 i1 j0 j1 h, fun q m x mx i i0 i1 z => ?_, fun i l hl n mn => ?_, fun q m h => ?_, ?_⟩
  · exact vF_at (b := 0) hf.zero
  · obtain ⟨k, hk⟩ := List.mem_iff_getElem?.mp m
    have hch := (chF_of ok hf hk).1
    refine nv.2.2 x (by rw [← z]; exact List.mem_of_getElem? (at_ i i0 i1)) x (List.mem_flatMap.mpr ⟨_, List.mem_of_getElem? hch, mx⟩) rfl
  · have il := (List.getElem?_eq_some_iff.mp hl).1
    have hv := at_ (i : Int) (by omega) (by omega)
    rw [Int.toNat_natCast] at hv
    refine mem_getA kd ((List.mergeSort_perm _ _).mem_iff.mpr ?_)
    exact List.mem_flatMap.mpr ⟨(l, vF vals i), List.mem_of_getElem? (List.getElem?_zip_eq_some.mpr ⟨hl, hv⟩), List.mem_map.mpr ⟨n, mn, rfl⟩⟩
  · obtain ⟨k, hk⟩ := List.mem_iff_getElem?.mp m
    exact (chF_of ok hf hk).2.2.2 h
  · refine (heap_perm ok hf).1.trans (List.Perm.of_eq ?_)
    have e : chs = c.2.map fun q => chF c chs q.1 := by
      refine List.ext_getElem? fun i => ?_
      rw [List.getElem?_map]
      cases h : c.2[i]? with
      | some q => exact (chF_of ok hf h).1
      | none =>
        have := hf.chain.length
        rw [List.getElem?_eq_none_iff] at h
        exact List.getElem?_eq_none_iff.mpr (by omega)
    conv => lhs; rw [e]
    rw [List.flatMap_map]
    refine flat_congr fun q m => ?_
    obtain ⟨k, hk⟩ := List.mem_iff_getElem?.mp m
    obtain ⟨_, h2, h3, _⟩ := chF_of ok hf hk
    show lnkR (chF c chs q.1).1 (chF c chs q.1).2.1 (chF c chs q.1).2.2 = lnkR (vF vals q.1) (chF c chs q.1).2.1 (vF vals q.2.2)
    rw [vF_at h2, vF_at h3]
end
/-! how a case is fitted -/
def InU (ws : List Ar) (kn : List (Int × Int)) (i : Int) : Prop := i ∈ keysA kn ∨ ∃ q ∈ ws, i = q.1 ∨ i = q.2.2
structure FitV (ws : List Ar) (kn cl : List (Int × Int)) (am : List Int) (V : Int → Int) (D : Int → List Int) : Prop where
  k0 : getA kn 0 = some 0
  kv : ∀ q ∈ kn, q.2 = V q.1
  inj : ∀ i j, InU ws kn i → InU ws kn j → V i = V j → i = j
  apart : ∀ q ∈ ws, ∀ x ∈ D q.1, ∀ i, InU ws kn i → V i ≠ x
  am : ∀ x ∈ am, ∀ i, InU ws kn i → V i ≠ x
  short : ∀ q ∈ ws, q.2.1 ≠ "long" → D q.1 = []
  cells : cl.Perm (ws.flatMap (lnkA V D))
  reach : ∀ S : Int → Prop, (∀ k ∈ keysA kn, S k) → (∀ q ∈ ws, S q.1 → S q.2.2) → ∀ q ∈ ws, S q.1
def FitP (ws : List Ar) (kn cl : List (Int × Int)) (am : List Int) : Prop := ∃ V D, FitV ws kn cl am V D
def WalkV (q : Ar) (rest : List Ar) (am : List Int) (left : List (Int × Int)) (here : Int) (btw : List Int) (V : Int → Int) (D : Int → List Int) : Prop :=
  ∃ done ds, D q.1 = done ++ ds ∧ left.Perm (lnkR here ds (V q.2.2) ++ rest.flatMap (lnkA V D)) ∧ btw = am ++ done
section
variable {ws rest : List Ar} {kn cl left : List (Int × Int)} {am btw : List Int} {V : Int → Int} {D : Int → List Int} {q : Ar} {here value : Int}
theorem FitV.end_ (F : FitV ws kn cl am V D) (h : ∀ q ∈ ws, ¬ q.1 ∈ keysA kn) : ws = [] ∧ cl = [] ∧ ∀ x ∈ am, ¬ x ∈ kn.map Prod.snd := by
  have e : ws = [] := by
    match ws, F, h with
    | [], _, _ => rfl
    | q :: r, F, h =>
      have := F.reach (fun x => x ∈ keysA kn) (fun k m => m) (fun z mz hz => absurd hz (h z mz)) q List.mem_cons_self
      exact absurd this (h q List.mem_cons_self)
  refine ⟨e, ?_, fun x m mx => ?_⟩
  · have := F.cells
    rw [e] at this
    exact this.eq_nil
  · obtain ⟨z, mz, rfl⟩ := List.mem_map.mp mx
    have hz := F.kv z mz
    exact F.am _ m z.1 (.inl (List.mem_map.mpr ⟨z, mz, rfl⟩)) hz.symm
theorem walk_start (F : FitV ws kn cl am V D) (p : ws.Perm (q :: rest)) (hg : getA kn q.1 = some here) : WalkV q rest am cl here am V D := by
  refine ⟨[], D q.1, rfl, ?_, by rw [List.append_nil]⟩
  have hv := F.kv _ (getA_mem hg)
  have hv : here = V q.1 := hv
  rw [hv]
  have := F.cells.trans (p.flatMap_right (lnkA V D))
  rw [List.flatMap_cons] at this
  exact this
theorem lnkR_cons (h : Int) (ds : List Int) (e : Int) : ∃ t, lnkR h ds e = (h, ds.headD e) :: t ∧ (∀ d r, ds = d :: r → t = lnkR d r e) ∧ (ds = [] → t = []) := by
  cases ds with
  | nil => exact ⟨[], rfl, ⟨fun d r z => by injection z, fun _ => rfl⟩⟩
  | cons d r => exact ⟨lnkR d r e, rfl, ⟨fun d' r' z => by injection z with z1 z2; rw [z1, z2], fun z => by injection z⟩⟩
theorem walk_in (W : WalkV q rest am left here btw V D) : here ∈ keysA left := by
  obtain ⟨done, ds, _, p, _⟩ := W
  obtain ⟨t, e, _⟩ := lnkR_cons here ds (V q.2.2)
  rw [e] at p
  exact List.mem_map.mpr ⟨_, p.mem_iff.mpr List.mem_cons_self, rfl⟩
def IsEnd (kn : List (Int × Int)) (e value : Int) : Prop := (e ∈ keysA kn ∧ getA kn e = some value) ∨ (¬ e ∈ keysA kn ∧ value ≠ 0 ∧ ¬ value ∈ kn.map Prod.snd)
theorem walk_turn (F : FitV ws kn cl am V D) (p : ws.Perm (q :: rest)) (hk : q.1 ∈ keysA kn) (knd : (keysA kn).Nodup) (W : WalkV q rest am left here btw V D) (nd : (keysA left).Nodup) (hg : getA left here = some value) :
    (IsEnd kn q.2.2 value ∧ FitV rest (putA kn q.2.2 value) (left.filter fun z => decide (z.1 ≠ here)) btw V D) ∨
    (¬ (q.2.2 ∈ keysA kn ∧ getA kn q.2.2 = some value) ∧ q.2.1 = "long" ∧ WalkV q rest am (left.filter fun z => decide (z.1 ≠ here)) value (btw ++ [value]) V D) := by
  obtain ⟨done, ds, eD, pl, eb⟩ := W
  obtain ⟨t, et, t1, t0⟩ := lnkR_cons here ds (V q.2.2)
  rw [et] at pl
  have mq : q ∈ ws := p.mem_iff.mpr List.mem_cons_self
  have inR : ∀ z ∈ rest, z ∈ ws := fun z m => p.mem_iff.mpr (List.mem_cons_of_mem _ m)
  have ev : value = ds.headD (V q.2.2) := by
    have := mem_getA nd (pl.mem_iff.mpr List.mem_cons_self)
    rw [hg] at this
    exact Option.some.inj this
  have pf : (left.filter fun z => decide (z.1 ≠ here)).Perm (t ++ rest.flatMap (lnkA V D)) := by
    have p1 := pl.filter fun z => decide (z.1 ≠ here)
    rw [List.cons_append, List.filter_cons, if_neg (by simp)] at p1
    refine p1.trans (List.Perm.of_eq (List.filter_eq_self.mpr fun z m => decide_eq_true fun e => ?_))
    have n2 : (keysA ((here, ds.headD (V q.2.2)) :: (t ++ rest.flatMap (lnkA V D)))).Nodup := (pl.map Prod.fst).nodup_iff.mp nd
    exact (List.nodup_cons.mp n2).1 (List.mem_map.mpr ⟨z, m, e⟩)
  cases ds with
  | nil =>
    left
    have ev : value = V q.2.2 := ev
    have uq : InU ws kn q.2.2 := .inr ⟨q, mq, .inr rfl⟩
    have u0 : InU ws kn 0 := .inl (List.mem_map.mpr ⟨_, getA_mem F.k0, rfl⟩)
    have v0 : V 0 = 0 := (F.kv _ (getA_mem F.k0)).symm
    have sub : ∀ i, InU rest (putA kn q.2.2 value) i → InU ws kn i := fun i h => by
      rcases h with h | ⟨z, mz, h⟩
      · rcases putA_keys.mp h with h | h
        · exact .inl h
        · rw [h]
          exact uq
      · exact .inr ⟨z, inR z mz, h⟩
    refine ⟨?_, ?_⟩
    · by_cases he : q.2.2 ∈ keysA kn
      · obtain ⟨v, g, mv⟩ := getA_in he
        refine .inl ⟨he, ?_⟩
        have kv1 : v = V q.2.2 := F.kv _ mv
        rw [g, ev, kv1]
      · refine .inr ⟨he, fun z => ?_, fun m => ?_⟩
        · have := F.inj _ _ uq u0 (by rw [← ev, z, v0])
          exact he (by rw [this]; exact List.mem_map.mpr ⟨_, getA_mem F.k0, rfl⟩)
        · obtain ⟨z, mz, ez⟩ := List.mem_map.mp m
          have kz : z.1 ∈ keysA kn := List.mem_map.mpr ⟨z, mz, rfl⟩
          have := F.inj _ _ uq (.inl kz) (by rw [← ev, ← F.kv z mz, ez])
          exact he (by rw [this]; exact kz)
    · refine ⟨?_, fun z mz => ?_, fun i j hi hj => F.inj i j (sub i hi) (sub j hj), fun z mz x mx i hi => F.apart z (inR z mz) x mx i (sub i hi), fun x mx i hi => ?_, fun z mz => F.short z (inR z mz), ?_, fun S h1 h2 z mz => ?_⟩
      · rw [get_putA]
        by_cases z : (0 : Int) = q.2.2
        · rw [if_pos z, ev, ← z, v0]
        · rw [if_neg z]
          exact F.k0
      · have h := mem_getA (putA_nodup (k := q.2.2) (v := value) knd) (show (z.1, z.2) ∈ putA kn q.2.2 value from mz)
        rw [get_putA] at h
        by_cases e : z.1 = q.2.2
        · rw [if_pos e] at h
          rw [e, ← ev]
          exact (Option.some.inj h).symm
        · rw [if_neg e] at h
          exact F.kv _ (getA_mem h)
      · rw [eb] at mx
        rcases List.mem_append.mp mx with mx | mx
        · exact F.am x mx i (sub i hi)
        · exact F.apart q mq x (by rw [eD]; exact List.mem_append_left _ mx) i (sub i hi)
      · rw [t0 rfl] at pf
        exact pf
      · refine F.reach S (fun k m => h1 k (putA_keys.mpr (.inl m))) (fun y my sy => ?_) z (inR z mz)
        rcases List.mem_cons.mp (p.mem_iff.mp my) with e | m
        · rw [e]
          exact h1 _ (putA_keys.mpr (.inr rfl))
        · exact h2 y m sy
  | cons d r =>
    right
    have ev : value = d := ev
    have md : d ∈ D q.1 := by
      rw [eD]
      exact List.mem_append_right _ List.mem_cons_self
    refine ⟨fun ⟨h1, h2⟩ => ?_, ?_, done ++ [d], r, by rw [eD, List.append_assoc]; rfl, by rw [t1 d r rfl] at pf; rw [ev]; exact pf, by rw [eb, ev, List.append_assoc]⟩
    · have := F.kv _ (getA_mem h2)
      exact F.apart q mq d md q.2.2 (.inl h1) (by rw [← ev]; exact this.symm)
    · exact Classical.byContradiction fun h => by
        rw [F.short q mq h] at md
        exact absurd md List.not_mem_nil
end
/-- the values that are known at the start -/
structure KnOk (c : Cs) (V : Int → Int) (kn : List (Int × Int)) : Prop where
  nd : (keysA kn).Nodup
  k0 : getA kn 0 = some 0
  kv : ∀ q ∈ kn, q.2 = V q.1
  key : ∀ k, k ∈ keysA kn ↔ k = 0 ∨ lotC c k ≠ []
theorem fit_start {ns : List Str} {c : Cs} {S : List (Str × Int)} {X : List (Int × Int)} {V0 : Int → Int} {kn : List (Int × Int)} (N : CaseN ns c) (hE : EmbC c S X) (h0 : ∀ (i : Nat) l, c.1[i]? = some l → ∀ n ∈ l, getA S n = some (V0 (i : Int))) (K : KnOk c V0 kn) : FitP c.2 kn X [] := by
  obtain ⟨V, D, E⟩ := hE
  have rng : ∀ i, InU c.2 kn i → 0 ≤ i ∧ i < c.1.length := fun i h => by
    rcases h with h | ⟨q, m, h⟩
    · rcases (K.key i).mp h with e | e
      · have := N.ok.pos
        omega
      · have := lotC_out e
        exact ⟨this.1, this.2.1⟩
    · have := N.ok.ar q m
      rcases h with h | h <;> omega
  refine ⟨V, D, K.k0, fun q m => ?_, fun i j hi hj h => E.inj i j (rng i hi).1 (rng i hi).2 (rng j hj).1 (rng j hj).2 h, fun q m x mx i hi => E.apart q m x mx i (rng i hi).1 (rng i hi).2, fun x m => absurd m List.not_mem_nil, E.short, E.cells, fun S h1 h2 => N.reach S (fun i l i0 hl ne => h1 _ ((K.key _).mpr (.inr (by rw [lotC_at hl]; exact ne)))) h2⟩
  have hk : q.1 ∈ keysA kn := List.mem_map.mpr ⟨q, m, rfl⟩
  by_cases e : lotC c q.1 = []
  · have z := ((K.key _).mp hk).resolve_right fun h => h e
    have h1 := mem_getA K.nd (show (q.1, q.2) ∈ kn from m)
    rw [z, K.k0] at h1
    rw [z, E.zero]
    exact (Option.some.inj h1).symm
  · obtain ⟨s0, s1, hs⟩ := lotC_out e
    obtain ⟨n, r, er⟩ := List.exists_cons_of_ne_nil e
    have mn : n ∈ lotC c q.1 := by rw [er]; exact List.mem_cons_self
    have e1 := h0 _ _ hs n mn
    have e2 := E.names _ _ hs n mn
    have et : ((q.1.toNat : Nat) : Int) = q.1 := by omega
    rw [et] at e1 e2
    rw [e1] at e2
    rw [K.kv q m]
    exact Option.some.inj e2
end L2.Hx

/-! A long arrow opened, over plain lists: both cases, and what a heap has of them. -/
namespace L2.Hx
open PySem PySem.Spec PyProof.Rows
/-- every lot without a name is the end of an arrow -/
def Met (c : Cs) : Prop := ∀ i : Int, 0 < i → i < c.1.length → lotC c i = [] → ∃ q ∈ c.2, q.2.2 = i
theorem case_met {ns : List Str} {c : Cs} (h : CaseF ns c) : Met c := by
  obtain ⟨ys, hm, ws, bs, ho, wo, py, up, bg, hc⟩ := h
  unfold numF at hc
  split at hc
  case isFalse => cases hc
  rename_i hall
  have hc := (Option.some.inj hc).symm
  subst hc
  have n0 : ¬ (0 : Int) ∈ bs := fun m => ((bg.mem 0).mp m).1 rfl
  have ndo := orderF_nodup ws bs (List.nodup_cons.mpr ⟨n0, bg.nd⟩)
  obtain ⟨t, et⟩ := orderF_pre ws bs (0 :: bs)
  have met := order_met (ws := ws) (bs := bs) wo.nd (fun x => x ∈ bs ∨ ∃ q ∈ ws, q.2.2.2 = x) (fun b m => .inl m) (fun q m _ => .inr ⟨q, m, rfl⟩)
  have eo : orderF ws bs (0 :: bs) = 0 :: (bs ++ t) := by rw [et]; rfl
  generalize orderF ws bs (0 :: bs) = od at met eo ndo
  intro i i0 i1 hl
  have i1 : i < (od.map (lotF ys hm)).length := i1
  rw [List.length_map] at i1
  have hi : i.toNat < od.length := by omega
  have hx := List.getElem?_eq_getElem hi
  have ml := List.getElem_mem hi
  have ix : ixO od od[i.toNat] = i := by
    have := ix_at ml
    have h2 := (List.getElem?_eq_some_iff.mp this)
    obtain ⟨h3, h4⟩ := h2
    have := (List.getElem_inj ndo).mp h4
    have := (ixO_lt ml).1
    omega
  have hl : (((od.map (lotF ys hm))[i.toNat]?).getD []) = [] := by
    have := hl
    unfold lotC at this
    rw [if_pos (by omega)] at this
    exact this
  rw [List.getElem?_map, hx] at hl
  have hl : lotF ys hm od[i.toNat] = [] := hl
  rcases met _ ml with e | m | ⟨q, mq, e⟩
  · rw [e] at ix
    rw [eo] at ix
    have : i = 0 := by rw [← ix]; rfl
    omega
  · exact absurd hl ((bg.mem _).mp m).2
  · exact ⟨_, ars_mem.mpr ⟨q, mq, rfl⟩, by show ixO od q.2.2.2 = i; rw [e, ix]⟩
structure EmbW (lot : Int → List Str) (ws : Ws) (od : List Int) (S : List (Str × Int)) (X : List (Int × Int)) (V : Int → Int) (D : Int → List Int) : Prop where
  zero : V 0 = 0
  inj : ∀ i ∈ od, ∀ j ∈ od, V i = V j → i = j
  apart : ∀ q ∈ ws, ∀ x ∈ D q.1, ∀ i ∈ od, V i ≠ x
  names : ∀ s ∈ od, ∀ n ∈ lot s, getA S n = some (V s)
  short : ∀ q ∈ ws, q.2.2.1 ≠ "long" → D q.1 = []
  cells : X.Perm (ws.flatMap fun q => lnkR (V q.1) (D q.1) (V q.2.2.2))
theorem EmbW.num {lot : Int → List Str} {ws : Ws} {bs : List Int} {c' : Cs} {S : List (Str × Int)} {X : List (Int × Int)} {V : Int → Int} {D : Int → List Int} (E : EmbW lot ws (orderF ws bs (0 :: bs)) S X V D) (hc : numL lot ws bs = some c') (nd : (keysA ws).Nodup) (k0 : ¬ (0 : Int) ∈ keysA ws) (nd0 : ((0 : Int) :: bs).Nodup) : EmbC c' S X :=
  emb_num hc nd k0 nd0 E.zero E.inj E.apart E.names E.short E.cells
theorem emb_back {lot : Int → List Str} {ws : Ws} {bs : List Int} {c' : Cs} {S : List (Str × Int)} {X : List (Int × Int)} (hc : numL lot ws bs = some c') (nd : (keysA ws).Nodup) (k0 : ¬ (0 : Int) ∈ keysA ws) (h : EmbC c' S X) : ∃ V D, EmbW lot ws (orderF ws bs (0 :: bs)) S X V D := by
  obtain ⟨V1, D1, E⟩ := h
  unfold numL at hc
  split at hc
  case isFalse => cases hc
  rename_i hall
  have hc := (Option.some.inj hc).symm
  subst hc
  obtain ⟨t, et⟩ := orderF_pre ws bs (0 :: bs)
  have cl := orderF_closed (ws := ws) (bs := bs) k0
  have mk : ∀ z ∈ ws, z.1 ∈ orderF ws bs (0 :: bs) := fun z m => hall _ (List.mem_map.mpr ⟨z, m, rfl⟩)
  have eo : orderF ws bs (0 :: bs) = 0 :: (bs ++ t) := by rw [et]; rfl
  generalize orderF ws bs (0 :: bs) = od at E mk eo
  have ln : (od.map lot).length = od.length := List.length_map _
  refine ⟨fun s => V1 (ixO od s), fun s => D1 (ixO od s), ?_, fun i mi j mj h => ?_, fun q m x mx i mi => ?_, fun s ms n mn => ?_, fun q m hk => ?_, ?_⟩
  · show V1 (ixO od 0) = 0
    rw [eo]
    exact E.zero
  · have h1 := ixO_lt mi
    have h2 := ixO_lt mj
    exact ix_inj mi mj (E.inj _ _ h1.1 (by show _ < ((od.map lot).length : Int); rw [ln]; exact h1.2) h2.1 (by show _ < ((od.map lot).length : Int); rw [ln]; exact h2.2) h)
  · have h1 := ixO_lt mi
    exact E.apart _ (ars_mem.mpr ⟨q, m, rfl⟩) x mx _ h1.1 (by show _ < ((od.map lot).length : Int); rw [ln]; exact h1.2)
  · have h1 := ixO_lt ms
    have h2 := ix_at ms
    have := E.names (ixO od s).toNat (lot s) (by show (od.map lot)[_]? = _; rw [List.getElem?_map, h2]; rfl) n mn
    rw [this, show (((ixO od s).toNat : Nat) : Int) = ixO od s by omega]
  · exact E.short _ (ars_mem.mpr ⟨q, m, rfl⟩) hk
  · refine E.cells.trans ?_
    have p := (List.mergeSort_perm (ws.map fun q => (ixO od q.1, q.2.2.1, ixO od q.2.2.2)) (PySem.W.dataLe false arD)).flatMap_right (lnkA V1 D1)
    rw [List.flatMap_map] at p
    exact p
theorem lots_num {lot : Int → List Str} {ws : Ws} {bs : List Int} {c' : Cs} {S : List (Str × Int)} {V : Int → Int} (hc : numL lot ws bs = some c') (nd0 : ((0 : Int) :: bs).Nodup) (V0 : V 0 = 0) (names : ∀ s, ∀ n ∈ lot s, getA S n = some (V s)) (inj : ∀ i j, (i = 0 ∨ lot i ≠ []) → (j = 0 ∨ lot j ≠ []) → V i = V j → i = j) :
    ∃ W : Int → Int, W 0 = 0 ∧ (∀ (i : Nat) l, c'.1[i]? = some l → ∀ n ∈ l, getA S n = some (W (i : Int))) ∧ ∀ i j : Int, (i = 0 ∨ lotC c' i ≠ []) → (j = 0 ∨ lotC c' j ≠ []) → W i = W j → i = j := by
  unfold numL at hc
  split at hc
  case isFalse => cases hc
  have hc := (Option.some.inj hc).symm
  subst hc
  obtain ⟨t, et⟩ := orderF_pre ws bs (0 :: bs)
  have ndo := orderF_nodup ws bs nd0
  have eo : orderF ws bs (0 :: bs) = 0 :: (bs ++ t) := by rw [et]; rfl
  generalize orderF ws bs (0 :: bs) = od at eo ndo
  have at0 : od.getD (0 : Int).toNat 0 = 0 := by rw [eo]; rfl
  have key : ∀ i : Int, (i = 0 ∨ lotC ((od.map lot, arsF ws od) : Cs) i ≠ []) → 0 ≤ i ∧ ∃ h : i.toNat < od.length, od.getD i.toNat 0 = od[i.toNat] ∧ (od[i.toNat] = 0 ∨ lot od[i.toNat] ≠ []) := fun i h => by
    rcases h with e | h
    · subst e
      have hl : (0 : Int).toNat < od.length := by rw [eo]; simp
      have e0 : od[(0 : Int).toNat] = 0 := by
        have := List.getElem?_eq_getElem hl
        rw [show od[(0 : Int).toNat]? = some 0 by rw [eo]; rfl] at this
        exact (Option.some.inj this).symm
      exact ⟨Int.le_refl _, hl, by rw [at0, e0], .inl e0⟩
    · obtain ⟨h0, h1, h2⟩ := lotC_out h
      have h1 : i < ((od.map lot).length : Int) := h1
      rw [List.length_map] at h1
      have hl : i.toNat < od.length := by omega
      refine ⟨h0, hl, by rw [List.getD_eq_getElem?_getD, List.getElem?_eq_getElem hl]; rfl, .inr fun e => h ?_⟩
      have h2 : (od.map lot)[i.toNat]? = some (lotC ((od.map lot, arsF ws od) : Cs) i) := h2
      rw [List.getElem?_map, List.getElem?_eq_getElem hl] at h2
      have := Option.some.inj h2
      rw [← this, e]
  refine ⟨fun j => V (od.getD j.toNat 0), ?_, fun i l hl n mn => ?_, fun i j hi hj e => ?_⟩
  · show V (od.getD (0 : Int).toNat 0) = 0
    rw [at0, V0]
  · have hl : (od.map lot)[i]? = some l := hl
    rw [List.getElem?_map] at hl
    obtain ⟨s, e, rfl⟩ := Option.map_eq_some_iff.mp hl
    show getA S n = some (V (od.getD (i : Int).toNat 0))
    rw [Int.toNat_natCast, List.getD_eq_getElem?_getD, e]
    exact names s n mn
  · obtain ⟨i0, li, ei, hi⟩ := key i hi
    obtain ⟨j0, lj, ej, hj⟩ := key j hj
    have e : V (od.getD i.toNat 0) = V (od.getD j.toNat 0) := e
    rw [ei, ej] at e
    have := inj _ _ hi hj e
    have := (List.getElem_inj ndo).mp this
    omega
def restB (c : Cs) (b : Int) : List Ar := c.2.filter fun q => decide (q.1 ≠ b)
def oneR (c : Cs) (b e : Int) : List Ar := (b, (("short" : Str), e)) :: restB c b
def moreR (c : Cs) (b e f : Int) : List Ar := (b, (("short" : Str), f)) :: (f, (("long" : Str), e)) :: restB c b
section
variable {ns : List Str} {c : Cs} {b e : Int}
theorem mem_restB {q : Ar} : q ∈ restB c b ↔ q ∈ c.2 ∧ q.1 ≠ b := by
  unfold restB
  rw [List.mem_filter, decide_eq_true_eq]
theorem key_b (bnd : (c.2.map fun q => q.1).Nodup) (hb : (b, (("long" : Str), e)) ∈ c.2) {q : Ar} (m : q ∈ c.2) (h : q.1 = b) : q = (b, (("long" : Str), e)) := by
  have h1 := mem_getA (l := c.2) bnd (show (q.1, q.2) ∈ c.2 from m)
  have h2 := mem_getA (l := c.2) bnd (show (b, (("long" : Str), e)) ∈ c.2 from hb)
  rw [h, h2] at h1
  exact Prod.ext h (Option.some.inj h1).symm
theorem perm_b (bnd : (c.2.map fun q => q.1).Nodup) (hb : (b, (("long" : Str), e)) ∈ c.2) : c.2.Perm ((b, (("long" : Str), e)) :: restB c b) := by
  refine (List.perm_ext_iff_of_nodup (ar_nodup bnd) (List.nodup_cons.mpr ⟨fun m => (mem_restB.mp m).2 rfl, (ar_nodup bnd).sublist List.filter_sublist⟩)).mpr fun q => ?_
  rw [List.mem_cons, mem_restB]
  exact ⟨fun m => (Classical.em (q.1 = b)).elim (fun h => .inl (key_b bnd hb m h)) fun h => .inr ⟨m, h⟩, fun h => h.elim (fun h => by rw [h]; exact hb) fun h => h.1⟩
theorem in_toW {rs : List Ar} {z : Ar} (m : z ∈ rs) : ((z.1, ((0 : Addr), z.2)) : Int × Wy) ∈ toW rs := List.mem_map.mpr ⟨z, m, rfl⟩
theorem ends_in {lot : Int → List Str} {ws : Ws} {bs : List Int} {c' : Cs} (hc : numL lot ws bs = some c') (nd : (keysA ws).Nodup) (k0 : ¬ (0 : Int) ∈ keysA ws) : ∀ q ∈ ws, q.2.2.2 ∈ orderF ws bs (0 :: bs) := fun q m => by
  unfold numL at hc
  split at hc
  case isFalse => cases hc
  rename_i hall
  have := orderF_closed (ws := ws) (bs := bs) k0 _ (hall _ (List.mem_map.mpr ⟨q, m, rfl⟩)) (List.mem_map.mpr ⟨q, m, rfl⟩)
  rw [endW_of (mem_getA nd m)] at this
  exact this
theorem beg0 (c : Cs) : ((0 : Int) :: begC c).Nodup := List.nodup_cons.mpr ⟨fun m => (((begC_ok c).mem 0).mp m).1 rfl, (begC_ok c).nd⟩
/-- the spots of c are met again -/
theorem spots_in (M : Met c) {ws : Ws} {c' : Cs} (hc : numL (lotC c) ws (begC c) = some c') (nd : (keysA ws).Nodup) (k0 : ¬ (0 : Int) ∈ keysA ws) (he : ∀ q ∈ c.2, ∃ z ∈ ws, z.2.2.2 = q.2.2) : ∀ i : Int, 0 ≤ i → i < c.1.length → i ∈ orderF ws (begC c) (0 :: begC c) := fun i i0 i1 => by
  obtain ⟨t, et⟩ := orderF_pre ws (begC c) (0 :: begC c)
  by_cases z : i = 0
  · rw [et, z]
    exact List.mem_append_left _ List.mem_cons_self
  · by_cases l : lotC c i = []
    · obtain ⟨q, mq, e⟩ := M i (by omega) i1 l
      obtain ⟨y, my, ey⟩ := he q mq
      rw [← e, ← ey]
      exact ends_in hc nd k0 y my
    · rw [et]
      exact List.mem_append_left _ (List.mem_cons_of_mem _ (((begC_ok c).mem i).mpr ⟨z, l⟩))
theorem one_keys (bnd : (c.2.map fun q => q.1).Nodup) (hb : (b, (("long" : Str), e)) ∈ c.2) : (keysA (toW (oneR c b e))).Nodup ∧ (oneR c b e).length = c.2.length := by
  have p := perm_b bnd hb
  refine ⟨?_, by rw [p.length_eq]; rfl⟩
  rw [toW_keys]
  exact (p.map fun q => q.1).nodup_iff.mp bnd
theorem more_keys (N : CaseN ns c) (hb : (b, (("long" : Str), e)) ∈ c.2) {f : Int} (hf : f = c.1.length) : (keysA (toW (moreR c b e f))).Nodup ∧ (moreR c b e f).length = c.2.length + 1 := by
  have bnd := N.ok.bnd
  have p := perm_b bnd hb
  refine ⟨?_, by rw [p.length_eq]; rfl⟩
  rw [toW_keys]
  have n1 := (p.map fun q => q.1).nodup_iff.mp bnd
  have n1 : (b :: (restB c b).map fun q => q.1).Nodup := n1
  have lt : ∀ q ∈ c.2, q.1 ≠ f := fun q m => by
    have := ar_in N m
    omega
  show (b :: f :: (restB c b).map fun q => q.1).Nodup
  refine List.nodup_cons.mpr ⟨fun m => ?_, List.nodup_cons.mpr ⟨fun m => ?_, (List.nodup_cons.mp n1).2⟩⟩
  · rcases List.mem_cons.mp m with z | m
    · exact lt _ hb z
    · exact (List.nodup_cons.mp n1).1 m
  · obtain ⟨q, mq, z⟩ := List.mem_map.mp m
    exact lt q (mem_restB.mp mq).1 z
theorem one_num (N : CaseN ns c) (O : NsOk ns) (hb : (b, (("long" : Str), e)) ∈ c.2) : ∃ c1, numL (lotC c) (toW (oneR c b e)) (begC c) = some c1 ∧ CaseN ns c1 := by
  have bnd := N.ok.bnd
  obtain ⟨ndw, lw⟩ := one_keys bnd hb
  have mw : ∀ q ∈ toW (oneR c b e), ∃ k, (q.1, (k, q.2.2.2)) ∈ c.2 ∧ (q.2.2.1 = "short" ∨ k = q.2.2.1) := fun q m => by
    rcases List.mem_cons.mp (mem_toW m) with h | h
    · have e1 : q.1 = b := congrArg (fun q : Ar => q.1) h
      have e2 : q.2.2.1 = "short" := congrArg (fun q : Ar => q.2.1) h
      have e3 : q.2.2.2 = e := congrArg (fun q : Ar => q.2.2) h
      exact ⟨"long", by rw [e1, e3]; exact hb, .inl e2⟩
    · exact ⟨q.2.2.1, (mem_restB.mp h).1, .inr rfl⟩
  have wok : WaysOk (toW (oneR c b e)) := by
    refine ⟨ndw, fun q m => ?_, fun q m => ?_, fun q m => ?_, ?_⟩
    · obtain ⟨k, h, _⟩ := mw q m
      exact N.pos0 _ h
    · obtain ⟨k, h, _⟩ := mw q m
      exact (ar_in N h).2.2.1
    · obtain ⟨k, h, h2⟩ := mw q m
      rcases h2 with h2 | h2
      · exact .inl h2
      · rw [h2] at h
        exact N.kind _ h
    · have := N.ok.alen
      have l2 : (toW (oneR c b e)).length = (oneR c b e).length := List.length_map _
      omega
  have k0 : ¬ (0 : Int) ∈ keysA (toW (oneR c b e)) := fun m => by
    obtain ⟨q, mq, z⟩ := List.mem_map.mp m
    have := wok.pos q mq
    omega
  have hok := hmC_ok (c := c) O.nd O.nn
  have ho := hok.ok O.nd O.nn
  have py : (("nil" : Str) :: ns).Perm (keysA (hmC ns c)) := ho.keys.symm
  have up0 := up_ns O.nn O.up
  have el := hok.lot N O.nd O.nn py up0
  have bg := begC_ok c
  have bg2 : Begins ("nil" :: ns) (hmC ns c) (begC c) := ⟨bg.nd, by rw [el]; exact bg.mem, by rw [el]; exact bg.srt⟩
  have reach : ∀ S : Int → Prop, (∀ x ∈ begC c, S x) → (∀ q ∈ toW (oneR c b e), S q.1 → S q.2.2.2) → ∀ q ∈ toW (oneR c b e), S q.1 := fun S h1 h2 => by
    have old := N.reach S (fun i l i0 hl ne => h1 _ ((bg.mem _).mpr ⟨by omega, by rw [lotC_at hl]; exact ne⟩)) (fun q mq hq => by
      by_cases q1 : q.1 = b
      · have eq := key_b bnd hb mq q1
        rw [eq]
        rw [q1] at hq
        exact h2 _ (in_toW (z := (b, (("short" : Str), e))) List.mem_cons_self) hq
      · exact h2 _ (in_toW (List.mem_cons_of_mem _ (mem_restB.mpr ⟨mq, q1⟩))) hq)
    intro q mq
    obtain ⟨k, h, _⟩ := mw q mq
    exact old _ h
  obtain ⟨c', hc'⟩ := numF_some (ys := "nil" :: ns) (hm := hmC ns c) ndw k0 reach
  refine ⟨c', by rw [← el, ← numF_L]; exact hc', case_n O.nd O.nn O.ln ⟨"nil" :: ns, hmC ns c, _, _, ho, wok, py, up0, bg2, hc'⟩⟩
theorem more_num (N : CaseN ns c) (O : NsOk ns) (hb : (b, (("long" : Str), e)) ∈ c.2) {f : Int} (hf : f = c.1.length) (l39 : c.2.length ≤ 39) : ∃ c2, numL (lotC c) (toW (moreR c b e f)) (begC c) = some c2 ∧ CaseN ns c2 := by
  obtain ⟨ndw, lw⟩ := more_keys N hb hf
  have hok := hmC_ok (c := c) O.nd O.nn
  have ho := hok.ok O.nd O.nn
  have py : (("nil" : Str) :: ns).Perm (keysA (hmC ns c)) := ho.keys.symm
  have up0 := up_ns O.nn O.up
  have el := hok.lot N O.nd O.nn py up0
  have bg := begC_ok c
  have bg2 : Begins ("nil" :: ns) (hmC ns c) (begC c) := ⟨bg.nd, by rw [el]; exact bg.mem, by rw [el]; exact bg.srt⟩
  have l2 : (toW (moreR c b e f)).length = (moreR c b e f).length := List.length_map _
  have be := ar_in N hb
  obtain ⟨c', hc', N'⟩ := open_ok N O hok py up0 bg2 (ws := toW (moreR c b e f)) (b := b) (f := f) (e := e) ndw (by omega) (by have := N.ok.pos; omega) (by have : e < c.1.length := be.2.2.2; omega) hb (fun q m => by
    rcases List.mem_cons.mp (mem_toW m) with h | h
    · exact .inr (.inl ⟨congrArg (fun q : Ar => q.1) h, congrArg (fun q : Ar => q.2.1) h, congrArg (fun q : Ar => q.2.2) h⟩)
    · rcases List.mem_cons.mp h with h | h
      · exact .inr (.inr ⟨congrArg (fun q : Ar => q.1) h, congrArg (fun q : Ar => q.2.1) h, congrArg (fun q : Ar => q.2.2) h⟩)
      · exact .inl (mem_restB.mp h)) (fun q m hq => ⟨_, in_toW (List.mem_cons_of_mem _ (List.mem_cons_of_mem _ (mem_restB.mpr ⟨m, hq⟩))), rfl⟩) ⟨_, in_toW (z := (b, (("short" : Str), f))) List.mem_cons_self, rfl⟩ ⟨_, in_toW (z := (f, (("long" : Str), e))) (List.mem_cons_of_mem _ List.mem_cons_self), rfl⟩
  exact ⟨c', by rw [← el, ← numF_L]; exact hc', N'⟩
theorem one_zero (N : CaseN ns c) (hb : (b, (("long" : Str), e)) ∈ c.2) : ¬ (0 : Int) ∈ keysA (toW (oneR c b e)) := fun m => by
  obtain ⟨q, mq, z⟩ := List.mem_map.mp m
  rcases List.mem_cons.mp (mem_toW mq) with h | h
  · have e1 : q.1 = b := congrArg (fun q : Ar => q.1) h
    have := (ar_in N hb).1
    omega
  · have := (ar_in N (mem_restB.mp h).1).1
    omega
theorem more_zero (N : CaseN ns c) (hb : (b, (("long" : Str), e)) ∈ c.2) {f : Int} (hf : f = c.1.length) : ¬ (0 : Int) ∈ keysA (toW (moreR c b e f)) := fun m => by
  obtain ⟨q, mq, z⟩ := List.mem_map.mp m
  have := N.ok.pos
  rcases List.mem_cons.mp (mem_toW mq) with h | h
  · have e1 : q.1 = b := congrArg (fun q : Ar => q.1) h
    have := (ar_in N hb).1
    omega
  · rcases List.mem_cons.mp h with h | h
    · have e1 : q.1 = f := congrArg (fun q : Ar => q.1) h
      omega
    · have := (ar_in N (mem_restB.mp h).1).1
      omega
theorem lot_name {i : Int} {n : Str} (mn : n ∈ lotC c i) : c.1[i.toNat]? = some (lotC c i) ∧ 0 ≤ i ∧ i < c.1.length := by
  have ne : lotC c i ≠ [] := fun e => by rw [e] at mn; exact absurd mn List.not_mem_nil
  obtain ⟨h0, h1, h2⟩ := lotC_out ne
  exact ⟨h2, h0, h1⟩
/-- a heap of the case with the short arrow is one of the case -/
theorem one_back (N : CaseN ns c) (M : Met c) (hb : (b, (("long" : Str), e)) ∈ c.2) {c1 : Cs} (hc : numL (lotC c) (toW (oneR c b e)) (begC c) = some c1) {S : List (Str × Int)} {X : List (Int × Int)} (h : EmbC c1 S X) : EmbC c S X := by
  have bnd := N.ok.bnd
  have ndw := (one_keys bnd hb).1
  have k0 := one_zero N hb
  obtain ⟨V, D, E⟩ := emb_back hc ndw k0 h
  have hin := spots_in M hc ndw k0 (fun q m => by
    by_cases q1 : q.1 = b
    · rw [key_b bnd hb m q1]
      exact ⟨_, in_toW (z := (b, (("short" : Str), e))) List.mem_cons_self, rfl⟩
    · exact ⟨_, in_toW (List.mem_cons_of_mem _ (mem_restB.mpr ⟨m, q1⟩)), rfl⟩)
  have at_ : ∀ q ∈ c.2, ∃ z ∈ toW (oneR c b e), z.1 = q.1 := fun q m => by
    by_cases q1 : q.1 = b
    · exact ⟨_, in_toW (z := (b, (("short" : Str), e))) List.mem_cons_self, q1.symm⟩
    · exact ⟨_, in_toW (List.mem_cons_of_mem _ (mem_restB.mpr ⟨m, q1⟩)), rfl⟩
  refine ⟨V, D, E.zero, fun i j i0 i1 j0 j1 => E.inj i (hin i i0 i1) j (hin j j0 j1), fun q m x mx i i0 i1 => ?_, fun i l hl n mn => ?_, fun q m hk => ?_, ?_⟩
  · obtain ⟨z, mz, ez⟩ := at_ q m
    exact E.apart z mz x (by rw [ez]; exact mx) i (hin i i0 i1)
  · have il := (List.getElem?_eq_some_iff.mp hl).1
    exact E.names _ (hin _ (by omega) (by omega)) n (by rw [lotC_at hl]; exact mn)
  · have q1 : q.1 ≠ b := fun z => hk (by rw [key_b bnd hb m z])
    exact E.short _ (in_toW (List.mem_cons_of_mem _ (mem_restB.mpr ⟨m, q1⟩))) hk
  · refine E.cells.trans ?_
    unfold toW
    rw [List.flatMap_map]
    exact ((perm_b bnd hb).flatMap_right (lnkA V D)).symm
theorem one_fore (N : CaseN ns c) (hb : (b, (("long" : Str), e)) ∈ c.2) {c1 : Cs} (hc : numL (lotC c) (toW (oneR c b e)) (begC c) = some c1) {S : List (Str × Int)} {X : List (Int × Int)} {V : Int → Int} {D : Int → List Int} (E : EmbV c S X V D) (h0 : D b = []) : EmbC c1 S X := by
  have bnd := N.ok.bnd
  have ndw := (one_keys bnd hb).1
  have k0 := one_zero N hb
  have bi := ar_in N hb
  have out := order_met (ws := toW (oneR c b e)) (bs := begC c) ndw (fun x => 0 ≤ x ∧ x < c.1.length) (fun x m => by
    have := lotC_out (((begC_ok c).mem x).mp m).2
    exact ⟨this.1, this.2.1⟩) (fun q m _ => by
    rcases List.mem_cons.mp (mem_toW m) with h | h
    · have e1 : q.2.2.2 = e := congrArg (fun q : Ar => q.2.2) h
      rw [e1]
      exact bi.2.2
    · exact (ar_in N (mem_restB.mp h).1).2.2)
  have out : ∀ i ∈ orderF (toW (oneR c b e)) (begC c) (0 :: begC c), 0 ≤ i ∧ i < c.1.length := fun i m => (out i m).elim (fun h => by have := N.ok.pos; omega) id
  have at_ : ∀ q ∈ toW (oneR c b e), ∃ z ∈ c.2, z.1 = q.1 := fun q m => by
    rcases List.mem_cons.mp (mem_toW m) with h | h
    · exact ⟨_, hb, (congrArg (fun q : Ar => q.1) h).symm⟩
    · exact ⟨_, (mem_restB.mp h).1, rfl⟩
  refine EmbW.num (V := V) (D := D) ⟨E.zero, fun i mi j mj => E.inj i j (out i mi).1 (out i mi).2 (out j mj).1 (out j mj).2, fun q m x mx i mi => ?_, fun s _ n mn => ?_, fun q m hk => ?_, ?_⟩ hc ndw k0 (beg0 c)
  · obtain ⟨z, mz, ez⟩ := at_ q m
    exact E.apart z mz x (by rw [ez]; exact mx) i (out i mi).1 (out i mi).2
  · obtain ⟨h1, h2, h3⟩ := lot_name mn
    have := E.names _ _ h1 n mn
    rw [this, show ((s.toNat : Nat) : Int) = s by omega]
  · rcases List.mem_cons.mp (mem_toW m) with h | h
    · rw [show q.1 = b from congrArg (fun q : Ar => q.1) h]
      exact h0
    · exact E.short _ (mem_restB.mp h).1 hk
  · refine E.cells.trans ?_
    unfold toW
    rw [List.flatMap_map]
    exact (perm_b bnd hb).flatMap_right (lnkA V D)
/-- a heap of the case with one lot more is one of the case -/
theorem more_back (N : CaseN ns c) (M : Met c) (hb : (b, (("long" : Str), e)) ∈ c.2) {f : Int} (hf : f = c.1.length) {c2 : Cs} (hc : numL (lotC c) (toW (moreR c b e f)) (begC c) = some c2) {S : List (Str × Int)} {X : List (Int × Int)} (h : EmbC c2 S X) : EmbC c S X := by
  have bnd := N.ok.bnd
  have ndw := (more_keys N hb hf).1
  have k0 := more_zero N hb hf
  obtain ⟨V, D, E⟩ := emb_back hc ndw k0 h
  have mb : (b, ((0 : Addr), (("short" : Str), f))) ∈ toW (moreR c b e f) := in_toW (z := (b, (("short" : Str), f))) List.mem_cons_self
  have mf : (f, ((0 : Addr), (("long" : Str), e))) ∈ toW (moreR c b e f) := in_toW (z := (f, (("long" : Str), e))) (List.mem_cons_of_mem _ List.mem_cons_self)
  have mr : ∀ q ∈ restB c b, (q.1, ((0 : Addr), q.2)) ∈ toW (moreR c b e f) := fun q m => in_toW (List.mem_cons_of_mem _ (List.mem_cons_of_mem _ m))
  have hin := spots_in M hc ndw k0 (fun q m => by
    by_cases q1 : q.1 = b
    · rw [key_b bnd hb m q1]
      exact ⟨_, mf, rfl⟩
    · exact ⟨_, mr _ (mem_restB.mpr ⟨m, q1⟩), rfl⟩)
  have fin := ends_in hc ndw k0 _ mb
  have db : D b = [] := E.short _ mb (show ¬ ("short" : Str) = "long" by decide)
  refine ⟨V, fun s => if s = b then V f :: D f else D s, E.zero, fun i j i0 i1 j0 j1 => E.inj i (hin i i0 i1) j (hin j j0 j1), fun q m x mx i i0 i1 => ?_, fun i l hl n mn => ?_, fun q m hk => ?_, ?_⟩
  · by_cases q1 : q.1 = b
    · have mx : x ∈ (if q.1 = b then V f :: D f else D q.1) := mx
      rw [if_pos q1] at mx
      rcases List.mem_cons.mp mx with z | mx
      · rw [z]
        intro h
        have : i = f := E.inj i (hin i i0 i1) f fin h
        omega
      · exact E.apart _ mf x mx i (hin i i0 i1)
    · have mx : x ∈ (if q.1 = b then V f :: D f else D q.1) := mx
      rw [if_neg q1] at mx
      exact E.apart _ (mr q (mem_restB.mpr ⟨m, q1⟩)) x mx i (hin i i0 i1)
  · have il := (List.getElem?_eq_some_iff.mp hl).1
    exact E.names _ (hin _ (by omega) (by omega)) n (by rw [lotC_at hl]; exact mn)
  · have q1 : q.1 ≠ b := fun z => hk (by rw [key_b bnd hb m z])
    show (if q.1 = b then V f :: D f else D q.1) = []
    rw [if_neg q1]
    exact E.short _ (mr q (mem_restB.mpr ⟨m, q1⟩)) hk
  · refine E.cells.trans ?_
    refine List.Perm.trans ?_ ((perm_b bnd hb).flatMap_right (lnkA V fun s => if s = b then V f :: D f else D s)).symm
    unfold toW
    rw [List.flatMap_map]
    unfold moreR
    rw [List.flatMap_cons, List.flatMap_cons, List.flatMap_cons]
    show (lnkR (V b) (D b) (V f) ++ (lnkR (V f) (D f) (V e) ++ (restB c b).flatMap fun q => lnkR (V q.1) (D q.1) (V q.2.2))).Perm (lnkR (V b) (if b = b then V f :: D f else D b) (V e) ++ (restB c b).flatMap (lnkA V fun s => if s = b then V f :: D f else D s))
    rw [db, if_pos rfl, show V f :: D f = [] ++ V f :: D f from rfl, lnkR_join, List.append_assoc]
    refine List.Perm.of_eq ?_
    congr 2
    refine flat_congr fun q m => ?_
    unfold lnkA
    show _ = lnkR (V q.1) (if q.1 = b then V f :: D f else D q.1) (V q.2.2)
    rw [if_neg (mem_restB.mp m).2]
theorem more_fore (N : CaseN ns c) (hb : (b, (("long" : Str), e)) ∈ c.2) {f : Int} (hf : f = c.1.length) {c2 : Cs} (hc : numL (lotC c) (toW (moreR c b e f)) (begC c) = some c2) {S : List (Str × Int)} {X : List (Int × Int)} (ndX : (keysA X).Nodup) {V : Int → Int} {D : Int → List Int} (E : EmbV c S X V D) {d : Int} {ds : List Int} (hd : D b = d :: ds) : EmbC c2 S X := by
  have bnd := N.ok.bnd
  have ndw := (more_keys N hb hf).1
  have k0 := more_zero N hb hf
  have bi := ar_in N hb
  have lt : ∀ q ∈ c.2, q.1 ≠ f ∧ q.2.2 ≠ f := fun q m => by
    have := ar_in N m
    omega
  have out := order_met (ws := toW (moreR c b e f)) (bs := begC c) ndw (fun x => x = f ∨ (0 ≤ x ∧ x < c.1.length)) (fun x m => by
    have := lotC_out (((begC_ok c).mem x).mp m).2
    exact .inr ⟨this.1, this.2.1⟩) (fun q m _ => by
    rcases List.mem_cons.mp (mem_toW m) with h | h
    · exact .inl (congrArg (fun q : Ar => q.2.2) h)
    · rcases List.mem_cons.mp h with h | h
      · have e1 : q.2.2.2 = e := congrArg (fun q : Ar => q.2.2) h
        rw [e1]
        exact .inr bi.2.2
      · exact .inr (ar_in N (mem_restB.mp h).1).2.2)
  have out : ∀ i ∈ orderF (toW (moreR c b e f)) (begC c) (0 :: begC c), i = f ∨ (0 ≤ i ∧ i < c.1.length) := fun i m => (out i m).elim (fun h => .inr (by have := N.ok.pos; omega)) id
  -- the cells: the chain of b, then the others
  have pc := E.cells.trans ((perm_b bnd hb).flatMap_right (lnkA V D))
  rw [List.flatMap_cons] at pc
  have el : lnkA V D (b, (("long" : Str), e)) = lnkR (V b) (d :: ds) (V e) := by
    unfold lnkA
    show lnkR (V b) (D b) (V e) = _
    rw [hd]
  rw [el] at pc
  have ndk : (keysA (lnkR (V b) (d :: ds) (V e) ++ (restB c b).flatMap (lnkA V D))).Nodup := (pc.map Prod.fst).nodup_iff.mp ndX
  unfold keysA at ndk
  rw [List.map_append] at ndk
  have ek : (lnkR (V b) (d :: ds) (V e)).map Prod.fst = V b :: d :: ds := lnkR_keys _ _ _
  rw [ek] at ndk
  obtain ⟨nd1, _, nd3⟩ := List.nodup_append.mp ndk
  have nds : ¬ d ∈ ds := (List.nodup_cons.mp (List.nodup_cons.mp nd1).2).1
  have dV : ∀ i : Int, 0 ≤ i → i < c.1.length → V i ≠ d := fun i i0 i1 => E.apart _ hb d (by show d ∈ D b; rw [hd]; exact List.mem_cons_self) i i0 i1
  have dR : ∀ q ∈ restB c b, ¬ d ∈ D q.1 := fun q m h => nd3 d (List.mem_cons_of_mem _ List.mem_cons_self) d (List.mem_map.mpr (by
    have : d ∈ keysA (lnkR (V q.1) (D q.1) (V q.2.2)) := by rw [lnkR_keys]; exact List.mem_cons_of_mem _ h
    obtain ⟨z, mz, ez⟩ := List.mem_map.mp this
    exact ⟨z, List.mem_flatMap.mpr ⟨q, m, mz⟩, ez⟩)) rfl
  have fb : f ≠ b := fun z => (lt _ hb).1 z.symm
  have Vf : (fun s => if s = f then d else V s) f = d := if_pos rfl
  have Vn : ∀ s, s ≠ f → (fun s => if s = f then d else V s) s = V s := fun s h => if_neg h
  have Db : (fun s => if s = b then [] else if s = f then ds else D s) b = [] := if_pos rfl
  have Df : (fun s => if s = b then [] else if s = f then ds else D s) f = ds := by show (if f = b then [] else if f = f then ds else D f) = ds; rw [if_neg fb, if_pos rfl]
  have Dn : ∀ s, s ≠ b → s ≠ f → (fun s => if s = b then [] else if s = f then ds else D s) s = D s := fun s h1 h2 => by show (if s = b then [] else if s = f then ds else D s) = D s; rw [if_neg h1, if_neg h2]
  generalize (fun s : Int => if s = f then d else V s) = V' at Vf Vn
  generalize (fun s : Int => if s = b then ([] : List Int) else if s = f then ds else D s) = D' at Db Df Dn
  have f0 : f ≠ 0 := fun z => by have := N.ok.pos; omega
  refine EmbW.num (V := V') (D := D') ⟨by rw [Vn 0 f0.symm]; exact E.zero, fun i mi j mj h => ?_, fun q m x mx i mi => ?_, fun s _ n mn => ?_, fun q m hk => ?_, ?_⟩ hc ndw k0 (beg0 c)
  · rcases out i mi with zi | ⟨i0, i1⟩
    · rcases out j mj with zj | ⟨j0, j1⟩
      · rw [zi, zj]
      · rw [zi, Vf, Vn j (by omega)] at h
        exact absurd h.symm (dV j j0 j1)
    · rcases out j mj with zj | ⟨j0, j1⟩
      · rw [zj, Vf, Vn i (by omega)] at h
        exact absurd h (dV i i0 i1)
      · rw [Vn i (by omega), Vn j (by omega)] at h
        exact E.inj i j i0 i1 j0 j1 h
  · rcases List.mem_cons.mp (mem_toW m) with h | h
    · rw [show q.1 = b from congrArg (fun q : Ar => q.1) h, Db] at mx
      exact absurd mx List.not_mem_nil
    · rcases List.mem_cons.mp h with h | h
      · rw [show q.1 = f from congrArg (fun q : Ar => q.1) h, Df] at mx
        rcases out i mi with zi | ⟨i0, i1⟩
        · rw [zi, Vf]
          exact fun z => nds (by rw [z]; exact mx)
        · rw [Vn i (by omega)]
          exact E.apart _ hb x (by show x ∈ D b; rw [hd]; exact List.mem_cons_of_mem _ mx) i i0 i1
      · have mq := (mem_restB.mp h).1
        rw [Dn q.1 (mem_restB.mp h).2 (lt _ mq).1] at mx
        rcases out i mi with zi | ⟨i0, i1⟩
        · rw [zi, Vf]
          exact fun z => dR _ h (by rw [z]; exact mx)
        · rw [Vn i (by omega)]
          exact E.apart _ mq x mx i i0 i1
  · obtain ⟨h1, h2, h3⟩ := lot_name mn
    have := E.names _ _ h1 n mn
    rw [this, show ((s.toNat : Nat) : Int) = s by omega, Vn s (by omega)]
  · rcases List.mem_cons.mp (mem_toW m) with h | h
    · rw [show q.1 = b from congrArg (fun q : Ar => q.1) h]
      exact Db
    · rcases List.mem_cons.mp h with h | h
      · exact absurd (congrArg (fun q : Ar => q.2.1) h) hk
      · rw [Dn q.1 (mem_restB.mp h).2 (lt _ (mem_restB.mp h).1).1]
        exact E.short _ (mem_restB.mp h).1 hk
  · refine pc.trans ?_
    unfold toW
    rw [List.flatMap_map]
    unfold moreR
    rw [List.flatMap_cons, List.flatMap_cons]
    show (lnkR (V b) (d :: ds) (V e) ++ (restB c b).flatMap (lnkA V D)).Perm (lnkR (V' b) (D' b) (V' f) ++ (lnkR (V' f) (D' f) (V' e) ++ (restB c b).flatMap fun q => lnkR (V' q.1) (D' q.1) (V' q.2.2)))
    rw [Db, Df, Vf, Vn b fb.symm, Vn e (lt _ hb).2.symm.symm, show d :: ds = [] ++ d :: ds from rfl, lnkR_join, List.append_assoc]
    refine List.Perm.of_eq ?_
    congr 2
    refine flat_congr fun q m => ?_
    have mq := (mem_restB.mp m).1
    unfold lnkA
    rw [Vn q.1 (lt _ mq).1, Vn q.2.2 (lt _ mq).2, Dn q.1 (mem_restB.mp m).2 (lt _ mq).1]
end
end L2.Hx

/-! Lots and arrows settled, as the program does it: what is gone. -/
namespace L2.Hx
open PySem PySem.Spec PyProof.Rows
section
variable {ks : List Int} {M : Int → Int}
theorem reachF_pre (a : Int) (S : List Int) : ∃ T, reachF ks M a S = S ++ T := by
  by_cases h2 : a ∈ ks ∧ ¬ a ∈ S
  · rw [reachF_on h2.1 h2.2]
    obtain ⟨T, e⟩ := reachF_pre (M a) (S ++ [a])
    exact ⟨[a] ++ T, by rw [e, List.append_assoc]⟩
  · rw [reachF_no h2]
    exact ⟨[], by rw [List.append_nil]⟩
termination_by msr ks S
decreasing_by exact msr_lt h2.1 h2.2
theorem rch_in {g : List Int} (c : Cld ks M g) {a x : Int} (r : Rch ks M a x) : a ∈ g → x ∈ g := by
  induction r with
  | here _ => exact id
  | step h r ih => exact fun m => ih (c _ m r.start)
theorem reach_split {g : List Int} (c : Cld ks M g) (a : Int) (S : List Int) : ∃ T U, reachF ks M a (g ++ S) = (g ++ S) ++ T ∧ reachF ks M a S = S ++ T ++ U ∧ ∀ x ∈ U, x ∈ g := by
  by_cases h1 : a ∈ ks
  · by_cases h2 : a ∈ S
    · refine ⟨[], [], ?_, ?_, fun x m => absurd m List.not_mem_nil⟩
      · rw [reachF_no (fun z => z.2 (List.mem_append_right _ h2)), List.append_nil]
      · rw [reachF_no (fun z => z.2 h2), List.append_nil, List.append_nil]
    · by_cases h3 : a ∈ g
      · obtain ⟨U, e⟩ := reachF_pre (ks := ks) (M := M) a S
        refine ⟨[], U, ?_, by rw [e, List.append_nil], fun x m => ?_⟩
        · rw [reachF_no (fun z => z.2 (List.mem_append_left _ h3)), List.append_nil]
        · -- what is new behind S is come to from a
          have q := reach_new a S x
          rw [e] at q
          exact rch_in c (q U rfl m) h3
      · have hn : ¬ a ∈ g ++ S := fun m => (List.mem_append.mp m).elim h3 h2
        obtain ⟨T, U, e1, e2, e3⟩ := reach_split c (M a) (S ++ [a])
        refine ⟨[a] ++ T, U, ?_, ?_, e3⟩
        · rw [reachF_on h1 hn, List.append_assoc, e1]
          simp
        · rw [reachF_on h1 h2, e2]
          simp
  · refine ⟨[], [], ?_, ?_, fun x m => absurd m List.not_mem_nil⟩
    · rw [reachF_no (fun z => h1 z.1), List.append_nil]
    · rw [reachF_no (fun z => h1 z.1), List.append_nil, List.append_nil]
termination_by msr ks S
decreasing_by exact msr_lt h1 h2
where
  reach_new (a : Int) (S : List Int) (x : Int) (U : List Int) (e : reachF ks M a S = S ++ U) (m : x ∈ U) : Rch ks M a x := by
    by_cases h2 : a ∈ ks ∧ ¬ a ∈ S
    · rw [reachF_on h2.1 h2.2] at e
      obtain ⟨T, e2⟩ := reachF_pre (ks := ks) (M := M) (M a) (S ++ [a])
      have eU : U = [a] ++ T := by
        rw [e2, List.append_assoc] at e
        exact (List.append_cancel_left e).symm
      rw [eU] at m
      rcases List.mem_cons.mp m with e | m
      · rw [e]
        exact .here h2.1
      · exact .step h2.1 (reach_new (M a) (S ++ [a]) x T e2 m)
    · rw [reachF_no h2] at e
      have : U = [] := by
        have := congrArg List.length e
        rw [List.length_append] at this
        exact List.length_eq_zero_iff.mp (by omega)
      rw [this] at m
      exact absurd m List.not_mem_nil
  termination_by msr ks S
  decreasing_by exact msr_lt h2.1 h2.2
structure GoneI (ks : List Int) (M : Int → Int) (bsd base od g : List Int) : Prop where
  once : Once ks g
  cld : Cld ks M g
  img : ∀ k ∈ g, M k ∈ od
  sub : ∀ k ∈ g, k ∈ od
  done : ∀ b ∈ bsd, b ∈ ks → b ∈ g
  from_ : ∀ x ∈ od, x ∈ base ∨ ∃ k ∈ g, x = M k
theorem addAll_in : ∀ (more o : List Int), (∀ x ∈ more, x ∈ o) → addAll o more = o
  | [], o, _ => rfl
  | e :: more, o, h => by
    show addAll (if e ∈ o then o else o ++ [e]) more = o
    rw [if_pos (h e List.mem_cons_self)]
    exact addAll_in more o fun x m => h x (List.mem_cons_of_mem _ m)
theorem addAll_app (o m1 m2 : List Int) : addAll o (m1 ++ m2) = addAll (addAll o m1) m2 := by
  unfold addAll
  rw [List.foldl_append]
theorem gone_next {bsd base od g : List Int} {b : Int} (G : GoneI ks M bsd base od g) (hb : b ∈ base) (hbo : ∀ x ∈ base, x ∈ od) {T : List Int} (e : reachF ks M b g = g ++ T) :
    GoneI ks M (bsd ++ [b]) base (addAll od (T.map M)) (g ++ T) ∧ addAll od ((reachF ks M b []).map M) = addAll od (T.map M) := by
  have ra := reach_all (ks := ks) (M := M) b g (fun k m hk => .inl (G.cld k m hk))
  rw [e] at ra
  have on := reachF_once (ks := ks) (M := M) b g G.once
  rw [e] at on
  have inI : ∀ k ∈ g ++ T, M k ∈ addAll od (T.map M) := fun k m => (mem_addAll _ _).mpr ((List.mem_append.mp m).elim (fun m => .inl (G.img k m)) fun m => .inr (List.mem_map.mpr ⟨k, m, rfl⟩))
  refine ⟨⟨on, ra.1, inI, fun k m => ?_, fun x m hk => ?_, fun x m => ?_⟩, ?_⟩
  · rcases List.mem_append.mp m with m | m
    · exact (mem_addAll _ _).mpr (.inl (G.sub k m))
    · -- a step of the road: b itself, or the end of one before
      have r := reach_split.reach_new b g k T e m
      exact road_in (fun x mx => (mem_addAll _ _).mpr (.inl (hbo x mx))) inI ra.1 hb (ra.2.2.1 r.start) r
  · rcases List.mem_append.mp m with m | m
    · exact List.mem_append_left _ (G.done x m hk)
    · rw [List.mem_singleton.mp m] at hk ⊢
      exact ra.2.2.1 hk
  · rcases (mem_addAll _ _).mp m with m | m
    · exact (G.from_ x m).imp id fun ⟨k, mk, ek⟩ => ⟨k, List.mem_append_left _ mk, ek⟩
    · obtain ⟨k, mk, rfl⟩ := List.mem_map.mp m
      exact .inr ⟨k, List.mem_append_right _ mk, rfl⟩
  · obtain ⟨T', U, e1, e2, e3⟩ := reach_split G.cld b []
    rw [List.append_nil] at e1
    have eT : T' = T := List.append_cancel_left (e1.symm.trans e)
    rw [e2, List.nil_append, eT, List.map_append, addAll_app]
    exact addAll_in _ _ fun x m => by
      obtain ⟨k, mk, rfl⟩ := List.mem_map.mp m
      exact inI k (List.mem_append_left _ (e3 k mk))
where
  road_in {od2 g2 base : List Int} {a x : Int} (h0 : ∀ x ∈ base, x ∈ od2) (hI : ∀ k ∈ g2, M k ∈ od2) (c : Cld ks M g2) (ha : a ∈ base) (hg : a ∈ g2) (r : Rch ks M a x) : x ∈ od2 := by
    have go : ∀ {a x : Int}, Rch ks M a x → a ∈ g2 → a ∈ od2 → x ∈ od2 := fun {a x} r => by
      induction r with
      | here _ => exact fun _ h => h
      | step h r ih => exact fun m _ => ih (c _ m r.start) (hI _ m)
    exact go r hg (h0 a ha)
theorem gone_end {bs od g : List Int} (G : GoneI ks M bs (0 :: bs) od g) (h0 : ¬ (0 : Int) ∈ ks) (nd : ks.Nodup) : (∀ k ∈ ks, k ∈ od) ↔ ¬ g.length < ks.length := by
  have key : ∀ k ∈ ks, k ∈ od ↔ k ∈ g := fun k hk => ⟨fun m => by
    rcases G.from_ k m with m | ⟨z, mz, rfl⟩
    · rcases List.mem_cons.mp m with e | m
      · rw [e] at hk
        exact absurd hk h0
      · exact G.done k m hk
    · exact G.cld z mz hk, fun m => G.sub k m⟩
  constructor
  · intro h lt
    have := once_len (T := ks) (ks := g) ⟨nd, fun x m => (key x m).mp (h x m)⟩
    omega
  · intro h k hk
    refine (key k hk).mpr (Classical.byContradiction fun n => h ?_)
    have := once_len (T := k :: g) (ks := ks) ⟨List.nodup_cons.mpr ⟨n, G.once.1⟩, fun x m => (List.mem_cons.mp m).elim (fun e => by rw [e]; exact hk) (G.once.2 x)⟩
    rw [List.length_cons] at this
    omega
end
def spLeads (K : PySem.W.Frag) : Sp := fun vs H Q _ => ∃ (b : Addr) (as : List V) (ars : List Ar) (G : Hp), vs = [.ref b] ∧ Same G H ∧ SqT K G b as ∧ DaAll K G as (ars.map arD) ∧ (ars.map fun q => q.1).Nodup ∧ ars.length ≤ 60 ∧
  ∀ (d : Addr) (ws : Ws) (H' : Hp), Same H H' → H d = none → H' d = some (.dK (kvK Sum.inl wyV ws)) → ws.map tailW = ars → (∀ q ∈ ws, H q.2.1 = none ∧ H' q.2.1 = some (.tup [.str q.2.2.1, .int q.2.2.2])) → Q (.ref d) H'
theorem put_new {κ α : Type} [DecidableEq κ] {l : List (κ × α)} {k : κ} {v : α} (h : ¬ k ∈ keysA l) : putA l k v = l ++ [(k, v)] := by
  unfold putA
  rw [if_neg h]
theorem fst_new {α : Type} {l : List (Int × α)} {i : Nat} {q : Int × α} (nd : (l.map fun q => q.1).Nodup) (h : l[i]? = some q) : ¬ q.1 ∈ (l.take i).map fun q => q.1 := by
  have tk : l.take (i + 1) = l.take i ++ [q] := by rw [List.take_add_one, h]; rfl
  have n2 : ((l.take (i + 1)).map fun q => q.1).Nodup := ((List.take_sublist (i + 1) l).map _).nodup nd
  rw [tk, List.map_append] at n2
  exact fun m => (List.nodup_append.mp n2).2.2 _ m q.1 (by simp) rfl
section
variable {P : Program} {w : World} {K : PySem.W.Frag} {mg : Str → Option Value} {base : Heap}
theorem D_leads_of (T : Txt K mg) : Df P w K mg base 1 "leads_of" ["arrows"] (spLeads K) := by
  obtain ⟨f, fd, S⟩ := T.d_leads_of
  refine Df.mk' (k := 0) S sc_leads_of (fun vs H Q E h => ?_) (fun cdv A outer s H vs Q E hgd hr h => ?_)
  · obtain ⟨b, as, ars, G, rfl, _⟩ := h
    rfl
  · obtain ⟨b, as, ars, G, rfl, sm, sb, das, bnd, al, k⟩ := h
    have hu := hu_of hr
    have big : (2000 : Nat) ≤ sizeLine := by decide
    refine ⟨_, (pss_one (ps_ret (pe_dc (X := (cxOf CX0 P w K mg base ["arrows", "begin", "kind", "end"] "leads_of" (defScope s_leads_of) f cdv A outer s H E).nox) (own := [("begin", 1), ("kind", 2), ("end", 3)]) (g := gTup K 3 (gCons (gName 1) (gCons (gName 2) (gCons (gName 3) gNil)))) (tt := tYes) rfl sc_leads_of.nd (pi_tup (pv 0)) (blkOk_by (own := [("begin", 1), ("kind", 2), ("end", 3)]) (N := ["arrows", "begin", "kind", "end"]) (sc := defScope s_leads_of) (by decide +kernel)) (fun _ _ _ _ _ => pg_tup rfl (pgs_cons (pg_name (i := 1) sc_leads_of.nd rfl (.inl rfl)) (pgs_cons (pg_name (i := 2) sc_leads_of.nd rfl (.inl rfl)) (pgs_cons (pg_name (i := 3) sc_leads_of.nd rfl (.inl rfl)) pgs_nil)))) (fun _ _ _ _ _ => pts_nil) (fun _ _ _ _ _ => (pv 1)) (fun _ _ _ _ _ => (pe_tup (pa_cons (pv 2) (pa_cons (pv 3) pa_nil))))))), ?_⟩
    have la : as.length = ars.length := by rw [das.length, List.length_map]
    refine ⟨_, rfl, b, rfl, ⟨_, sameT sm sb⟩, fun L hL => dc_tup (K := K) (a := b) (xs := as) (fun i Hx => Same H Hx ∧ ∃ ws : Ws, Hx L = some (.dK (kvK Sum.inl wyV ws)) ∧ ws.map tailW = ars.take i ∧ ∀ q ∈ ws, q.2.1 ≠ L ∧ H q.2.1 = none ∧ Hx q.2.1 = some (.tup [.str q.2.2.1, .int q.2.2.2]))
      ⟨sameAdd hL, [], upd_same, rfl, fun q m => absurd m List.not_mem_nil⟩ (fun i Hx _ h => sameT (sm.trans h.1) sb) ?_ ?_⟩
    · rintro i x Hx hx ⟨sx, ws, lx, ew, hw⟩
      obtain ⟨t, q, hq, rfl, sq⟩ := ar_at das hx
      have hi := (List.getElem?_eq_some_iff.mp hq).1
      have nk := fst_new bnd hq
      have tk : ars.take (i + 1) = ars.take i ++ [q] := by rw [List.take_add_one, hq]; rfl
      have kk : keysA ws = (ars.take i).map fun q => q.1 := by
        rw [← ew, List.map_map]
        rfl
      have lw : ws.length ≤ i := by
        have := congrArg List.length ew
        rw [List.length_map, List.length_take] at this
        omega
      refine ⟨t, _, rfl, sameT (sm.trans sx) sq, rfl, _, _, rfl, _, _, rfl, _, _, rfl, rfl, rfl, _, rfl, _, rfl, _, rfl, by show 2 ≤ sizeLine; decide, fun t1 ht1 => ?_⟩
      have n1 : t1 ≠ L := fun e => by rw [e, lx] at ht1; cases ht1
      have s1 := sx.trans (sameAdd (o := .tup [V.str q.2.1, .int q.2.2]) ht1)
      refine ⟨_, .inl q.1, rfl, sameAdd ht1 _ _ lx, by rw [kv_len]; omega, sameOut s1 hL, ws ++ [(q.1, t1, q.2)], ?_, by rw [List.map_append, ew, tk]; rfl, fun z m => ?_⟩
      · rw [upd_same, show (V.ref t1) = wyV (t1, q.2) from rfl, kv_put inl_inj, put_new (by rw [kk]; exact nk)]
      · rcases List.mem_append.mp m with m | m
        · obtain ⟨h1, h2, h3⟩ := hw z m
          exact ⟨h1, h2, by rw [upd_ne h1]; exact sameAdd ht1 _ _ h3⟩
        · rw [List.mem_singleton.mp m]
          exact ⟨n1, sx.free ht1, by show upd _ L _ t1 = _; rw [upd_ne n1, upd_same]⟩
    · rintro Hx ⟨sx, ws, lx, ew, hw⟩
      rw [la, List.take_length] at ew
      exact k L ws Hx sx hL lx ew fun q m => (hw q m).2
end
end L2.Hx

/-! Lots and arrows settled, as the program does it. -/
namespace L2.Hx
open PySem PySem.Spec PyProof.Rows
abbrev tTru (K : PySem.W.Frag) (t : TE) : TT := fun σ H Q => t σ H fun x H' => ∃ k, TruV K x H' k ∧ Q k H'
def spSettled (K : PySem.W.Frag) : Sp := fun vs H Q _ => ∃ (b d : Addr) (ls : List V) (c : Cs) (ws : Ws) (G : Hp), vs = [.ref b, .ref d] ∧ Same G H ∧ SqT K G b ls ∧ DaAll K G ls (c.1.map fun l => .tuple (l.map .str)) ∧ 0 < c.1.length ∧ c.1.length ≤ 60 ∧ H d = some (.dK (kvK Sum.inl wyV ws)) ∧ (∀ q ∈ ws, SqT K H q.2.1 [.str q.2.2.1, .int q.2.2.2]) ∧ (keysA ws).Nodup ∧ ws.length < 60 ∧ ¬ (0 : Int) ∈ keysA ws ∧
  (∀ q ∈ ws, 0 ≤ q.2.2.2 ∧ q.2.2.2 < c.1.length) ∧
  ∀ z H', Same H H' → ((numL (lotC c) ws (begC c) = none ∧ z = .non) ∨ ∃ c' r t o, z = .ref r ∧ H' r = some (.tup [.ref t, o]) ∧ numL (lotC c) ws (begC c) = some c' ∧ Da K H' (.ref t) (caseD c')) → Q z H'
theorem range_up (i : Nat) : ((List.range (i + 1)).map fun i : Nat => (i : Int)) = ((List.range i).map fun i : Nat => (i : Int)) ++ [(i : Int)] := by
  rw [List.range_succ, List.map_append]
  rfl
theorem lot_ks {c : Cs} (h : 0 < c.1.length) : (((List.range c.1.length).map fun i : Nat => (i : Int)).filter fun s => decide (lotC c s ≠ []) && decide (s ≠ 0)).Nodup ∧ ∀ s, s ∈ (((List.range c.1.length).map fun i : Nat => (i : Int)).filter fun s => decide (lotC c s ≠ []) && decide (s ≠ 0)) ↔ s ≠ 0 ∧ lotC c s ≠ [] := by
  have nd : ((List.range c.1.length).map fun i : Nat => (i : Int)).Nodup := by
    rw [List.nodup_iff_pairwise_ne, List.pairwise_map]
    exact (List.nodup_range).imp fun {a b} h e => h (by omega)
  refine ⟨nd.sublist List.filter_sublist, fun s => ?_⟩
  rw [List.mem_filter, Bool.and_eq_true, decide_eq_true_eq, decide_eq_true_eq]
  refine ⟨fun ⟨_, a, b⟩ => ⟨b, a⟩, fun ⟨a, b⟩ => ⟨?_, b, a⟩⟩
  obtain ⟨s0, s1, _⟩ := lotC_out b
  exact List.mem_map.mpr ⟨s.toNat, List.mem_range.mpr (by omega), by omega⟩
theorem pl_snoc (od : List Int) (x : Int) : pl (od ++ [x]) = pl od ++ [(x, (od.length : Int))] := by
  unfold pl
  rw [List.zipIdx_append, List.map_append]
  simp
def mk (T : List Int) : List (Int × Bool) := T.map fun k => (k, true)
theorem mk_keys (T : List Int) : keysA (mk T) = T := by
  unfold mk keysA
  rw [List.map_map]
  exact List.map_id'' (fun _ => rfl) T
theorem mk_snoc (T : List Int) (x : Int) : mk (T ++ [x]) = mk T ++ [(x, true)] := by
  unfold mk
  rw [List.map_append]
  rfl
section
variable {P : Program} {w : World} {K : PySem.W.Frag} {mg : Str → Option Value} {base : Heap}
theorem D_settled (T : Txt K mg) : Df P w K mg base 1 "settled" ["lots", "leads"] (spSettled K) := by
  obtain ⟨f, fd, S⟩ := T.d_settled
  refine Df.mk' (k := 0) S sc_settled (fun vs H Q E h => ?_) (fun cdv A outer s H vs Q E hgd hr h => ?_)
  · obtain ⟨b, d, ls, c, ws, G, rfl, _⟩ := h
    rfl
  · obtain ⟨b, d, ls, c, ws, G, rfl, sm, sb, dls, c0, c60, hd, hwt, ndW, lW, w0, wend, k⟩ := h
    have hu := hu_of hr
    have big : (2000 : Nat) ≤ sizeLine := by decide
    refine ⟨_, (pss_cons (ps_set (i := 2) sc_settled.nd rfl (.inl rfl) (pe_callB (cr_sortedT2 hr.units) (by rfl) T.b_sorted (by decide +kernel) (pa_cons (pe_lc (X := (cxOf CX0 P w K mg base ["lots", "leads", "rows", "spot", "lot", "named", "_", "order", "numbers", "number", "gone", "begin", "at", "arrows", "kind", "end"] "settled" (defScope s_settled) f cdv A outer s H E).nox) (own := [("spot", 3), ("lot", 4)]) (g := gTup K 2 (gCons (gName 3) (gCons (gName 4) gNil))) (tt := tAnd (tTru K (tVar 4)) (tTru K (tVar 3))) (te := tTup (tCons (tVar 4) (tCons (tVar 3) tNil))) rfl sc_settled.nd (pi_enumT rfl T.b_enumerate (pa_cons (pv 0) pa_nil)) (blkOk_by (own := [("spot", 3), ("lot", 4)]) (N := ["lots", "leads", "rows", "spot", "lot", "named", "_", "order", "numbers", "number", "gone", "begin", "at", "arrows", "kind", "end"]) (sc := defScope s_settled) (by decide +kernel)) (fun _ _ _ _ _ => pg_tup rfl (pgs_cons (pg_name (i := 3) sc_settled.nd rfl (.inl rfl)) (pgs_cons (pg_name (i := 4) sc_settled.nd rfl (.inl rfl)) pgs_nil))) (fun _ _ _ _ _ => (pts_one (PW.pt (pw_and (pt_truth (pv 4) (fun _ => rfl)) (pw_and1 (pt_truth (pv 3) (fun _ => rfl))))))) (fun _ _ _ _ _ => (pe_tup (pa_cons (pv 4) (pa_cons (pv 3) pa_nil))))) pa_nil)))
      (pss_cons (ps_setLc (i := 5) (X := (cxOf CX0 P w K mg base ["lots", "leads", "rows", "spot", "lot", "named", "_", "order", "numbers", "number", "gone", "begin", "at", "arrows", "kind", "end"] "settled" (defScope s_settled) f cdv A outer s H E).nox) (own := [("_", 6), ("spot", 3)]) (g := gTup K 2 (gCons (gName 6) (gCons (gName 3) gNil))) (tt := tYes) rfl sc_settled.nd rfl rfl (sw_true rfl rfl rfl (by decide +kernel)) (pi_list (pv 2)) (blkOk_by (own := [("_", 6), ("spot", 3)]) (N := ["lots", "leads", "rows", "spot", "lot", "named", "_", "order", "numbers", "number", "gone", "begin", "at", "arrows", "kind", "end"]) (sc := defScope s_settled) (by decide +kernel)) (fun _ _ _ _ _ => pg_tup rfl (pgs_cons (pg_name (i := 6) sc_settled.nd rfl (.inl rfl)) (pgs_cons (pg_name (i := 3) sc_settled.nd rfl (.inl rfl)) pgs_nil))) (fun _ _ _ _ _ => pts_nil) (fun _ _ _ _ _ => (pv 3)))
      (pss_cons (ps_set (i := 7) sc_settled.nd rfl (.inl rfl) (pe_op op_cat (pe_lst (pa_cons pe_int pa_nil)) (pv 5)))
      (pss_cons (ps_set (i := 8) sc_settled.nd rfl (.inr rfl) (pe_dc (X := (cxOf CX0 P w K mg base ["lots", "leads", "rows", "spot", "lot", "named", "_", "order", "numbers", "number", "gone", "begin", "at", "arrows", "kind", "end"] "settled" (defScope s_settled) f cdv A outer s H E).nox) (own := [("number", 9), ("spot", 3)]) (g := gTup K 2 (gCons (gName 9) (gCons (gName 3) gNil))) (tt := tYes) rfl sc_settled.nd (pi_enum rfl T.b_enumerate (pa_cons (pv 7) pa_nil)) (blkOk_by (own := [("number", 9), ("spot", 3)]) (N := ["lots", "leads", "rows", "spot", "lot", "named", "_", "order", "numbers", "number", "gone", "begin", "at", "arrows", "kind", "end"]) (sc := defScope s_settled) (by decide +kernel)) (fun _ _ _ _ _ => pg_tup rfl (pgs_cons (pg_name (i := 9) sc_settled.nd rfl (.inl rfl)) (pgs_cons (pg_name (i := 3) sc_settled.nd rfl (.inl rfl)) pgs_nil))) (fun _ _ _ _ _ => pts_nil) (fun _ _ _ _ _ => (pv 3)) (fun _ _ _ _ _ => (pv 9))))
      (pss_cons (ps_set (i := 10) sc_settled.nd rfl (.inl rfl) pe_dnewK)
      (pss_cons (ps_for PassesOwn.never rfl (pi_list (pv 5)) (pg_name (i := 11) sc_settled.nd rfl (.inl rfl))
      (pss_cons (ps_set (i := 12) sc_settled.nd rfl (.inl rfl) (pv 11))
      (pss_one (ps_while PassesOwn.never (PW.pt (pw_and (pt_cmp (pc_din hu (pv 12) (pv 1))) (pw_and1 (pt_cmp (pc_dnotin hu (pv 12) (pv 10)))))) (pss_cons (ps_dput hu (pv 10) (pv 12) pe_bl rfl)
      (pss_cons (ps_set (i := 12) sc_settled.nd rfl (.inl rfl) (pe_ix ix_tup (pe_dget hu (pv 1) (pv 12) (fun _ _ => rfl)) pe_int (fun _ _ => rfl)))
      (pss_one (ps_if (pt_cmp (pc_dnotin hu (pv 12) (pv 8))) (pss_cons (ps_dput hu (pv 8) (pv 12) (pe_callB call_len_seq (by rfl) T.b_len (by decide +kernel) (pa_cons (pv 7) pa_nil)) rfl)
      (pss_one (ps_expr (pe_bm PySem.F.plainAttrs_list PySem.F.slot_list_append PySem.F.type_list_append mt_append (pv 7) (pa_cons (pv 12) pa_nil))))) pss_nil))))))))
      (pss_cons (ps_if (pt_cmpR op_lt (pe_callB (call_lenD) (by rfl) T.b_len (by decide +kernel) (pa_cons (pv 10) pa_nil)) (pe_callB (call_lenD) (by rfl) T.b_len (by decide +kernel) (pa_cons (pv 1) pa_nil)) (nomark _)) (pss_one (ps_ret pe_non)) pss_nil)
      (pss_cons (ps_lock (ps_setLc (i := 13) (X := (cxOf CX0 P w K mg base ["lots", "leads", "rows", "spot", "lot", "named", "_", "order", "numbers", "number", "gone", "begin", "at", "arrows", "kind", "end"] "settled" (defScope s_settled) f cdv A outer s H E).nox) (own := [("spot", 3), ("kind", 14), ("end", 15)]) (g := gTup K 2 (gCons (gName 3) (gCons (gTup K 2 (gCons (gName 14) (gCons (gName 15) gNil))) gNil))) (tt := tYes) rfl sc_settled.nd rfl rfl (sw_true rfl rfl rfl (by decide +kernel)) (pi_items (pv 1)) (blkOk_by (own := [("spot", 3), ("kind", 14), ("end", 15)]) (N := ["lots", "leads", "rows", "spot", "lot", "named", "_", "order", "numbers", "number", "gone", "begin", "at", "arrows", "kind", "end"]) (sc := defScope s_settled) (by decide +kernel)) (fun _ _ _ _ _ => pg_tup rfl (pgs_cons (pg_name (i := 3) sc_settled.nd rfl (.inl rfl)) (pgs_cons (pg_tup rfl (pgs_cons (pg_name (i := 14) sc_settled.nd rfl (.inl rfl)) (pgs_cons (pg_name (i := 15) sc_settled.nd rfl (.inl rfl)) pgs_nil))) pgs_nil))) (fun _ _ _ _ _ => pts_nil) (fun _ _ _ _ _ => (pe_tup (pa_cons (pe_dget hu (pv 8) (pv 3) (fun _ _ => rfl)) (pa_cons (pv 14) (pa_cons (pe_dget hu (pv 8) (pv 15) (fun _ _ => rfl)) pa_nil)))))))
      (pss_one (ps_ret (pe_tup (pa_cons (pe_tup (pa_cons (pe_callTy call_tuple_of (by rfl) T.b_tuple (by decide +kernel) (pa_cons (pe_lc (X := (cxOf CX0 P w K mg base ["lots", "leads", "rows", "spot", "lot", "named", "_", "order", "numbers", "number", "gone", "begin", "at", "arrows", "kind", "end"] "settled" (defScope s_settled) f cdv A outer s H E).nox) (own := [("spot", 3)]) (te := tOp (rIxT K) (tVar 0) (tVar 3)) (g := gName 3) (tt := tYes) rfl sc_settled.nd (pi_list (pv 7)) (blkOk_by (own := [("spot", 3)]) (N := ["lots", "leads", "rows", "spot", "lot", "named", "_", "order", "numbers", "number", "gone", "begin", "at", "arrows", "kind", "end"]) (sc := defScope s_settled) (by decide +kernel)) (fun _ _ _ _ _ => pg_name (i := 3) sc_settled.nd rfl (.inl rfl)) (fun _ _ _ _ _ => pts_nil) (fun _ _ _ _ _ => (pe_ix ix_tup (pv 0) (pv 3) (fun _ _ => rfl)))) pa_nil)) (pa_cons (pe_callTy call_tuple_of (by rfl) T.b_tuple (by decide +kernel) (pa_cons (pe_callB (cr_sortedT2 hr.units) (by rfl) T.b_sorted (by decide +kernel) (pa_cons (pv 13) pa_nil)) pa_nil)) pa_nil))) (pa_cons (pv 7) pa_nil))))))))))))), ?_⟩
    have lls : ls.length = c.1.length := by rw [dls.length, List.length_map]
    refine ⟨_, rfl, b, ls, rfl, sameT sm sb, fun L hL => lc_it (walk_enumT (K := K) (a := b) (xs := ls)) (fun i Hx => Same H Hx ∧ ∃ ts : List Addr, Hx L = some (.lst (ts.map V.ref)) ∧ Paired (fun (t : Addr) (s : Int) => ∃ a, t ≠ L ∧ Hx t = some (.tup [.ref a, .int s]) ∧ SqT K G a ((lotC c s).map V.str)) ts (((List.range i).map fun i : Nat => (i : Int)).filter fun s => decide (lotC c s ≠ []) && decide (s ≠ 0)))
      ⟨sameAdd hL, [], upd_same, .nil⟩ (fun i Hx _ h => sameT (sm.trans h.1) sb) ?_ ?_⟩
    · rintro i x Hx Hx' hi ⟨sx, ts, lx, px⟩ ⟨T', a1, v, rfl, hT, rfl, e1, e2⟩
      obtain rfl : a1 = V.int (i : Int) := (Option.some.inj e1).symm
      obtain ⟨a, l, hl, rfl, sl⟩ := da_lot dls e2
      have el := lotC_at hl
      have s1 := sx.trans (sameAdd (o := .tup [V.int (i : Int), V.ref a]) hT)
      have lx1 := sameAdd (o := .tup [V.int (i : Int), V.ref a]) hT _ _ lx
      have px1 := paired_mpL px fun t s ⟨a', n1, n2, n3⟩ => show ∃ a', t ≠ L ∧ (upd Hx T' (.tup [V.int (i : Int), V.ref a])) t = some (HO.tup [.ref a', .int s]) ∧ SqT K G a' ((lotC c s).map V.str) from ⟨a', n1, sameAdd hT _ _ n2, n3⟩
      have T1 : (upd Hx T' (.tup [V.int (i : Int), V.ref a])) T' = some (.tup [V.int (i : Int), V.ref a]) := upd_same
      generalize upd Hx T' (.tup [V.int (i : Int), V.ref a]) = Hy at s1 lx1 px1 T1 ⊢
      clear lx px sx hT
      have lt : ts.length ≤ 60 := by
        have := Paired.length px1
        have h2 := List.length_filter_le (fun s => decide (lotC c s ≠ []) && decide (s ≠ 0)) ((List.range i).map fun i : Nat => (i : Int))
        rw [List.length_map, List.length_range] at h2
        omega
      refine ⟨T', _, rfl, SqT.of T1, rfl, _, _, rfl, _, _, rfl, rfl, rfl, ?_⟩
      have skip : ¬ (lotC c (i : Int) ≠ [] ∧ (i : Int) ≠ 0) → Same H Hy ∧ ∃ ts : List Addr, Hy L = some (.lst (ts.map V.ref)) ∧ Paired (fun (t : Addr) (s : Int) => ∃ a, t ≠ L ∧ Hy t = some (.tup [.ref a, .int s]) ∧ SqT K G a ((lotC c s).map V.str)) ts (((List.range (i + 1)).map fun i : Nat => (i : Int)).filter fun s => decide (lotC c s ≠ []) && decide (s ≠ 0)) := fun h => by
        refine ⟨s1, ts, lx1, ?_⟩
        rw [range_up, List.filter_append, List.filter_cons_of_neg (by rw [Bool.and_eq_true, decide_eq_true_eq, decide_eq_true_eq]; exact h), List.filter_nil, List.append_nil]
        exact px1
      refine ⟨_, rfl, !(l.map V.str).isEmpty, .inr (.inl ⟨_, sameT (sm.trans s1) sl, rfl⟩), iteB (fun h1 => ⟨_, rfl, ((i : Int) != 0), rfl, iteB (fun h2 => ?_) fun h2 => skip fun z => ?_⟩) fun h1 => if_no rfl (skip fun z => ?_)⟩
      · refine ⟨_, rfl, _, rfl, by show 2 ≤ sizeLine; decide, fun t ht => ?_⟩
        have nt : t ≠ L := fun e => by rw [e, lx1] at ht; cases ht
        refine ⟨_, sameAdd ht _ _ lx1, by rw [List.length_map]; omega, sameOut (s1.trans (sameAdd ht)) hL, ts ++ [t], by rw [upd_same, List.map_append]; rfl, ?_⟩
        rw [range_up, List.filter_append, List.filter_cons_of_pos (by
          rw [Bool.and_eq_true, decide_eq_true_eq, decide_eq_true_eq, el]
          refine ⟨fun z => ?_, fun z => ?_⟩
          · rw [z] at h1
            cases h1
          · rw [z] at h2
            cases h2), List.filter_nil]
        refine paired_snoc (paired_mpL px1 fun t' s ⟨a', n1, n2, n3⟩ => ⟨a', n1, by rw [upd_ne n1]; exact sameAdd ht _ _ n2, n3⟩) ⟨a, nt, by rw [upd_ne nt, upd_same], by rw [el]; exact sl⟩
      · exact z.2 (by simpa using h2)
      · rw [el] at z
        refine z.1 ?_
        cases l with
        | nil => rfl
        | cons n l => cases h1
    · rintro Hx ⟨sx, ts, lx, px⟩
      rw [lls] at px
      obtain ⟨ndk, memk⟩ := lot_ks c0
      have lk := List.length_filter_le (fun s => decide (lotC c s ≠ []) && decide (s ≠ 0)) ((List.range c.1.length).map fun i : Nat => (i : Int))
      rw [List.length_map, List.length_range] at lk
      generalize (((List.range c.1.length).map fun i : Nat => (i : Int)).filter fun s => decide (lotC c s ≠ []) && decide (s ≠ 0)) = ks at px ndk memk lk
      have sgx := sm.trans sx
      refine ⟨L, ts.map V.ref, List Str × Int, ks.map fun s => (lotC c s, s), encB, fun x b => ∃ t a, x = V.ref t ∧ SqT K Hx t [.ref a, .int b.2], rfl, SqL.of lx, fun x m => ?_, ?_, ?_, ?_, ?_, ?_, fun zs p2 pz prz hp2 => ?_⟩
      · obtain ⟨t, _, rfl⟩ := List.mem_map.mp m
        exact ⟨t, rfl⟩
      · exact paired_maps (fun t s ⟨a, _, h1, _⟩ => ⟨t, a, rfl, SqT.of h1⟩) px
      · exact paired_maps (fun t s ⟨a, _, h1, h2⟩ => .tup (SqT.of h1) (.cons (.tup (sameT sgx h2) (dp_strs _)) (.cons (.int _) .nil))) px
      · intro b b'
        simp [encB, PySem.W.alike, PySem.W.alikeAll, alike_strs]
      · exact fun b => ⟨_, _, rfl⟩
      · intro b _
        have := depth_strs b.1
        simp only [encB, PyData.depth, PyData.depthAll]
        omega
      · have beg0 := begL_of (lot := lotC c) ndk memk
        have eb : ((ks.map fun s => (lotC c s, s)).mergeSort (PySem.W.dataLe false encB)).map Prod.snd = begC c := beg0.uniq (begC_ok c)
        generalize (ks.map fun s => (lotC c s, s)).mergeSort (PySem.W.dataLe false encB) = BS at prz eb
        have lz : zs.length ≤ 60 := by
          have h1 := pz.length_eq
          rw [List.length_map, Paired.length px] at h1
          omega
        have lB : zs.length = BS.length := Paired.length prz
        have s2 := sx.trans (sameAdd (o := .lst zs) hp2)
        have sX : Same Hx (upd Hx p2 (.lst zs)) := sameAdd hp2
        have p2a : (upd Hx p2 (.lst zs)) p2 = some (.lst zs) := upd_same
        generalize upd Hx p2 (.lst zs) = H2 at s2 sX p2a ⊢
        clear px lx pz hp2 hL sgx beg0 ndk memk lk
        dsimp only [gName, List.set]
        refine ⟨_, rfl, p2, rfl, ⟨_, SqL.of p2a⟩, fun D hD => lc_list (K := K) (a := p2) (xs := zs) (fun i H7 => Same H2 H7 ∧ H7 D = some (.lst (((BS.take i).map Prod.snd).map V.int))) ⟨sameAdd hD, upd_same⟩ (fun i H7 _ h => SqL.of (h.1 _ _ p2a)) ?_ ?_⟩
        · rintro i x H7 hx ⟨s7, D7⟩
          obtain ⟨b, hb, t, a, rfl, tT⟩ := paired_at prz hx
          have tk : BS.take (i + 1) = BS.take i ++ [b] := by rw [List.take_add_one, hb]; rfl
          have hi := (List.getElem?_eq_some_iff.mp hx).1
          refine ⟨t, _, rfl, sameT (sX.trans s7) tT, rfl, _, _, rfl, _, _, rfl, rfl, ?_⟩
          refine ⟨rfl, _, rfl, _, D7, by rw [List.length_map, List.length_map, List.length_take]; omega, sameOut s7 hD, ?_⟩
          rw [upd_same, tk, List.map_append, List.map_append]
          rfl
        · rintro H7 ⟨s7, D7⟩
          rw [lB, List.take_length, eb] at D7
          have bg := begC_ok c
          have lbs : (begC c).length ≤ 60 := by
            rw [← eb, List.length_map, ← lB]
            exact lz
          have en : numL (lotC c) ws (begC c) = numL (lotC c) ws (begC c) := rfl
          have s07 := s2.trans s7
          have bin : ∀ x ∈ begC c, 0 ≤ x ∧ x < c.1.length := fun x m => by
            have := lotC_out ((bg.mem x).mp m).2
            exact ⟨this.1, this.2.1⟩
          generalize begC c = bs at D7 bg lbs k bin
          have D0 : H D = none := s2.free hD
          clear prz eb lB lz zs BS p2a sX s7 hD s2
          dsimp only [gName, List.set]
          refine ⟨by show 1 ≤ sizeLine; decide, fun L0 hL0 => ⟨_, rfl, L0, D, _, _, rfl, rfl, upd_same, sameAdd hL0 _ _ D7, by simp only [List.length_map, List.length_cons, List.length_nil]; omega, fun O hO => ?_⟩⟩
          have s8 := (s07.trans (sameAdd (o := .lst [V.int 0]) hL0)).trans (sameAdd (o := .lst ([V.int 0] ++ bs.map V.int)) hO)
          have D8 := sameAdd (o := .lst ([V.int 0] ++ bs.map V.int)) hO _ _ (sameAdd (o := .lst [V.int 0]) hL0 _ _ D7)
          have O8 : (upd (upd H7 L0 (.lst [V.int 0])) O (.lst ([V.int 0] ++ bs.map V.int))) O = some (.lst ((0 :: bs).map V.int)) := upd_same
          have O0 : H O = none := (s07.trans (sameAdd hL0)).free hO
          generalize upd (upd H7 L0 (.lst [V.int 0])) O (.lst ([V.int 0] ++ bs.map V.int)) = H8 at s8 D8 O8 ⊢
          clear hO hL0 s07 D7
          dsimp only [gName, List.set]
          have nd0 : ((0 : Int) :: bs).Nodup := List.nodup_cons.mpr ⟨fun m => ((bg.mem 0).mp m).1 rfl, bg.nd⟩
          -- numbers
          refine ⟨_, rfl, O, _, rfl, SqL.of O8, fun N hN => dc_it (walk_enum (K := K) (a := O) (xs := (0 :: bs).map V.int)) (fun i Hx => Same H8 Hx ∧ Hx N = some (.dK (kvK Sum.inl V.int (pl ((0 :: bs).take i))))) ⟨sameAdd hN, upd_same⟩ (fun i Hx _ h => SqL.of (h.1 _ _ O8)) ?_ ?_⟩
          · rintro i x Hx Hx' hi ⟨sx, Nx⟩ ⟨T', a1, v, rfl, hT, rfl, e1, e2⟩
            obtain rfl : a1 = V.int (i : Int) := (Option.some.inj e1).symm
            dsimp only at e2
            rw [List.getElem?_map] at e2
            obtain ⟨y, ey, rfl⟩ := Option.map_eq_some_iff.mp e2
            have hl := (List.getElem?_eq_some_iff.mp ey).1
            rw [List.length_cons] at hl
            have tk : (0 :: bs).take (i + 1) = (0 :: bs).take i ++ [y] := by rw [List.take_add_one, ey]; rfl
            have ny : ¬ y ∈ keysA (pl ((0 :: bs).take i)) := by
              rw [pl_keys]
              have n2 := nd0.sublist (List.take_sublist (i + 1) (0 :: bs))
              rw [tk] at n2
              exact fun m => (List.nodup_append.mp n2).2.2 _ m y List.mem_cons_self rfl
            have li : ((0 :: bs).take i).length = i := by rw [List.length_take, List.length_cons]; omega
            refine ⟨T', _, rfl, SqT.of upd_same, rfl, _, _, rfl, _, _, rfl, rfl, rfl, _, rfl, _, rfl, _, .inl y, rfl, sameAdd hT _ _ Nx, ?_, sameOut (sx.trans (sameAdd hT)) hN, ?_⟩
            · rw [kv_len]
              unfold pl
              rw [List.length_map, List.length_zipIdx, li]
              omega
            · rw [upd_same, show (V.int (i : Int)) = (fun z => V.int z) (i : Int) from rfl, kv_put inl_inj, put_new ny, tk, pl_snoc, li]
          · rintro H9 ⟨s89, N9⟩
            rw [List.length_map, List.take_length] at N9
            have s9 := s8.trans s89
            have D9 := s89 _ _ D8
            have O9 := s89 _ _ O8
            have N0 : H N = none := s8.free hN
            have nON : O ≠ N := fun e => by rw [← e, O8] at hN; cases hN
            have nDN : D ≠ N := fun e => by rw [← e, D8] at hN; cases hN
            have nOD : O ≠ D := fun e => by
              rw [e, D9] at O9
              have z := congrArg List.length (HO.lst.inj (Option.some.inj O9))
              rw [List.length_map, List.length_map, List.length_cons] at z
              omega
            clear s89 s8 D8 O8 hN
            dsimp only [gName, List.set]
            refine fun Gd hG => ?_
            dsimp only [gName, List.set]
            have s10 := s9.trans (sameAdd (o := .dK []) hG)
            have D10 := sameAdd (o := .dK []) hG _ _ D9
            have O10 := sameAdd (o := .dK []) hG _ _ O9
            have N10 := sameAdd (o := .dK []) hG _ _ N9
            have G10 : (upd H9 Gd (.dK [])) Gd = some (.dK (kvK Sum.inl V.bl (mk []))) := upd_same
            have G0 : H Gd = none := s9.free hG
            have nOG : O ≠ Gd := fun e => by rw [← e, O9] at hG; cases hG
            have nDG : D ≠ Gd := fun e => by rw [← e, D9] at hG; cases hG
            have nNG : N ≠ Gd := fun e => by rw [← e, N9] at hG; cases hG
            generalize upd H9 Gd (.dK []) = H10 at s10 D10 O10 N10 G10 ⊢
            clear hG s9 D9 O9 N9
            have lko : ∀ {i : Nat} {od g : List Int}, GoneI (keysA ws) (endW ws) (bs.take i) (0 :: bs) od g → od.Nodup → od.length ≤ 1 + bs.length + ws.length := fun {i od g} Gi nd => ord_len nd fun x m => by
              rcases Gi.from_ x m with m | ⟨k, mk, e⟩
              · exact List.mem_append_left _ m
              · exact List.mem_append_right _ (List.mem_map.mpr ⟨k, Gi.once.2 k mk, e.symm⟩)
            refine ⟨_, rfl, D, rfl, ⟨_, SqL.of D10⟩, for_list (K := K) (a := D) (xs := bs.map V.int) (fun i σ Hx => ∃ o11 o12, σ = [some (.ref b), some (.ref d), some (.ref p2), none, none, some (.ref D), none, some (.ref O), some (.ref N), none, some (.ref Gd), o11, o12, none, none, none] ∧ Same H Hx ∧ Hx D = some (.lst (bs.map V.int)) ∧
                ∃ od g, GoneI (keysA ws) (endW ws) (bs.take i) (0 :: bs) od g ∧ od = orderF ws (bs.take i) (0 :: bs) ∧ Hx O = some (.lst (od.map V.int)) ∧ Hx N = some (.dK (kvK Sum.inl V.int (pl od))) ∧ Hx Gd = some (.dK (kvK Sum.inl V.bl (mk g))))
              ⟨_, _, rfl, s10, D10, 0 :: bs, [], ⟨Once.nil, fun k m => absurd m List.not_mem_nil, fun k m => absurd m List.not_mem_nil, fun k m => absurd m List.not_mem_nil, fun b m => absurd m List.not_mem_nil, fun x m => .inl m⟩, rfl, O10, N10, G10⟩ (fun i σ Hx _ ⟨_, _, _, _, h, _⟩ => SqL.of h) ?_ ?_⟩
            · clear s10 D10 O10 N10 G10
              rintro i x σ Hx hx ⟨o11, o12, rfl, sx, Dx, od, g, Gi, eo, Ox, Nx, Gx⟩
              obtain ⟨bb, hb, rfl⟩ : ∃ b, bs[i]? = some b ∧ x = V.int b := by
                rw [List.getElem?_map] at hx
                obtain ⟨n, e, q⟩ := Option.map_eq_some_iff.mp hx
                exact ⟨n, e, q.symm⟩
              have tk : bs.take (i + 1) = bs.take i ++ [bb] := by rw [List.take_add_one, hb]; rfl
              have mbb : bb ∈ (0 : Int) :: bs := List.mem_cons_of_mem _ (List.mem_of_getElem? hb)
              have pre : ∀ x ∈ (0 : Int) :: bs, x ∈ od := fun x m => by
                obtain ⟨t, et⟩ := orderF_pre ws (bs.take i) (0 :: bs)
                rw [eo, et]
                exact List.mem_append_left _ m
              have ndo : od.Nodup := by
                rw [eo]
                exact orderF_nodup ws _ nd0
              dsimp only [gName, List.set]
              refine ⟨_, rfl, ?_⟩
              dsimp only [gName, List.set]
              refine ⟨fun m σ Hz => ∃ v Tk, σ = [some (.ref b), some (.ref d), some (.ref p2), none, none, some (.ref D), none, some (.ref O), some (.ref N), none, some (.ref Gd), some (.int bb), some (.int v), none, none, none] ∧ m = msr (keysA ws) (g ++ Tk) ∧ Same H Hz ∧ Hz D = some (.lst (bs.map V.int)) ∧
                  Hz O = some (.lst ((addAll od (Tk.map (endW ws))).map V.int)) ∧ Hz N = some (.dK (kvK Sum.inl V.int (pl (addAll od (Tk.map (endW ws)))))) ∧ Hz Gd = some (.dK (kvK Sum.inl V.bl (mk (g ++ Tk)))) ∧ Once (keysA ws) (g ++ Tk) ∧ reachF (keysA ws) (endW ws) bb g = reachF (keysA ws) (endW ws) v (g ++ Tk),
                ⟨_, bb, [], rfl, rfl, sx, Dx, Ox, Nx, by rw [List.append_nil]; exact Gx, by rw [List.append_nil]; exact Gi.once, by rw [List.append_nil]⟩, ?_⟩
              rintro m σ Hz ⟨v, Tk, rfl, rfl, sz, Dz, Oz, Nz, Gz, on, rc⟩
              have stop : ¬ (v ∈ keysA ws ∧ ¬ v ∈ g ++ Tk) → ∃ o11' o12', ([some (.ref b), some (.ref d), some (.ref p2), none, none, some (.ref D), none, some (.ref O), some (.ref N), none, some (.ref Gd), some (.int bb), some (.int v), none, none, none] : St) = [some (.ref b), some (.ref d), some (.ref p2), none, none, some (.ref D), none, some (.ref O), some (.ref N), none, some (.ref Gd), o11', o12', none, none, none] ∧ Same H Hz ∧ Hz D = some (.lst (bs.map V.int)) ∧
                  ∃ od g, GoneI (keysA ws) (endW ws) (bs.take (i + 1)) (0 :: bs) od g ∧ od = orderF ws (bs.take (i + 1)) (0 :: bs) ∧ Hz O = some (.lst (od.map V.int)) ∧ Hz N = some (.dK (kvK Sum.inl V.int (pl od))) ∧ Hz Gd = some (.dK (kvK Sum.inl V.bl (mk g))) := fun hn => by
                rw [reachF_no hn] at rc
                obtain ⟨G2, e2⟩ := gone_next Gi mbb pre rc
                refine ⟨_, _, rfl, sz, Dz, _, _, by rw [tk]; exact G2, ?_, Oz, Nz, Gz⟩
                rw [tk, orderF_snoc, ← eo, ← e2]
                rfl
              refine ⟨_, rfl, _, rfl, d, _, rfl, dgetI (f := wyV) (sz _ _ hd) v, _, rfl, ?_⟩
              rw [isA]
              refine iteD (fun h1 => ?_) (fun h1 => stop fun q => h1 q.1)
              refine ⟨_, rfl, _, rfl, Gd, _, rfl, dgetI (f := V.bl) Gz v, _, rfl, ?_⟩
              rw [isA, mk_keys]
              refine iteND (fun h2 => ?_) (fun h2 => stop fun q => q.2 h2)
              have ndA : (addAll od (Tk.map (endW ws))).Nodup := addAll_nodup _ ndo
              have lA : (addAll od (Tk.map (endW ws))).length ≤ 1 + bs.length + ws.length := ord_len ndA fun x m => by
                rcases (mem_addAll _ _).mp m with m | m
                · rcases Gi.from_ x m with m | ⟨k, mk, e⟩
                  · exact List.mem_append_left _ m
                  · exact List.mem_append_right _ (List.mem_map.mpr ⟨k, Gi.once.2 k mk, e.symm⟩)
                · obtain ⟨z, mz, rfl⟩ := List.mem_map.mp m
                  exact List.mem_append_right _ (List.mem_map.mpr ⟨z, on.2 z (List.mem_append_right _ mz), rfl⟩)
              have lT : (g ++ Tk).length < 64 := by
                have := once_len on
                unfold keysA at this
                rw [List.length_map] at this
                omega
              obtain ⟨y, hy, my⟩ := getA_in h1
              have ey := endW_of hy
              refine ⟨fun σ Hz => ∃ v T3, σ = [some (.ref b), some (.ref d), some (.ref p2), none, none, some (.ref D), none, some (.ref O), some (.ref N), none, some (.ref Gd), some (.int bb), some (.int v), none, none, none] ∧ msr (keysA ws) (g ++ T3) < msr (keysA ws) (g ++ Tk) ∧ Same H Hz ∧ Hz D = some (.lst (bs.map V.int)) ∧
                  Hz O = some (.lst ((addAll od (T3.map (endW ws))).map V.int)) ∧ Hz N = some (.dK (kvK Sum.inl V.int (pl (addAll od (T3.map (endW ws)))))) ∧ Hz Gd = some (.dK (kvK Sum.inl V.bl (mk (g ++ T3)))) ∧ Once (keysA ws) (g ++ T3) ∧ reachF (keysA ws) (endW ws) bb g = reachF (keysA ws) (endW ws) v (g ++ T3),
                fun σ Hz ⟨v, T3, e1, lt, r⟩ => ⟨_, lt, v, T3, e1, rfl, r⟩, ?_⟩
              have nv : ¬ v ∈ keysA (mk (g ++ Tk)) := by rw [mk_keys]; exact h2
              have lmk : (mk (g ++ Tk)).length < 64 := by unfold mk; rw [List.length_map]; exact lT
              refine ⟨_, rfl, _, rfl, Gd, _, rfl, dputI (f := V.bl) Gz v true (by omega), ?_⟩
              rw [put_new nv, ← mk_snoc, List.append_assoc]
              have sa : Same H (upd Hz Gd (.dK (kvK Sum.inl V.bl (mk (g ++ (Tk ++ [v])))))) := sameOut sz G0
              have Da : (upd Hz Gd (.dK (kvK Sum.inl V.bl (mk (g ++ (Tk ++ [v])))))) D = some (.lst (bs.map V.int)) := by rw [upd_ne nDG]; exact Dz
              have Oa : (upd Hz Gd (.dK (kvK Sum.inl V.bl (mk (g ++ (Tk ++ [v])))))) O = some (.lst ((addAll od (Tk.map (endW ws))).map V.int)) := by rw [upd_ne nOG]; exact Oz
              have Na : (upd Hz Gd (.dK (kvK Sum.inl V.bl (mk (g ++ (Tk ++ [v])))))) N = some (.dK (kvK Sum.inl V.int (pl (addAll od (Tk.map (endW ws)))))) := by rw [upd_ne nNG]; exact Nz
              have Ga : (upd Hz Gd (.dK (kvK Sum.inl V.bl (mk (g ++ (Tk ++ [v])))))) Gd = some (.dK (kvK Sum.inl V.bl (mk (g ++ (Tk ++ [v]))))) := upd_same
              generalize upd Hz Gd (.dK (kvK Sum.inl V.bl (mk (g ++ (Tk ++ [v]))))) = Hb at sa Da Oa Na Ga ⊢
              have dg : DGet Hb d (.int v) (some (.ref y.1)) := by
                have := dgetI (f := wyV) (sa _ _ hd) v
                rw [hy] at this
                exact this
              refine ⟨_, rfl, _, rfl, d, _, rfl, dg, y.1, _, 1, V.int y.2.2, rfl, rfl, sameT sa (hwt _ my), rfl, ?_⟩
              dsimp only [gName, List.set]
              have am : (Tk ++ [v]).map (endW ws) = Tk.map (endW ws) ++ [y.2.2] := by rw [List.map_append, ← ey]; rfl
              have h2' : ¬ v ∈ g ++ Tk := h2
              have r2 : reachF (keysA ws) (endW ws) bb g = reachF (keysA ws) (endW ws) y.2.2 (g ++ (Tk ++ [v])) := by rw [rc, reachF_on h1 h2', ey, List.append_assoc]
              have ml : msr (keysA ws) (g ++ (Tk ++ [v])) < msr (keysA ws) (g ++ Tk) := by rw [← List.append_assoc]; exact msr_lt h1 h2'
              have on2 : Once (keysA ws) (g ++ (Tk ++ [v])) := by rw [← List.append_assoc]; exact on.snoc h1 h2'
              refine ⟨_, rfl, _, rfl, N, _, rfl, dgetI (f := V.int) Na y.2.2, _, rfl, ?_⟩
              rw [isA, pl_keys]
              refine iteND (fun h3 => ?_) (fun h3 => ?_)
              · refine ⟨_, rfl, O, _, rfl, .inl (SqL.of Oa), _, rfl, _, rfl, N, _, rfl, dputI (f := V.int) Na y.2.2 _ (by unfold pl; rw [List.length_map, List.length_zipIdx]; omega), ?_⟩
                rw [put_new (by rw [pl_keys]; exact h3), List.length_map, ← pl_snoc]
                have Oc : (upd Hb N (.dK (kvK Sum.inl V.int (pl (addAll od (Tk.map (endW ws)) ++ [y.2.2]))))) O = some (.lst ((addAll od (Tk.map (endW ws))).map V.int)) := by rw [upd_ne nON]; exact Oa
                refine ⟨_, rfl, .inl ⟨rfl, _, SqL.of Oc⟩, _, rfl, O, _, _, rfl, rfl, Oc, by rw [List.length_map]; omega, ?_⟩
                refine ⟨_, _, rfl, ml, sameOut (sameOut sa N0) O0, by rw [upd_ne nOD.symm, upd_ne nDN]; exact Da, ?_, ?_, by rw [upd_ne nOG.symm, upd_ne nNG.symm]; exact Ga, on2, r2⟩
                · rw [upd_same, am, addAll_snoc, if_neg h3, List.map_append]
                  rfl
                · rw [upd_ne nON.symm, upd_same, am, addAll_snoc, if_neg h3]
              · refine ⟨_, _, rfl, ml, sa, Da, ?_, ?_, Ga, on2, r2⟩
                · rw [am, addAll_snoc, if_pos h3]
                  exact Oa
                · rw [am, addAll_snoc, if_pos h3]
                  exact Na
            · clear s10 D10 O10 N10 G10
              rintro σ Hx ⟨o11, o12, rfl, sx, Dx, od, g, Gi, eo, Ox, Nx, Gx⟩
              rw [List.length_map, List.take_length] at Gi eo
              have ndo : od.Nodup := by
                rw [eo]
                exact orderF_nodup ws _ nd0
              have lo : od.length ≤ 1 + bs.length + ws.length := ord_len ndo fun x m => by
                rcases Gi.from_ x m with m | ⟨k, mk, e⟩
                · exact List.mem_append_left _ m
                · exact List.mem_append_right _ (List.mem_map.mpr ⟨k, Gi.once.2 k mk, e.symm⟩)
              have ge := gone_end Gi w0 ndW
              have clo := orderF_closed (ws := ws) (bs := bs) w0
              have osub : ∀ x ∈ od, 0 ≤ x ∧ x < c.1.length := fun x m => by
                rcases Gi.from_ x m with m | ⟨k, mk, e⟩
                · rcases List.mem_cons.mp m with e | m
                  · rw [e]
                    omega
                  · exact bin x m
                · obtain ⟨y, gy, my⟩ := getA_in (Gi.once.2 k mk)
                  rw [e, endW_of gy]
                  exact wend _ my
              have num : numL (lotC c) ws bs = if ∀ k ∈ keysA ws, k ∈ od then some (od.map (lotC c), arsF ws od) else none := by
                rw [eo]
                rfl
              rw [← eo] at clo
              have lmk : (mk g).length = g.length := by unfold mk; rw [List.length_map]
              have lkW : (keysA ws).length = ws.length := by unfold keysA; rw [List.length_map]
              refine ⟨_, rfl, Gd, _, rfl, Gx, _, rfl, d, _, rfl, sx _ _ hd, ?_⟩
              refine ⟨_, _, rfl, rfl, _, rfl, ?_⟩
              rw [kv_len, kv_len, lmk]
              refine iteD (fun lt => ?_) (fun nlt => ?_)
              · refine k .non Hx sx (.inl ⟨?_, rfl⟩)
                rw [num, if_neg]
                exact fun z => ge.mp z (by rw [lkW]; omega)
              · have all := ge.mpr (by rw [lkW]; omega)
                have num2 : numL (lotC c) ws bs = some (od.map (lotC c), arsF ws od) := by
                  rw [num, if_pos all]
                clear num ge Gi eo Gx
                have hdx := sx _ _ hd
                have nNd : N ≠ d := fun e => by rw [e, hd] at N0; cases N0
                have nOd : O ≠ d := fun e => by rw [e, hd] at O0; cases O0
                refine lc_itemsE (d := d) (kvs := kvK Sum.inl wyV ws) rfl hdx (fun i xs Hy => ∃ ts : List Addr, xs = ts.map V.ref ∧ Paired (fun (t : Addr) (q : Ar) => t ≠ d ∧ NT H Hy t [.int q.1, .str q.2.1, .int q.2.2]) ts ((ws.take i).map fun q => (ixO od q.1, q.2.2.1, ixO od q.2.2.2)))
                  ?_ ⟨[], rfl, .nil⟩ ?_ (by rw [kv_len]; omega) ?_
                · rintro i xs H5 H6 kp ⟨ts, rfl, pr⟩
                  exact ⟨ts, rfl, paired_mpL pr fun t q ⟨nt, h⟩ => ⟨nt, h.kp nt kp⟩⟩
                · rintro ob i kk v Tp H3 xs Ny Nn hk fz bx hT ⟨ts, rfl, pr⟩ lx yes no
                  obtain ⟨⟨s, y⟩, hr, e⟩ : ∃ q, ws[i]? = some q ∧ (Sum.inl q.1, wyV q.2) = (kk, v) := by
                    unfold kvK at hk
                    rw [List.getElem?_map] at hk
                    obtain ⟨q, e1, e2⟩ := Option.map_eq_some_iff.mp hk
                    exact ⟨q, e1, e2⟩
                  cases e
                  have tk : (ws.take (i + 1)).map (fun q => (ixO od q.1, q.2.2.1, ixO od q.2.2.2)) = (ws.take i).map (fun q => (ixO od q.1, q.2.2.1, ixO od q.2.2.2)) ++ [(ixO od s, y.2.1, ixO od y.2.2)] := by rw [List.take_add_one, hr, List.map_append]; rfl
                  have m := List.mem_of_getElem? hr
                  have gy : getA ws s = some y := mem_getA ndW m
                  have i1 : s ∈ od := all s (List.mem_map.mpr ⟨_, m, rfl⟩)
                  have i2 : y.2.2 ∈ od := by
                    have := clo s i1 (List.mem_map.mpr ⟨_, m, rfl⟩)
                    rw [endW_of gy] at this
                    exact this
                  have dp : ∀ x ∈ od, DGet H3 N (.int x) (some (.int (ixO od x))) := fun x mx => by
                    have := dgetI (f := V.int) (bx _ _ nNd Nx) x
                    rw [pl_get mx] at this
                    exact this
                  have yt : SqT K H3 y.1 [.str y.2.1, .int y.2.2] := sq_but bx hdx (sameT sx (hwt _ m))
                  refine ⟨Tp, _, rfl, SqT.of hT, rfl, _, _, rfl, _, _, rfl, y.1, _, rfl, yt, rfl, _, _, rfl, _, _, rfl, rfl, rfl, rfl, ?_⟩
                  refine ⟨_, rfl, _, rfl, N, _, rfl, dp s i1, _, rfl, _, rfl, _, rfl, N, _, rfl, dp _ i2, by show 3 ≤ sizeLine; decide, fun t ht => ?_⟩
                  have ntd : t ≠ d := fun z => by
                    rw [z, fz] at ht
                    cases ht
                  have b6 : But d H3 (upd H3 t (.tup [V.int (ixO od s), V.str y.2.1, V.int (ixO od y.2.2)])) := (But.refl d H3).add ht
                  have t0 : H t = none := by
                    cases e : H t with
                    | none => rfl
                    | some o =>
                      have := bx _ _ ntd (sx _ _ e)
                      rw [ht] at this
                      cases this
                  refine yes _ _ (by rw [upd_ne ntd.symm]; exact fz) b6 ⟨ts ++ [t], by rw [List.map_append]; rfl, ?_⟩
                  rw [tk]
                  exact paired_snoc (paired_mpL pr fun t q ⟨nt, h⟩ => ⟨nt, h.1, b6 _ _ nt h.2⟩) ⟨ntd, t0, upd_same⟩
                · rintro L3 xs Hh sxh hL3 L3h ⟨ts, rfl, pr⟩ lx
                  rw [kv_len, List.take_length] at pr
                  rw [kv_len] at lx
                  have sh := sx.trans sxh
                  have Oh := sxh _ _ Ox
                  dsimp only [gName, List.set]
                  refine ⟨_, rfl, O, rfl, ⟨_, SqL.of Oh⟩, fun D1 hD1 => lc_list (K := K) (a := O) (xs := od.map V.int) (fun i Hy => Same Hh Hy ∧ ∃ ys, Hy D1 = some (.lst ys) ∧ ys.length ≤ i ∧ DaAll K G ys (((od.take i).map (lotC c)).map fun l => .tuple (l.map .str))) ⟨sameAdd hD1, [], upd_same, Nat.le_refl _, .nil⟩ (fun i Hy _ h => SqL.of (h.1 _ _ Oh)) ?_ ?_⟩
                  · rintro i x Hy hx ⟨sy, ys, Dy, ly, py⟩
                    have hi := (List.getElem?_eq_some_iff.mp hx).1
                    rw [List.length_map] at hi
                    obtain ⟨s, hs, rfl⟩ : ∃ s, od[i]? = some s ∧ x = V.int s := by
                      rw [List.getElem?_map] at hx
                      obtain ⟨n, e, q⟩ := Option.map_eq_some_iff.mp hx
                      exact ⟨n, e, q.symm⟩
                    have tk : od.take (i + 1) = od.take i ++ [s] := by rw [List.take_add_one, hs]; rfl
                    have sin := osub s (List.mem_of_getElem? hs)
                    have hls : s.toNat < ls.length := by omega
                    have gx := List.getElem?_eq_getElem hls
                    obtain ⟨dd, e1, d1⟩ := dls.get gx
                    rw [List.getElem?_map] at e1
                    obtain ⟨l, el, rfl⟩ := Option.map_eq_some_iff.mp e1
                    have el2 := lotC_at el
                    have es : ((s.toNat : Nat) : Int) = s := by omega
                    rw [es] at el2
                    refine ⟨rfl, _, rfl, _, rfl, b, ls, s, _, rfl, rfl, sameT (sm.trans (sh.trans sy)) sb, at_nat sin.1 gx, ?_⟩
                    refine ⟨ys, Dy, by omega, sameOut sy hD1, ys ++ [ls[s.toNat]], upd_same, by rw [List.length_append, List.length_singleton]; omega, ?_⟩
                    rw [tk, List.map_append, List.map_append]
                    refine py.append (.cons ?_ .nil)
                    rw [el2]
                    exact d1
                  · rintro Hy ⟨sy, ys, Dy, ly, py⟩
                    rw [List.length_map, List.take_length] at py
                    refine ⟨D1, ys, rfl, .inl ⟨SqL.of Dy, fun q hq => ?_⟩⟩
                    have sq := sameAdd (o := .tup ys) hq
                    have qa : (upd Hy q (.tup ys)) q = some (.tup ys) := upd_same
                    have L3q := sq _ _ (sy _ _ L3h)
                    have prq := paired_mpL pr fun t q ⟨nt, h⟩ => (h.same sy).same sq
                    generalize upd Hy q (.tup ys) = Hq at sq qa L3q prq ⊢
                    have shq := (sh.trans sy).trans sq
                    have Oq := sq _ _ (sy _ _ Oh)
                    refine ⟨_, rfl, L3, ts.map V.ref, Ar, _, arD, fun x b => ∃ t, x = V.ref t ∧ NT H Hq t [.int b.1, .str b.2.1, .int b.2.2], rfl, SqL.of L3q, fun x m => ?_, paired_map1 (fun t q h => ⟨t, rfl, h⟩) prq, paired_map1 (fun t q h => .tup (SqT.of h.2) (.cons (.int _) (.cons (.str _) (.cons (.int _) .nil)))) prq, fun b b' => by simp [arD, PySem.W.alike, PySem.W.alikeAll], fun b => ⟨_, _, rfl⟩, fun b _ => by simp [arD, PyData.depth, PyData.depthAll], fun zs p3 pz prz hp3 => ?_⟩
                    · obtain ⟨t, _, rfl⟩ := List.mem_map.mp m
                      exact ⟨t, rfl⟩
                    · refine ⟨p3, _, rfl, .inl ⟨SqL.of upd_same, fun q2 hq2 => ⟨by show 2 ≤ sizeLine; decide, fun u hu2 => ⟨_, rfl, by show 2 ≤ sizeLine; decide, fun r hr => ?_⟩⟩⟩⟩
                      have si := (((sameAdd hp3).trans (sameAdd hq2)).trans (sameAdd hu2)).trans (sameAdd (o := .tup [V.ref u, V.ref O]) hr)
                      have Q2 : (upd (upd (upd (upd Hq p3 (.lst zs)) q2 (.tup zs)) u (.tup [V.ref q, V.ref q2])) r (.tup [V.ref u, V.ref O])) q2 = some (.tup zs) := sameAdd hr _ _ (sameAdd hu2 _ _ upd_same)
                      have U2 : (upd (upd (upd (upd Hq p3 (.lst zs)) q2 (.tup zs)) u (.tup [V.ref q, V.ref q2])) r (.tup [V.ref u, V.ref O])) u = some (.tup [V.ref q, V.ref q2]) := sameAdd hr _ _ upd_same
                      have R2 : (upd (upd (upd (upd Hq p3 (.lst zs)) q2 (.tup zs)) u (.tup [V.ref q, V.ref q2])) r (.tup [V.ref u, V.ref O])) r = some (.tup [V.ref u, V.ref O]) := upd_same
                      generalize upd (upd (upd (upd Hq p3 (.lst zs)) q2 (.tup zs)) u (.tup [V.ref q, V.ref q2])) r (.tup [V.ref u, V.ref O]) = Hi at si Q2 U2 R2 ⊢
                      refine k (.ref r) Hi (shq.trans si) (.inr ⟨_, r, u, _, rfl, R2, num2, ?_⟩)
                      refine .tup (SqT.of U2) (.cons (.tup (SqT.of (si _ _ qa)) (py.mono (sm.trans (shq.trans si)))) (.cons (.tup (SqT.of Q2) ?_) .nil))
                      exact da_ars (paired_mpL prz fun z b ⟨t, e, h⟩ => ⟨t, e, SqT.of (si _ _ h.2)⟩)
end
end L2.Hx

/-! Nameless lots taken out, as the program does it. -/
namespace L2.Hx
open PySem PySem.Spec PyProof.Rows
theorem least_none {c : Cs} (h : ∀ j : Nat, j < c.1.length - 1 → canC c (1 + (j : Int)) = false) : leastC c = none := by
  unfold leastC
  refine List.find?_eq_none.mpr fun x m => ?_
  obtain ⟨h1, h2⟩ := mem_spL.mp m
  have := h (x - 1).toNat (by omega)
  rw [show 1 + (((x - 1).toNat : Nat) : Int) = x by omega] at this
  rw [this]
  exact Bool.false_ne_true
theorem find_first {f : Int → Bool} : ∀ {l : List Int} {i : Nat} {x : Int}, l[i]? = some x → f x = true → (∀ j y, j < i → l[j]? = some y → f y = false) → l.find? f = some x
  | [], i, x, h, _, _ => by cases h
  | y :: l, 0, x, h, hx, _ => by
    cases h
    rw [List.find?_cons, hx]
  | y :: l, i + 1, x, h, hx, hn => by
    rw [List.find?_cons, hn 0 y (by omega) rfl]
    exact find_first (l := l) h hx fun j z hj hz => hn (j + 1) z (by omega) hz
theorem least_at {c : Cs} {i : Nat} (hi : i < c.1.length - 1) (h : ∀ j : Nat, j < i → canC c (1 + (j : Int)) = false) (hc : canC c (1 + (i : Int)) = true) : leastC c = some (1 + (i : Int)) := by
  have at_ : ∀ j : Nat, j < c.1.length - 1 → (spL (c.1.length - 1))[j]? = some (1 + (j : Int)) := fun j hj => by
    unfold spL
    rw [List.getElem?_map, List.getElem?_range hj]
    rfl
  refine find_first (at_ i hi) hc fun j y hj hy => ?_
  rw [at_ j (by omega)] at hy
  rw [← Option.some.inj hy]
  exact h j hj
theorem canC_no {c : Cs} {s : Int} (h : ¬ (lotC c s = [] ∧ s ∈ keysA c.2 ∧ (insC c s).length = 1 ∧ endC c s ≠ (insC c s).headD 0)) : canC c s = false := by
  rw [Bool.eq_false_iff]
  intro z
  unfold canC at z
  rw [Bool.and_eq_true, Bool.and_eq_true, Bool.and_eq_true, decide_eq_true_eq, decide_eq_true_eq, decide_eq_true_eq, decide_eq_true_eq] at z
  exact h z
theorem canC_yes {c : Cs} {s : Int} (h : lotC c s = [] ∧ s ∈ keysA c.2 ∧ (insC c s).length = 1 ∧ endC c s ≠ (insC c s).headD 0) : canC c s = true := by
  unfold canC
  rw [Bool.and_eq_true, Bool.and_eq_true, Bool.and_eq_true, decide_eq_true_eq, decide_eq_true_eq, decide_eq_true_eq, decide_eq_true_eq]
  exact h
theorem endC_ws {c : Cs} {ws : Ws} {s : Int} {y : Wy} (ew : ws.map tailW = c.2) (bnd : (c.2.map fun q => q.1).Nodup) (g : getA ws s = some y) : endC c s = y.2.2 := by
  have m : (s, y.2) ∈ c.2 := by
    rw [← ew]
    exact List.mem_map.mpr ⟨(s, y), getA_mem g, rfl⟩
  have := mem_getA (l := c.2) bnd m
  unfold endC
  rw [this]
  rfl
theorem keys_ws {c : Cs} {ws : Ws} (ew : ws.map tailW = c.2) : keysA ws = keysA c.2 := by
  rw [keys_tail]
  show (ws.map tailW).map Prod.fst = c.2.map Prod.fst
  rw [ew]
theorem int_dec {m n : Int} : decide (V.int m = V.int n) = decide (m = n) := by
  by_cases h : m = n
  · rw [h, decide_eq_true rfl, decide_eq_true rfl]
  · rw [decide_eq_false h, decide_eq_false fun z => h (V.int.inj z)]
theorem insC_take (c : Cs) (s : Int) : insC c s = (c.2.filter fun q => decide (q.2.2 = s)).map fun q => q.1 := rfl
theorem kv_drop {κ α : Type} [DecidableEq κ] {ι : κ → Key} {f : α → V} (hi : ∀ a b, ι a = ι b → a = b) (l : List (κ × α)) (k : κ) : dropK (kvK ι f l) (ι k) = kvK ι f (l.filter fun q => decide (q.1 ≠ k)) := by
  unfold dropK kvK
  rw [List.filter_map]
  congr 1
  refine List.filter_congr fun q _ => ?_
  show _ = decide (q.1 ≠ k)
  by_cases h : q.1 = k
  · simp [h]
  · have : ¬ ι q.1 = ι k := fun e => h (hi _ _ e)
    simp [h, this]
end L2.Hx

/-! A long arrow opened, as the program does it. -/
namespace L2.Hx
open PySem PySem.Spec PyProof.Rows
theorem rest_perm2 {ws : Ws} {b : Int} {y : Wy} (nd : (keysA ws).Nodup) (g : getA ws b = some y) : (ws.map tailW).Perm ((b, y.2) :: (ws.map tailW).filter fun q => decide (q.1 ≠ b)) := by
  have nd1 : ((ws.map tailW).map fun q => q.1).Nodup := by
    rw [List.map_map]
    exact nd
  have ndw : (ws.map tailW).Nodup := by
    have h : (ws.map tailW).Pairwise fun a b => a.1 ≠ b.1 := List.pairwise_map.mp nd1
    exact h.imp fun h e => h (by rw [e])
  have mb : (b, y.2) ∈ ws.map tailW := List.mem_map.mpr ⟨_, getA_mem g, rfl⟩
  refine (List.perm_ext_iff_of_nodup ndw (List.nodup_cons.mpr ⟨fun m => ?_, ndw.sublist List.filter_sublist⟩)).mpr fun q => ?_
  · have := of_decide_eq_true (List.mem_filter.mp m).2
    exact this rfl
  · rw [List.mem_cons, List.mem_filter, decide_eq_true_eq]
    refine ⟨fun m => (Classical.em (q.1 = b)).elim (fun h => .inl ?_) fun h => .inr ⟨m, h⟩, fun h => h.elim (fun h => by rw [h]; exact mb) fun h => h.1⟩
    have h1 := mem_getA (l := ws.map tailW) nd1 (show (q.1, q.2) ∈ ws.map tailW from m)
    have h2 := mem_getA (l := ws.map tailW) nd1 mb
    rw [h, h2] at h1
    exact Prod.ext h (Option.some.inj h1).symm
theorem put_filter {ws : Ws} {b : Int} {y : Wy} : ((putA ws b y).map tailW).filter (fun q => decide (q.1 ≠ b)) = (ws.map tailW).filter fun q => decide (q.1 ≠ b) := by
  unfold putA
  split
  · have : ∀ l : Ws, ((l.map fun q => if q.1 = b then (q.1, y) else q).map tailW).filter (fun q => decide (q.1 ≠ b)) = (l.map tailW).filter fun q => decide (q.1 ≠ b) := fun l => by
      induction l with
      | nil => rfl
      | cons q l ih =>
        rw [List.map_cons, List.map_cons, List.map_cons]
        by_cases h : q.1 = b
        · rw [if_pos h, List.filter_cons_of_neg (by simp [tailW, h]), List.filter_cons_of_neg (by simp [tailW, h])]
          exact ih
        · rw [if_neg h, List.filter_cons_of_pos (by simp [tailW, h]), List.filter_cons_of_pos (by simp [tailW, h])]
          rw [ih]
    exact this ws
  · rw [List.map_append, List.filter_append]
    simp [tailW]
theorem put_perm {ws : Ws} {b : Int} {y : Wy} (nd : (keysA ws).Nodup) : ((putA ws b y).map tailW).Perm ((b, y.2) :: (ws.map tailW).filter fun q => decide (q.1 ≠ b)) := by
  have p := rest_perm2 (putA_nodup (k := b) (v := y) nd) (show getA (putA ws b y) b = some y by rw [get_putA, if_pos rfl])
  rw [put_filter] at p
  exact p
theorem lot_snoc (c : Cs) : lotC ((c.1 ++ [[]], c.2) : Cs) = lotC c := by
  funext s
  unfold lotC
  by_cases h : 0 ≤ s
  · rw [if_pos h, if_pos h]
    show ((c.1 ++ [[]])[s.toNat]?).getD [] = _
    by_cases h1 : s.toNat < c.1.length
    · rw [List.getElem?_append_left h1]
    · rw [List.getElem?_append_right (by omega), List.getElem?_eq_none (l := c.1) (by omega)]
      cases (s.toNat - c.1.length) with
      | zero => rfl
      | succ n => rfl
  · rw [if_neg h, if_neg h]
theorem beg_snoc (c : Cs) : begC ((c.1 ++ [[]], c.2) : Cs) = begC c := by
  have h := begC_ok ((c.1 ++ [[]], c.2) : Cs)
  rw [lot_snoc] at h
  exact h.uniq (begC_ok c)
theorem mergeK_one {ws : Ws} {b : Int} {y : Wy} : mergeK (kvK Sum.inl wyV ws) (mergeK [] [(Sum.inl b, wyV y)]) = kvK Sum.inl wyV (putA ws b y) := by
  rw [← kv_put inl_inj]
  rfl
theorem mergeK_two {ws : Ws} {b f : Int} {y z : Wy} (h : b ≠ f) : mergeK (kvK Sum.inl wyV ws) (mergeK [] [(Sum.inl b, wyV y), (Sum.inl f, wyV z)]) = kvK Sum.inl wyV (putA (putA ws b y) f z) := by
  have e : mergeK [] [(Sum.inl b, wyV y), (Sum.inl f, wyV z)] = kvK (Sum.inl : Int → Key) wyV [(b, y), (f, z)] := by
    have mm := merge_kv (ι := (Sum.inl : Int → Key)) (f := wyV) inl_inj [(b, y), (f, z)] [] (by
      show ([b, f] : List Int).Nodup
      exact List.nodup_cons.mpr ⟨fun m => h (List.mem_singleton.mp m), List.nodup_cons.mpr ⟨List.not_mem_nil, List.nodup_nil⟩⟩)
    rw [List.nil_append] at mm
    exact mm
  rw [e, ← kv_put inl_inj, ← kv_put inl_inj]
  rfl
theorem spread1 {H : Hp} {d : Addr} {ws : Ws} {σ : St} {b e : Int} {Q : VK} (hd : H d = some (.dK (kvK Sum.inl wyV ws))) (lw : ws.length ≤ 900) (h1 : σ[1]? = some (some (V.int b))) (h4 : σ[4]? = some (some (V.ref d))) (h5 : σ[5]? = some (some (V.int e)))
    (k : ∀ (p t : Addr) (H2 : Hp), Same H H2 → H2 p = some (.dK (kvK Sum.inl wyV (putA ws b (t, (("short" : Str), e))))) → H2 t = some (.tup [.str "short", .int e]) → Q (.ref p) H2) :
    tSpread (tVar 4) [(tVar 1, tTup (tCons (tC (V.str "short")) (tCons (tVar 5) tNil)))] σ H Q := by
  intro p hp
  have npd : p ≠ d := fun e => by rw [e, hd] at hp; cases hp
  refine ⟨_, h4, d, kvK Sum.inl wyV ws, rfl, upd_same, sameAdd hp _ _ hd, npd, by rw [kv_len]; omega, fun q hq => ?_⟩
  have npq : p ≠ q := fun e => by rw [← e, upd_same] at hq; cases hq
  have s1 : Same H (upd (upd H p (.dK [])) p (.dK (kvK Sum.inl wyV ws))) := sameOut (sameAdd hp) hp
  have p1 : (upd (upd H p (.dK [])) p (.dK (kvK Sum.inl wyV ws))) p = some (.dK (kvK Sum.inl wyV ws)) := upd_same
  generalize upd (upd H p (.dK [])) p (.dK (kvK Sum.inl wyV ws)) = H1 at s1 p1 hq ⊢
  refine ⟨_, h1, _, h5, by show 2 ≤ sizeLine; decide, fun t ht => ?_⟩
  have nqt : q ≠ t := fun e => by rw [← e, upd_same] at ht; cases ht
  have npt : p ≠ t := fun e => by rw [← e, upd_ne npq, p1] at ht; cases ht
  refine ⟨by rw [upd_ne nqt, upd_same], by rw [upd_ne npt, upd_ne npq]; exact p1, [(Sum.inl b, wyV (t, (("short" : Str), e)))], rfl, by show 1 ≤ 15; decide, ?_⟩
  rw [mergeK_one]
  refine k p t _ ?_ upd_same ?_
  · refine sameOut (sameOut ((s1.trans (sameAdd hq)).trans (sameAdd ht)) (s1.free hq)) hp
  · rw [upd_ne npt.symm, upd_ne nqt.symm, upd_same]
theorem spread2 {H : Hp} {d : Addr} {ws : Ws} {σ : St} {b e f : Int} {Q : VK} (hd : H d = some (.dK (kvK Sum.inl wyV ws))) (lw : ws.length ≤ 900) (nbf : b ≠ f) (h1 : σ[1]? = some (some (V.int b))) (h4 : σ[4]? = some (some (V.ref d))) (h5 : σ[5]? = some (some (V.int e))) (h6 : σ[6]? = some (some (V.int f)))
    (k : ∀ (p t u : Addr) (H2 : Hp), Same H H2 → H2 p = some (.dK (kvK Sum.inl wyV (putA (putA ws b (t, (("short" : Str), f))) f (u, (("long" : Str), e))))) → H2 t = some (.tup [.str "short", .int f]) → H2 u = some (.tup [.str "long", .int e]) → Q (.ref p) H2) :
    tSpread (tVar 4) [(tVar 1, tTup (tCons (tC (V.str "short")) (tCons (tVar 6) tNil))), (tVar 6, tTup (tCons (tC (V.str "long")) (tCons (tVar 5) tNil)))] σ H Q := by
  intro p hp
  have npd : p ≠ d := fun e => by rw [e, hd] at hp; cases hp
  refine ⟨_, h4, d, kvK Sum.inl wyV ws, rfl, upd_same, sameAdd hp _ _ hd, npd, by rw [kv_len]; omega, fun q hq => ?_⟩
  have npq : p ≠ q := fun e => by rw [← e, upd_same] at hq; cases hq
  have s1 : Same H (upd (upd H p (.dK [])) p (.dK (kvK Sum.inl wyV ws))) := sameOut (sameAdd hp) hp
  have p1 : (upd (upd H p (.dK [])) p (.dK (kvK Sum.inl wyV ws))) p = some (.dK (kvK Sum.inl wyV ws)) := upd_same
  generalize upd (upd H p (.dK [])) p (.dK (kvK Sum.inl wyV ws)) = H1 at s1 p1 hq ⊢
  refine ⟨_, h1, _, h6, by show 2 ≤ sizeLine; decide, fun t ht => ⟨_, h6, _, h5, by show 2 ≤ sizeLine; decide, fun u hu => ?_⟩⟩
  have nqt : q ≠ t := fun e => by rw [← e, upd_same] at ht; cases ht
  have npt : p ≠ t := fun e => by rw [← e, upd_ne npq, p1] at ht; cases ht
  have ntu : t ≠ u := fun e => by rw [← e, upd_same] at hu; cases hu
  have nqu : q ≠ u := fun e => by rw [← e, upd_ne nqt, upd_same] at hu; cases hu
  have npu : p ≠ u := fun e => by rw [← e, upd_ne npt, upd_ne npq, p1] at hu; cases hu
  refine ⟨by rw [upd_ne nqu, upd_ne nqt, upd_same], by rw [upd_ne npu, upd_ne npt, upd_ne npq]; exact p1, [(Sum.inl b, wyV (t, (("short" : Str), f))), (Sum.inl f, wyV (u, (("long" : Str), e)))], rfl, by show 2 ≤ 15; decide, ?_⟩
  rw [mergeK_two nbf]
  refine k p t u _ ?_ upd_same ?_ ?_
  · exact sameOut (sameOut (((s1.trans (sameAdd hq)).trans (sameAdd ht)).trans (sameAdd hu)) (s1.free hq)) hp
  · rw [upd_ne npt.symm, upd_ne nqt.symm, upd_ne ntu, upd_same]
  · rw [upd_ne npu.symm, upd_ne nqu.symm, upd_same]
theorem mem_put {ws : Ws} {b : Int} {y : Wy} {q : Int × Wy} (m : q ∈ putA ws b y) : q = (b, y) ∨ q ∈ ws := by
  unfold putA at m
  split at m
  · obtain ⟨z, mz, rfl⟩ := List.mem_map.mp m
    by_cases h : z.1 = b
    · rw [if_pos h, h]
      exact .inl rfl
    · rw [if_neg h]
      exact .inr mz
  · exact (List.mem_append.mp m).elim .inr fun m => .inl (List.mem_singleton.mp m)
/-- begin is that of a long arrow, or it is refused -/
def spOpWays (K : PySem.W.Frag) (C : Addr) : Sp := fun vs H Q E => ∃ (v : V) (b : Int) (G : Hp) (ns : List Str) (c : Cs), vs = [v, .int b] ∧ Same G H ∧ Da K G v (caseD c) ∧ CaseN ns c ∧ NsOk ns ∧ c.1.length ≤ 59 ∧ c.2.length ≤ 39 ∧
  ((∀ e, ¬ (b, (("long" : Str), e)) ∈ c.2) → ∀ H', Same H H' → E (.ref C) none H') ∧
  (∀ e c1 c2, (b, (("long" : Str), e)) ∈ c.2 → numL (lotC c) (toW (oneR c b e)) (begC c) = some c1 → numL (lotC c) (toW (moreR c b e c.1.length)) (begC c) = some c2 →
    ∀ (L r1 t1 r2 t2 : Addr) (o1 o2 : V) (H' : Hp), Same H H' → H' L = some (.lst [.ref r1, .ref r2]) → H' r1 = some (.tup [.ref t1, o1]) → H' r2 = some (.tup [.ref t2, o2]) → Da K H' (.ref t1) (caseD c1) → Da K H' (.ref t2) (caseD c2) → Q (.ref L) H')
section
variable {P : Program} {w : World} {K : PySem.W.Frag} {mg : Str → Option Value} {base : Heap}
theorem D_opened_ways (T : Txt K mg) {C : Addr} (hU : OwnExc K mg "Unfit" C) : DfX P w K mg base 2 "opened_ways" s_opened_ways ["case", "begin"] (spOpWays K C) := by
  have D_leads_of := D_leads_of (P := P) (w := w) (base := base) T
  have D_settled := D_settled (P := P) (w := w) (base := base) T
  obtain ⟨f, fd, S⟩ := T.d_opened_ways
  refine DfX.mk' (k := 1) S sc_opened_ways (fun vs H Q E h => ?_) (fun cdv A outer s H vs Q E hgd hr h => ?_)
  · obtain ⟨v, s, G, ns, c, rfl, _⟩ := h
    rfl
  · obtain ⟨v, b, G, ns, c, rfl, sm, da, N, Ok, l59, l39, kE, k⟩ := h
    have hu := hu_of hr
    have big : (2000 : Nat) ≤ sizeLine := by decide
    have tkE : Takes (cxOf (L2.CX P w) P w K mg base ["case", "begin", "lots", "arrows", "leads", "end", "new", "one", "more"] "opened_ways" (defScope s_opened_ways) f cdv A outer s H E) (fun cls d _ H => E cls d H) := takes_of rfl rfl rfl rfl
    refine ⟨_, (pss_cons (ps_asg (pv 0) (pg_tup rfl (pgs_cons (pg_name (i := 2) sc_opened_ways.nd rfl (.inl rfl)) (pgs_cons (pg_name (i := 3) sc_opened_ways.nd rfl (.inl rfl)) pgs_nil))))
      (pss_cons (ps_set (i := 4) sc_opened_ways.nd rfl (.inl rfl) (pe_d D_leads_of hgd hr (pa_cons (pv 3) pa_nil)))
      (pss_cons (ps_if (PW.pt (pw_or (pt_cmp (pc_dnotin hu (pv 1) (pv 4))) (pw_or1 (pt_cmpR op_ne (pe_ix ix_tup (pe_dget hu (pv 4) (pv 1) (fun _ _ => rfl)) pe_int (fun _ _ => rfl)) pe_str (nomark _))))) (pss_one (ps_raise0 rfl tkE hU)) pss_nil)
      (pss_cons (ps_par (i := 5) (j := 6) (by rfl) sc_opened_ways.nd rfl rfl (by decide) rfl rfl (pa_cons (pe_ix ix_tup (pe_dget hu (pv 4) (pv 1) (fun _ _ => rfl)) pe_int (fun _ _ => rfl)) (pa_cons (pe_callB call_len_seq (by rfl) T.b_len (by decide +kernel) (pa_cons (pv 2) pa_nil)) pa_nil)) (by rfl))
      (pss_cons (ps_set (i := 7) sc_opened_ways.nd rfl (.inl rfl) (pe_d D_settled hgd hr (pa_cons (pv 2) (pa_cons (pe_spread (pv 4) (pps_cons (pv 1) (pe_tup (pa_cons pe_str (pa_cons (pv 5) pa_nil))) pps_nil) (by rfl) (by rfl) (fun z => by cases z) (by decide)) pa_nil))))
      (pss_cons (ps_set (i := 8) sc_opened_ways.nd rfl (.inl rfl) (pe_d D_settled hgd hr (pa_cons (pe_op op_catA (pv 2) (pe_tup (pa_cons (pe_tup pa_nil) pa_nil))) (pa_cons (pe_spread (pv 4) (pps_cons (pv 1) (pe_tup (pa_cons pe_str (pa_cons (pv 6) pa_nil))) (pps_cons (pv 6) (pe_tup (pa_cons pe_str (pa_cons (pv 5) pa_nil))) pps_nil)) (by rfl) (by rfl) (fun z => by cases z) (by decide)) pa_nil))))
      (pss_one (ps_ret (pe_lst (pa_cons (pv 7) (pa_cons (pv 8) pa_nil))))))))))), ?_⟩
    obtain ⟨a, b1, b2, ls, as, rfl, sa, sb1, dls, sb2, das⟩ := da_case da
    have la : as.length = c.2.length := by rw [das.length, List.length_map]
    have lls : ls.length = c.1.length := by rw [dls.length, List.length_map]
    have bnd := N.ok.bnd
    have p0 := N.ok.pos
    refine ⟨_, rfl, a, _, rfl, sameT sm sa, rfl, _, _, rfl, _, _, rfl, rfl, ?_⟩
    dsimp only [gName, List.set]
    refine ⟨_, rfl, b2, as, c.2, G, rfl, sm, sb2, das, bnd, by omega, fun d2 ws H1 s1 hd20 hd2 ew hw => ?_⟩
    have dg : ∀ {Hx : Hp}, Same H1 Hx → DGet Hx d2 (.int b) ((getA ws b).map wyV) := fun {Hx} sx => dgetI (f := wyV) (sx _ _ hd2) b
    have ndW : (keysA ws).Nodup := by
      have e : keysA ws = c.2.map fun q => q.1 := by
        rw [← ew, List.map_map]
        rfl
      rw [e]
      exact bnd
    refine ⟨_, rfl, _, rfl, d2, _, rfl, dg (Same.refl _), ?_⟩
    cases gy : getA ws b with
    | none =>
      refine ⟨_, rfl, if_yes rfl (if_yes rfl ?_)⟩
      refine kE (fun e m => ?_) _ s1
      rw [← ew] at m
      obtain ⟨z, mz, ez⟩ := List.mem_map.mp m
      have e1 : z.1 = b := congrArg (fun q : Ar => q.1) ez
      have := mem_getA ndW (show (z.1, z.2) ∈ ws from mz)
      rw [e1, gy] at this
      cases this
    | some y =>
    refine ⟨_, rfl, if_no rfl ?_⟩
    have my := getA_mem gy
    have hy := (hw _ my).2
    have hy : H1 y.1 = some (.tup [.str y.2.1, .int y.2.2]) := hy
    have dgy : ∀ {Hx : Hp}, Same H1 Hx → DGet Hx d2 (.int b) (some (.ref y.1)) := fun {Hx} sx => by
      have := dg sx
      rw [gy] at this
      exact this
    refine ⟨_, rfl, _, rfl, d2, _, rfl, dgy (Same.refl _), y.1, _, 0, .str y.2.1, rfl, rfl, SqT.of hy, rfl, rfl, _, rfl, ?_⟩
    by_cases yl : y.2.1 = "long"
    case neg =>
      refine if_yes (by rw [decide_eq_false (fun e => yl (V.str.inj e))]; rfl) (kE (fun e m => ?_) _ s1)
      rw [← ew] at m
      obtain ⟨z, mz, ez⟩ := List.mem_map.mp m
      have e1 : z.1 = b := congrArg (fun q : Ar => q.1) ez
      have e2 : z.2.2.1 = "long" := congrArg (fun q : Ar => q.2.1) ez
      have := mem_getA ndW (show (z.1, z.2) ∈ ws from mz)
      rw [e1, gy] at this
      exact yl (by rw [Option.some.inj this]; exact e2)
    refine if_no (by rw [decide_eq_true (congrArg V.str yl)]; rfl) ?_
    have hb : (b, (("long" : Str), y.2.2)) ∈ c.2 := by
      rw [← ew, ← yl]
      exact List.mem_map.mpr ⟨_, my, rfl⟩
    refine ⟨_, rfl, _, rfl, d2, _, rfl, dgy (Same.refl _), y.1, _, 1, V.int y.2.2, rfl, rfl, SqT.of hy, rfl, _, rfl, b1, _, rfl, .inr (sameT (sm.trans s1) sb1), _, _, rfl, ?_⟩
    dsimp only [gName, List.set]
    refine ⟨_, rfl, spread1 hd2 (by have := congrArg List.length ew; rw [List.length_map] at this; omega) rfl rfl rfl fun p1 t1 H2 s2 hp1 ht1 => ?_⟩
    have lws : ws.length = c.2.length := by rw [← ew, List.length_map]
    have be := ar_in N hb
    have wi : ∀ q ∈ ws, 1 ≤ q.1 ∧ 0 ≤ q.2.2.2 ∧ q.2.2.2 < c.1.length ∧ q.1 < c.1.length := fun q m => by
      have m2 : (q.1, q.2.2) ∈ c.2 := by
        rw [← ew]
        exact List.mem_map.mpr ⟨q, m, rfl⟩
      have := ar_in N m2
      have p := N.ok.pos
      refine ⟨this.1, this.2.2.1, this.2.2.2, ?_⟩
      have h2 : q.1 ≤ ((c.1.length - 1 : Nat) : Int) := this.2.1
      omega
    have hw1 : ∀ q ∈ ws, SqT K H1 q.2.1 [.str q.2.2.1, .int q.2.2.2] := fun q m => SqT.of (hw q m).2
    obtain ⟨c1, n1, N1⟩ := one_num N Ok hb
    obtain ⟨c2, n2, N2⟩ := more_num N Ok hb (f := c.1.length) rfl l39
    have nd1 := putA_nodup (k := b) (v := (t1, (("short" : Str), y.2.2))) ndW
    have q1 : numL (lotC c) (putA ws b (t1, (("short" : Str), y.2.2))) (begC c) = some c1 := by
      rw [numL_perm nd1 (ws' := toW (oneR c b y.2.2))]
      · exact n1
      · rw [toW_tail]
        have := put_perm (y := (t1, (("short" : Str), y.2.2))) (b := b) ndW
        rw [ew] at this
        exact this
    have lp1 := putA_len ws b (t1, (("short" : Str), y.2.2))
    refine ⟨b1, p1, ls, c, putA ws b (t1, (("short" : Str), y.2.2)), G, rfl, (sm.trans s1).trans s2, sb1, dls, p0, by omega, hp1, fun q m => ?_, nd1, by omega, fun m => ?_, fun q m => ?_, fun z H3 s3 res => ?_⟩
    · rcases mem_put m with h | h
      · rw [h]
        exact SqT.of ht1
      · exact sameT s2 (hw1 q h)
    · rcases putA_keys.mp m with m | h
      · obtain ⟨q, mq, z⟩ := List.mem_map.mp m
        have := wi q mq
        omega
      · omega
    · rcases mem_put m with h | h
      · rw [h]
        exact be.2.2
      · exact ⟨(wi q h).2.1, (wi q h).2.2.1⟩
    rcases res with ⟨hno, _⟩ | ⟨c1', r1, u1, o1, rfl, hr1, hc1, dc1⟩
    · rw [q1] at hno
      cases hno
    rw [q1] at hc1
    cases hc1
    clear q1 nd1 lp1 hp1 ht1
    have s13 := s1.trans (s2.trans s3)
    have hd3 := s3 _ _ (s2 _ _ hd2)
    have hw3 : ∀ q ∈ ws, SqT K H3 q.2.1 [.str q.2.2.1, .int q.2.2.2] := fun q m => sameT (s2.trans s3) (hw1 q m)
    clear s3 s2 hw1 H2
    dsimp only [gName, List.set]
    refine ⟨_, rfl, by show 0 ≤ sizeLine; exact Nat.zero_le _, fun e1 he1 => ⟨by show 1 ≤ sizeLine; decide, fun e2 he2 => ?_⟩⟩
    have sA := (sameAdd (o := .tup []) he1).trans (sameAdd (o := .tup [V.ref e1]) he2)
    have x1 := sameAdd (o := .tup [V.ref e1]) he2 _ _ (show (upd H3 e1 (.tup [])) e1 = some (.tup []) from upd_same)
    have x2 : (upd (upd H3 e1 (.tup [])) e2 (.tup [V.ref e1])) e2 = some (.tup [V.ref e1]) := upd_same
    generalize upd (upd H3 e1 (.tup [])) e2 (.tup [V.ref e1]) = H4 at sA x1 x2 ⊢
    have s4 := s13.trans sA
    have hd4 := sA _ _ hd3
    have hw4 : ∀ q ∈ ws, SqT K H4 q.2.1 [.str q.2.2.1, .int q.2.2.2] := fun q m => sameT sA (hw3 q m)
    have hr14 := sA _ _ hr1
    have dc14 := dc1.mono sA
    clear he1 he2 hd3 hw3 hr1 dc1 s13 sA H3
    have lne : ls ≠ [] := fun e => by rw [e] at lls; simp at lls; omega
    refine ⟨b1, e2, ls, [V.ref e1], rfl, rfl, sameT (sm.trans s4) sb1, SqT.of x2, by rw [List.length_singleton]; omega, fun e => absurd e lne, fun _ e => absurd e (List.cons_ne_nil _ _), fun _ _ L hL => ?_⟩
    have sB := sameAdd (o := .tup (ls ++ [V.ref e1])) hL
    have LB : (upd H4 L (.tup (ls ++ [V.ref e1]))) L = some (.tup (ls ++ [V.ref e1])) := upd_same
    generalize upd H4 L (.tup (ls ++ [V.ref e1])) = H5 at sB LB ⊢
    have s5 := s4.trans sB
    have hd5 := sB _ _ hd4
    have hw5 : ∀ q ∈ ws, SqT K H5 q.2.1 [.str q.2.2.1, .int q.2.2.2] := fun q m => sameT sB (hw4 q m)
    have hr15 := sB _ _ hr14
    have dc15 := dc14.mono sB
    have x15 := sB _ _ x1
    clear hd4 hw4 hr14 dc14 x1 x2 s4 sB hL H4
    have nbf : b ≠ (ls.length : Int) := fun e => by
      have := wi _ my
      rw [lls] at e
      omega
    refine spread2 hd5 (by omega) nbf rfl rfl rfl rfl fun p2 t2 u2 H6 s6 hp2 ht2 hu2 => ?_
    rw [lls] at hp2 ht2
    have nd1 := putA_nodup (k := b) (v := (t2, (("short" : Str), (c.1.length : Int)))) ndW
    have nf : ¬ (c.1.length : Int) ∈ keysA (putA ws b (t2, (("short" : Str), (c.1.length : Int)))) := fun m => by
      rcases putA_keys.mp m with m | h
      · obtain ⟨q, mq, z⟩ := List.mem_map.mp m
        have := wi q mq
        omega
      · have := wi _ my
        have h : (c.1.length : Int) = b := h
        omega
    have nd2 := putA_nodup (k := (c.1.length : Int)) (v := (u2, (("long" : Str), y.2.2))) nd1
    have q2 : numL (lotC c) (putA (putA ws b (t2, (("short" : Str), (c.1.length : Int)))) (c.1.length : Int) (u2, (("long" : Str), y.2.2))) (begC c) = some c2 := by
      rw [numL_perm nd2 (ws' := toW (moreR c b y.2.2 c.1.length))]
      · exact n2
      · rw [toW_tail]
        rw [put_new nf]
        have := put_perm (y := (t2, (("short" : Str), (c.1.length : Int)))) (b := b) ndW
        rw [ew] at this
        show List.Perm (List.map tailW _) _
        rw [List.map_append]
        refine (this.append_right _).trans ?_
        show ((b, (("short" : Str), (c.1.length : Int))) :: (restB c b ++ [((c.1.length : Int), (("long" : Str), y.2.2))])).Perm _
        refine List.Perm.cons _ ?_
        exact List.perm_append_comm
    have lp1 := putA_len ws b (t2, (("short" : Str), (c.1.length : Int)))
    have lp2 := putA_len (putA ws b (t2, (("short" : Str), (c.1.length : Int)))) (c.1.length : Int) (u2, (("long" : Str), y.2.2))
    refine ⟨L, p2, ls ++ [V.ref e1], (c.1 ++ [[]], c.2), _, H6, rfl, Same.refl _, sameT s6 (SqT.of LB), ?_, by show 0 < (c.1 ++ [[]]).length; rw [List.length_append]; omega, by show (c.1 ++ [[]]).length ≤ 60; rw [List.length_append, List.length_singleton]; omega, hp2, fun q m => ?_, nd2, by omega, fun m => ?_, fun q m => ?_, fun z H7 s7 res => ?_⟩
    · have h1 := dls.mono ((sm.trans s5).trans s6)
      have h2 : DaAll K H6 [V.ref e1] [PyData.tuple (([] : List Str).map .str)] := .cons (.tup (SqT.of (s6 _ _ x15)) .nil) .nil
      have := h1.append h2
      rw [← List.map_singleton (f := fun l : List Str => PyData.tuple (l.map .str)), ← List.map_append] at this
      exact this
    · rcases mem_put m with h | m
      · rw [h]
        exact SqT.of hu2
      rcases mem_put m with h | h
      · rw [h]
        exact SqT.of ht2
      · exact sameT s6 (hw5 q h)
    · rcases putA_keys.mp m with m | h
      · rcases putA_keys.mp m with m | h
        · obtain ⟨q, mq, z⟩ := List.mem_map.mp m
          have := wi q mq
          omega
        · have := wi _ my
          have h : (0 : Int) = b := h
          omega
      · omega
    · show 0 ≤ q.2.2.2 ∧ q.2.2.2 < ((c.1 ++ [[]]).length : Int)
      rw [List.length_append, List.length_singleton]
      rcases mem_put m with h | m
      · rw [h]
        have := be.2.2
        have h2 : y.2.2 < (c.1.length : Int) := this.2
        exact ⟨this.1, by show y.2.2 < _; omega⟩
      rcases mem_put m with h | h
      · rw [h]
        exact ⟨by show (0 : Int) ≤ (c.1.length : Int); omega, by show (c.1.length : Int) < _; omega⟩
      · have := wi q h
        exact ⟨this.2.1, by omega⟩
    rw [lot_snoc, beg_snoc] at res
    rcases res with ⟨hno, _⟩ | ⟨c2', r2, v2, o2, rfl, hr2, hc2, dc2⟩
    · rw [q2] at hno
      cases hno
    rw [q2] at hc2
    cases hc2
    dsimp only [gName, List.set]
    refine ⟨_, rfl, _, rfl, by show 2 ≤ sizeLine; decide, fun M hM => ?_⟩
    have s57 := s6.trans (s7.trans (sameAdd (o := .lst [V.ref r1, V.ref r2]) hM))
    refine k y.2.2 c1 c2 hb n1 n2 M r1 u1 r2 v2 o1 o2 _ (s5.trans s57) upd_same (s57 _ _ hr15) (sameAdd hM _ _ hr2) (dc15.mono s57) (dc2.mono (sameAdd hM))
end
end L2.Hx

/-! Both cases in order. -/
namespace L2.Hx
open PySem PySem.Spec PyProof.Rows
theorem alikeAll_map {α : Type} {f : α → PyData} (h : ∀ a b, PySem.W.alike (f a) (f b) = true) : ∀ xs ys : List α, PySem.W.alikeAll (xs.map f) (ys.map f) = true
  | [], [] => by simp [PySem.W.alikeAll]
  | [], _ :: _ => by simp [PySem.W.alikeAll]
  | _ :: _, [] => by simp [PySem.W.alikeAll]
  | x :: xs, y :: ys => by
    have ih := alikeAll_map h xs ys
    simp [PySem.W.alikeAll, h x y, ih]
theorem alike_case (c c' : Cs) : PySem.W.alike (caseD c) (caseD c') = true := by
  have h1 := alikeAll_map (f := fun l : List Str => PyData.tuple (l.map .str)) (fun a b => by simp [PySem.W.alike, alike_strs]) c.1 c'.1
  have h2 := alikeAll_map (f := arD) (fun a b => by simp [arD, PySem.W.alike, PySem.W.alikeAll]) c.2 c'.2
  simp [caseD, PySem.W.alike, PySem.W.alikeAll, h1, h2]
theorem depth_case (c : Cs) : (caseD c).depth ≤ 60 := by
  have h1 : PyData.depthAll (c.1.map fun l => PyData.tuple (l.map .str)) ≤ 2 := depthAll_le fun d m => by
    obtain ⟨l, _, rfl⟩ := List.mem_map.mp m
    have := depth_strs l
    simp only [PyData.depth]
    omega
  have h2 : PyData.depthAll (c.2.map arD) ≤ 2 := depthAll_le fun d m => by
    obtain ⟨q, _, rfl⟩ := List.mem_map.mp m
    simp [arD, PyData.depth, PyData.depthAll]
  simp only [caseD, PyData.depth, PyData.depthAll]
  omega
mutual
def tupD : PyData → Bool
  | .tuple ds => tupDs ds
  | .list _ => false
  | .dict _ => false
  | _ => true
def tupDs : List PyData → Bool
  | [] => true
  | d :: ds => tupD d && tupDs ds
end
theorem tupDs_map {α : Type} {f : α → PyData} (h : ∀ a, tupD (f a) = true) : ∀ l : List α, tupDs (l.map f) = true
  | [] => by
    rw [List.map_nil, tupDs]
  | a :: l => by
    rw [List.map_cons, tupDs, h a, tupDs_map h l]
    rfl
theorem tupD_case (c : Cs) : tupD (caseD c) = true := by
  have h1 : tupD (lotsD c.1) = true := by
    rw [tupD]
    refine tupDs_map (fun l => ?_) _
    rw [tupD]
    refine tupDs_map (fun z => ?_) _
    rw [tupD]
    all_goals (intro _ h; cases h)
  have h2 : tupD (.tuple (c.2.map arD)) = true := by
    rw [tupD]
    refine tupDs_map (fun q => ?_) _
    simp [arD, tupD, tupDs]
  show tupD (.tuple [lotsD c.1, .tuple (c.2.map arD)]) = true
  rw [tupD, tupDs, tupDs, tupDs, h1, h2]
  rfl
mutual
theorem Da.tups {K : PySem.W.Frag} {G G' : Hp} (s : ∀ a xs, SqT K G a xs → SqT K G' a xs) : ∀ {d : PyData} {v : V}, Da K G v d → tupD d = true → Da K G' v d
  | _, _, .non, _ => .non
  | _, _, .bl b, _ => .bl b
  | _, _, .int i, _ => .int i
  | _, _, .str x, _ => .str x
  | _, _, .lst h t, c => by simp [tupD] at c
  | _, _, .tup h t, c => .tup (s _ _ h) (DaAll.tups s t (by simpa [tupD] using c))
  | _, _, .dct _ _, c => by simp [tupD] at c
theorem DaAll.tups {K : PySem.W.Frag} {G G' : Hp} (s : ∀ a xs, SqT K G a xs → SqT K G' a xs) : ∀ {ds : List PyData} {vs : List V}, DaAll K G vs ds → tupDs ds = true → DaAll K G' vs ds
  | _, _, .nil, _ => .nil
  | _, _, .cons h t, c => by
    rw [tupDs, Bool.and_eq_true] at c
    exact .cons (Da.tups s h c.1) (DaAll.tups s t c.2)
end
mutual
theorem Da.dpT {K : PySem.W.Frag} {G H : Hp} (s : Same G H) : ∀ {d : PyData} {v : V}, Da K G v d → tupD d = true → Dp K H v d
  | _, _, .non, _ => .non
  | _, _, .bl b, _ => .bl b
  | _, _, .int i, _ => .int i
  | _, _, .str x, _ => .str x
  | _, _, .lst h t, c => by simp [tupD] at c
  | _, _, .tup h t, c => .tup (sameT s h) (DaAll.dpT s t (by simpa [tupD] using c))
  | _, _, .dct _ _, c => by simp [tupD] at c
theorem DaAll.dpT {K : PySem.W.Frag} {G H : Hp} (s : Same G H) : ∀ {ds : List PyData} {vs : List V}, DaAll K G vs ds → tupDs ds = true → DpAll K H vs ds
  | _, _, .nil, _ => .nil
  | _, _, .cons h t, c => by
    rw [tupDs, Bool.and_eq_true] at c
    exact .cons (Da.dpT s h c.1) (DaAll.dpT s t c.2)
end
theorem daall_of {α : Type} {K : PySem.W.Frag} {G : Hp} {f : α → PyData} : ∀ {ys : List V} {qs : List α}, Paired (fun (x : V) (q : α) => Da K G x (f q)) ys qs → DaAll K G ys (qs.map f)
  | _, _, .nil => .nil
  | _, _, .cons h t => .cons h (daall_of t)
def dueL (c1 c2 : Cs) : List Cs := [c1, c2].mergeSort (PySem.W.dataLe false caseD)
def spOpened (K : PySem.W.Frag) (C : Addr) : Sp := fun vs H Q E => ∃ (n v : V) (b : Int) (G : Hp) (ns : List Str) (c : Cs), vs = [n, v, .int b] ∧ Same G H ∧ Da K G v (caseD c) ∧ CaseN ns c ∧ NsOk ns ∧ c.1.length ≤ 59 ∧ c.2.length ≤ 39 ∧
  ((∀ e, ¬ (b, (("long" : Str), e)) ∈ c.2) → ∀ H', Same H H' → E (.ref C) none H') ∧
  (∀ e c1 c2, (b, (("long" : Str), e)) ∈ c.2 → numL (lotC c) (toW (oneR c b e)) (begC c) = some c1 → numL (lotC c) (toW (moreR c b e c.1.length)) (begC c) = some c2 →
    ∀ (z : V) (H' : Hp), Same H H' → Da K H' z (.tuple ((dueL c1 c2).map caseD)) → Q z H')
section
variable {P : Program} {w : World} {K : PySem.W.Frag} {mg : Str → Option Value} {base : Heap}
theorem D_opened (T : Txt K mg) {C : Addr} (hU : OwnExc K mg "Unfit" C) : DfX P w K mg base 3 "opened" s_opened ["names", "case", "begin"] (spOpened K C) := by
  have D_opened_ways := D_opened_ways (P := P) (w := w) (base := base) T hU
  obtain ⟨f, fd, S⟩ := T.d_opened
  refine DfX.mk' (k := 2) S sc_opened (fun vs H Q E h => ?_) (fun cdv A outer s H vs Q E hgd hr h => ?_)
  · obtain ⟨n, v, s, G, ns, c, rfl, _⟩ := h
    rfl
  · obtain ⟨n, v, b, G, ns, c, rfl, sm, da, N, Ok, l59, l39, kE, k⟩ := h
    have hu := hu_of hr
    have big : (2000 : Nat) ≤ sizeLine := by decide
    have tkE : Takes (cxOf (L2.CX P w) P w K mg base ["names", "case", "begin", "ahead", "_"] "opened" (defScope s_opened) f cdv A outer s H E) (fun cls d _ H => E cls d H) := takes_of rfl rfl rfl rfl
    refine ⟨_, (pss_one (ps_ret (pe_callTy call_tuple_of (by rfl) T.b_tuple (by decide +kernel) (pa_cons (pe_callB (cr_sortedT2 hr.units) (by rfl) T.b_sorted (by decide +kernel) (pa_cons (pe_lc (X := (cxOf (L2.CX P w) P w K mg base ["names", "case", "begin", "ahead", "_"] "opened" (defScope s_opened) f cdv A outer s H E)) (own := [("ahead", 3), ("_", 4)]) (g := gTup K 2 (gCons (gName 3) (gCons (gName 4) gNil))) (te := tVar 3) (tt := tYes) rfl sc_opened.nd (pi_list (pe_dS (E := fun _ => E) D_opened_ways hgd hr (fun σ => passAt tkE σ) (pa_cons (pv 1) (pa_cons (pv 2) pa_nil)))) (blkOk_by (own := [("ahead", 3), ("_", 4)]) (N := ["names", "case", "begin", "ahead", "_"]) (sc := defScope s_opened) (by decide +kernel)) (fun _ _ _ _ _ => pg_tup rfl (pgs_cons (pg_name (i := 3) sc_opened.nd rfl (.inl rfl)) (pgs_cons (pg_name (i := 4) sc_opened.nd rfl (.inl rfl)) pgs_nil))) (fun _ _ _ _ _ => pts_nil) (fun _ _ _ _ _ => (pv 3))) pa_nil)) pa_nil)))), ?_⟩
    refine ⟨_, rfl, _, rfl, v, b, G, ns, c, rfl, sm, da, N, Ok, l59, l39, kE, fun e c1 c2 hb n1 n2 L r1 t1 r2 t2 o1 o2 H1 s1 hL hr1 hr2 d1 d2 => ?_⟩
    have P2 : ∀ (i : Nat) (r : V) (Hx : Hp), ([V.ref r1, V.ref r2] : List V)[i]? = some r → Same H1 Hx → ∃ (a t : Addr) (o : V), r = V.ref a ∧ ([t1, t2] : List Addr)[i]? = some t ∧ Hx a = some (.tup [.ref t, o]) := fun i r Hx hi sx => by
      match i, hi with
      | 0, hi => exact ⟨r1, t1, o1, (Option.some.inj hi).symm, rfl, sx _ _ hr1⟩
      | 1, hi => exact ⟨r2, t2, o2, (Option.some.inj hi).symm, rfl, sx _ _ hr2⟩
      | i + 2, hi => cases hi
    refine ⟨L, rfl, ⟨_, SqL.of hL⟩, fun B hB => lc_list (K := K) (a := L) (xs := [V.ref r1, V.ref r2]) (fun i Hx => Same H1 Hx ∧ Hx B = some (.lst ((([t1, t2] : List Addr).take i).map V.ref))) ⟨sameAdd hB, upd_same⟩ (fun i Hx _ h => SqL.of (h.1 _ _ hL)) ?_ ?_⟩
    · rintro i x Hx hx ⟨sx, lx⟩
      obtain ⟨a, t, o, rfl, ht, ha⟩ := P2 i x Hx hx sx
      have tk : ([t1, t2] : List Addr).take (i + 1) = ([t1, t2] : List Addr).take i ++ [t] := by rw [List.take_add_one, ht]; rfl
      refine ⟨a, _, rfl, SqT.of ha, rfl, _, _, rfl, _, _, rfl, rfl, rfl, _, rfl, _, lx, ?_, sameOut sx hB, ?_⟩
      · rw [List.length_map, List.length_take]
        show min i 2 < _
        omega
      · rw [upd_same, tk, List.map_append]
        rfl
    · rintro H2 ⟨s2, lB⟩
      have lB : H2 B = some (.lst [V.ref t1, V.ref t2]) := lB
      have s12 := s1.trans s2
      have e1 := d1.mono s2
      have e2 := d2.mono s2
      have pr : Paired (fun (x : V) (q : Cs) => (∃ t, x = V.ref t) ∧ Da K H2 x (caseD q)) [V.ref t1, V.ref t2] [c1, c2] := .cons ⟨⟨_, rfl⟩, e1⟩ (.cons ⟨⟨_, rfl⟩, e2⟩ .nil)
      refine ⟨B, [V.ref t1, V.ref t2], Cs, [c1, c2], caseD, fun x q => (∃ t, x = V.ref t) ∧ Da K H2 x (caseD q), rfl, SqL.of lB, fun x m => ?_, pr, ?_, alike_case, fun q => ⟨_, _, rfl⟩, fun q _ => depth_case q, fun ys p py pry hp => ?_⟩
      · rcases List.mem_cons.mp m with h | h
        · exact ⟨_, h⟩
        · exact ⟨_, List.mem_singleton.mp h⟩
      · exact .cons (e1.dpT (Same.refl _) (tupD_case c1)) (.cons (e2.dpT (Same.refl _) (tupD_case c2)) .nil)
      · have sp : Same H2 (upd H2 p (.lst ys)) := sameAdd hp
        have lp : (upd H2 p (.lst ys)) p = some (.lst ys) := upd_same
        refine ⟨p, ys, rfl, .inl ⟨SqL.of lp, fun q hq => k e c1 c2 hb n1 n2 _ _ (s12.trans (sp.trans (sameAdd hq))) (.tup (SqT.of upd_same) ?_)⟩⟩
        have pd : Paired (fun (x : V) (z : Cs) => Da K (upd (upd H2 p (.lst ys)) q (.tup ys)) x (caseD z)) ys (dueL c1 c2) := paired_mpL pry fun x z h => h.2.mono (sp.trans (sameAdd hq))
        exact daall_of pd
end
end L2.Hx

/-! What is heard of opened: an answer, or that it is refused. -/
namespace L2.Hx
open PySem PySem.Spec PyProof.Rows
theorem pss_if {X : Cx} {p : Prop} {st : List Stmt} {t : TS} (h : p → PSs X st t) : PSs X st (fun D σ H => p ∧ t D σ H) := ⟨fun pins s σ H D I hw => (h hw.1).run pins s σ H D I hw.2⟩
def rev3 {α : Type} : List α → List α
  | [a, b, c] => [c, b, a]
  | l => l
theorem rev3_rel {zs : List V} {ws : List Value} (h : Vals zs ws) : Vals (rev3 zs) (rev3 ws) := by
  match zs, ws, h with
  | [], [], .nil => exact .nil
  | [_], [_], .cons a .nil => exact .cons a .nil
  | [_, _], [_, _], .cons a (.cons b .nil) => exact .cons a (.cons b .nil)
  | [_, _, _], [_, _, _], .cons a (.cons b (.cons c .nil)) => exact .cons c (.cons b (.cons a .nil))
  | _ :: _ :: _ :: _ :: _, _ :: _ :: _ :: _ :: _, h => exact h
def spHeard (K : PySem.W.Frag) : Sp := fun vs H Q _ => ∃ (n v : V) (b : Int) (nm : Bool) (G : Hp) (ns : List Str) (c : Cs), vs = [n, v, .int b, .bl nm] ∧ Same G H ∧ Da K G v (caseD c) ∧ CaseN ns c ∧ NsOk ns ∧ c.1.length ≤ 59 ∧ c.2.length ≤ 39 ∧
  ((∀ e, ¬ (b, (("long" : Str), e)) ∈ c.2) → ∀ (z : Addr) (H' : Hp), Same H H' → H' z = some (.lst [.str "unfit", .bl true]) → Q (.ref z) H') ∧
  (∀ e c1 c2, (b, (("long" : Str), e)) ∈ c.2 → numL (lotC c) (toW (oneR c b e)) (begC c) = some c1 → numL (lotC c) (toW (moreR c b e c.1.length)) (begC c) = some c2 →
    ∀ (z : Addr) (u : V) (H' : Hp), Same H H' → H' z = some (.lst [.str "told", u]) → Da K H' u (.tuple ((dueL c1 c2).map caseD)) → Q (.ref z) H')
section
variable {P : Program} {w : World} {K : PySem.W.Frag} {mg : Str → Option Value} {base : Heap}
theorem D_l_heard (T : Txt K mg) : Df P w K mg base 4 "_law_heard" ["names", "case", "begin", "is_named"] (spHeard K) := by
  obtain ⟨C, CH, hU, hHE, hkit⟩ := T.e_Unfit
  have D_opened := D_opened (P := P) (w := w) (base := base) T hU
  have DK_opened := D_opened.kw (ks := ["begin", "case", "names"]) (g := rev3) (fun _ _ _ _ _ _ ws hl => match ws, hl with | [_, _, _], _ => rfl)
  obtain ⟨f, fd, S⟩ := T.d_l_heard
  refine Df.mk' (k := 3) S sc_l_heard (fun vs H Q E h => ?_) (fun cdv A outer s H vs Q E hgd hr h => ?_)
  · obtain ⟨n, v, s, nm, G, ns, c, rfl, _⟩ := h
    rfl
  · obtain ⟨n, v, b, nm, G, ns, c, rfl, sm, da, N, Ok, l59, l39, kU, kT⟩ := h
    have hu := hu_of hr
    have big : (2000 : Nat) ≤ sizeLine := by decide
    refine ⟨_, pss_one (ps_try_as (i := 4) (tb := fun W => tRet (tLst (tCons (tC (.str "told")) (tCons (tIf (tB (tVar 3)) (tKwS (spOpened K C) rev3 3 (WE W) (tCons (tVar 2) (tCons (tVar 1) (tCons (tVar 0) tNil)))) (tCallS (spOpened K C) (WE W) (tCons (tVar 0) (tCons (tVar 1) (tCons (tVar 2) tNil))))) tNil))))
      (ts := fun a cls d D σ H => (cls = .ref C ∧ d = none) ∧ tRet (tLst (tCons (tC (.str "unfit")) (tCons (tCB (rIsE K C a) (tCons (tVar 4) (tCons (tC (.ref CH)) tNil))) tNil))) D σ H) (Wout := fun _ _ _ _ => False) rfl rfl sc_l_heard.nd rfl rfl ⟨rfl, by decide, .inl hU.at_⟩ takes0
      (fun W pn xe tk _ => pss_one (ps_ret (pe_lst (pa_cons pe_str (pa_cons (pe_ifExp (pt_val (pv 3)) (pe_kwS DK_opened hgd hr (fun σ => passAt tk σ) (pk_cons (pv 2) (pk_cons (pv 1) (pk_cons (pv 0) pk_nil))) rev3_rel) (pe_dS D_opened hgd hr (fun σ => passAt tk σ) (pa_cons (pv 0) (pa_cons (pv 1) (pa_cons (pv 2) pa_nil))))) pa_nil)))))
      (fun a oe cls d pn hz hf => pss_if fun hcd => pss_one (ps_ret (pe_lst (pa_cons pe_str (pa_cons (pe_callB (call_isE hU.is_ (by rw [hcd.1, hcd.2] at hz; exact hz) hf) (by rfl) T.b_isinstance (by decide +kernel) (pa_cons (pv 4) (pa_cons (pe_glob (v := .ref CH) (by rfl) hHE rfl) pa_nil))) pa_nil)))))), ?_⟩
    refine ⟨_, rfl, nm, rfl, iteB (fun _ => ⟨_, rfl, _, rfl, _, rfl, rfl, ?_⟩) (fun _ => ⟨_, rfl, _, rfl, _, rfl, ?_⟩)⟩
    all_goals
      refine ⟨n, v, b, G, ns, c, rfl, sm, da, N, Ok, l59, l39, fun hne H1 s1 => ?_, fun e c1 c2 hb n1 n2 z H1 s1 dz => ?_⟩
      · refine ⟨true, hU.exm, fun _ a ha => ⟨⟨rfl, rfl⟩, ?_⟩, fun q => Bool.noConfusion q⟩
        refine ⟨_, rfl, V.ref CH, .ref CH, true, rfl, fun u r => r, hkit, by show 2 ≤ sizeLine; decide, fun L hL => ?_⟩
        exact kU hne L _ (s1.trans (sameAdd hL)) upd_same
      · refine ⟨by show 2 ≤ sizeLine; decide, fun L hL => ?_⟩
        exact kT e c1 c2 hb n1 n2 L z _ (s1.trans (sameAdd hL)) upd_same (dz.mono (sameAdd hL))
end
end L2.Hx

/-! Whether a case is fitted, as the law finds it. -/
namespace L2.Hx
open PySem PySem.Spec PyProof.Rows
theorem seq_by {a b : TS} {D : Ends} {σ : St} {H : Hp} (J : St → Hp → Prop) (h1 : (∀ σ2 H2, J σ2 H2 → b D σ2 H2) → a { D with nx := b D } σ H) (h2 : ∀ σ2 H2, J σ2 H2 → b D σ2 H2) : tSeq a b D σ H := h1 h2
theorem rest_perm {ws : Ws} {b : Int} {y : Wy} (nd : (keysA ws).Nodup) (g : getA ws b = some y) : (ws.map tailW).Perm ((b, y.2) :: (ws.filter fun q => decide (q.1 ≠ b)).map tailW) := by
  have my := getA_mem g
  have p := (List.filter_append_perm (fun q : Int × Wy => decide (q.1 = b)) ws).symm.map tailW
  refine p.trans ?_
  have e1 : ws.filter (fun q => decide (q.1 = b)) = [(b, y)] := by
    have pm : (ws.filter fun q => decide (q.1 = b)).Perm [(b, y)] := by
      have ndw : ws.Nodup := by
        have h : ws.Pairwise fun a b => a.1 ≠ b.1 := List.pairwise_map.mp nd
        exact h.imp fun h e => h (by rw [e])
      refine (List.perm_ext_iff_of_nodup (ndw.sublist List.filter_sublist) (by simp)).mpr fun q => ?_
      rw [List.mem_filter, decide_eq_true_eq, List.mem_singleton]
      refine ⟨fun ⟨m, e⟩ => ?_, fun e => by rw [e]; exact ⟨my, rfl⟩⟩
      have := mem_getA nd (show (q.1, q.2) ∈ ws from m)
      rw [e, g] at this
      exact Prod.ext e (Option.some.inj this).symm
    exact List.perm_singleton.mp pm
  have e2 : ws.filter (fun q => !decide (q.1 = b)) = ws.filter fun q => decide (q.1 ≠ b) := List.filter_congr fun q _ => by simp
  rw [List.map_append, e1, e2]
  exact List.Perm.refl _
theorem vals_kn (kn : List (Int × Int)) : (kvK Sum.inl V.int kn).map Prod.snd = (kn.map Prod.snd).map V.int := by
  unfold kvK
  rw [List.map_map, List.map_map]
  rfl
def spFits (K : PySem.W.Frag) (n : Nat) : Sp := fun vs H Q _ => ∃ (wd kd cd ad : Addr) (ws : Ws) (kn cl : List (Int × Int)) (am : List Int), vs = [.ref wd, .ref kd, .ref cd, .ref ad] ∧ H wd = some (.dK (kvK Sum.inl wyV ws)) ∧ (∀ q ∈ ws, SqT K H q.2.1 [.str q.2.2.1, .int q.2.2.2]) ∧ (keysA ws).Nodup ∧ ws.length < n ∧ wd ≠ kd ∧
  H kd = some (.dK (kvK Sum.inl V.int kn)) ∧ (keysA kn).Nodup ∧ kn.length + ws.length ≤ 300 ∧ H cd = some (.dK (kvK Sum.inl V.int cl)) ∧ (keysA cl).Nodup ∧ H ad = some (.lst (am.map V.int)) ∧ am.length + cl.length ≤ 5000 ∧
  ∀ b H', Same H H' → (FitP (ws.map tailW) kn cl am → b = true) → Q (.bl b) H'
section
variable {P : Program} {w : World} {K : PySem.W.Frag} {mg : Str → Option Value} {base : Heap}
theorem D_fits0 (T : Txt K mg) : Df P w K mg base 0 "_law_fits" ["ways", "known", "cells", "amid"] (spFits K 0) := by
  obtain ⟨f, fd, S⟩ := T.d_l_fits
  have no : ∀ {vs : List V} {H : Hp} {Q : VK} {E : XK}, ¬ spFits K 0 vs H Q E := fun {vs H Q E} ⟨_, _, _, _, ws, _, _, _, _, _, _, _, h, _⟩ => absurd h (Nat.not_lt_zero _)
  exact ⟨f, fd, ⟨fun vs H Q E h => absurd h no, fun _ _ _ _ _ _ _ _ _ _ _ _ _ _ h => absurd h no⟩, S.at_, S.fn.kp, S.bd⟩
theorem D_fits1 (T : Txt K mg) {n : Nat} (D_l_fits : Df P w K mg base n "_law_fits" ["ways", "known", "cells", "amid"] (spFits K n)) : Df P w K mg base (n + 1) "_law_fits" ["ways", "known", "cells", "amid"] (spFits K (n + 1)) := by
  obtain ⟨f, fd, S⟩ := T.d_l_fits
  refine Df.mk' (k := n) S sc_l_fits (fun vs H Q E h => ?_) (fun cdv A outer s H vs Q E hgd hr h => ?_)
  · obtain ⟨wd, kd, cd, ad, ws, kn, cl, am, rfl, _⟩ := h
    rfl
  · obtain ⟨wd, kd, cd, ad, ws, kn, cl, am, rfl, hW, hwt, ndW, lW, nwk, hK, ndK, lK, hC, ndC, hA, lA, k⟩ := h
    have hu := hu_of hr
    have big : (6000 : Nat) ≤ sizeLine := by decide
    refine ⟨_, (pss_cons (ps_lock (ps_setLc (i := 4) (X := (cxOf CX0 P w K mg base ["ways", "known", "cells", "amid", "ready", "begin", "own", "kind", "end", "rest", "left", "here", "between", "value", "is_end", "further"] "_law_fits" (defScope s_l_fits) f cdv A outer s H E).nox) (own := [("begin", 5)]) (tt := tB (tDIn (tVar 5) (tVar 1))) (te := tVar 5) (g := gName 5) rfl sc_l_fits.nd rfl rfl (sw_true rfl rfl rfl (by decide +kernel)) (pi_keys (pv 0)) (blkOk_by (own := [("begin", 5)]) (N := ["ways", "known", "cells", "amid", "ready", "begin", "own", "kind", "end", "rest", "left", "here", "between", "value", "is_end", "further"]) (sc := defScope s_l_fits) (by decide +kernel)) (fun _ _ _ _ _ => pg_name (i := 5) sc_l_fits.nd rfl (.inl rfl)) (fun _ _ _ _ _ => (pts_one (pt_cmp (pc_din hu (pv 5) (pv 1))))) (fun _ _ _ _ _ => (pv 5))))
      (pss_cons (ps_if (pt_cmpR (op_eqD hr.units) (pv 4) (pe_lst pa_nil) (nomark _)) (pss_one (ps_ret (pe_and (pe_cmpR (op_eqDct hr.units0) (pv 0) pe_dnewK (nomark _)) (pe_and (pe_cmpR (op_eqDct hr.units0) (pv 2) pe_dnewK (nomark _)) (pe_one (pe_cmpR (op_eqD hr.units) (pe_lc (X := (cxOf CX0 P w K mg base ["ways", "known", "cells", "amid", "ready", "begin", "own", "kind", "end", "rest", "left", "here", "between", "value", "is_end", "further"] "_law_fits" (defScope s_l_fits) f cdv A outer s H E).nox) (own := [("own", 6)]) (tt := tTest (tOp (rIn K false) (tVar 6) (tListVals (tVar 1)))) (te := tC (.int 1)) (g := gName 6) rfl sc_l_fits.nd (pi_list (pv 3)) (blkOk_by (own := [("own", 6)]) (N := ["ways", "known", "cells", "amid", "ready", "begin", "own", "kind", "end", "rest", "left", "here", "between", "value", "is_end", "further"]) (sc := defScope s_l_fits) (by decide +kernel)) (fun _ _ _ _ _ => pg_name (i := 6) sc_l_fits.nd rfl (.inl rfl)) (fun _ _ _ _ _ => (pts_one (pt_cmpR op_in_seq (pv 6) (pe_listVals rfl (pv 1) (by rfl) T.b_list rfl) (by rfl)))) (fun _ _ _ _ _ => pe_int)) (pe_lst pa_nil) (nomark _))))))) pss_nil)
      (pss_cons (ps_set (i := 5) sc_l_fits.nd rfl (.inr rfl) (pe_ix ix_list (pv 4) pe_int (fun _ _ => rfl)))
      (pss_cons (ps_asg (pe_dget hu (pv 0) (pv 5) (fun _ _ => rfl)) (pg_tup rfl (pgs_cons (pg_name (i := 7) sc_l_fits.nd rfl (.inl rfl)) (pgs_cons (pg_name (i := 8) sc_l_fits.nd rfl (.inl rfl)) pgs_nil))))
      (pss_cons (ps_set (i := 9) sc_l_fits.nd rfl (.inl rfl) (pe_callTy (call_dictP rfl) (by rfl) T.b_dict (by decide +kernel) (pa_cons (pe_lock (pe_lc (X := (cxOf CX0 P w K mg base ["ways", "known", "cells", "amid", "ready", "begin", "own", "kind", "end", "rest", "left", "here", "between", "value", "is_end", "further"] "_law_fits" (defScope s_l_fits) f cdv A outer s H E).nox) (own := [("own", 6)]) (tt := tTest (tOp rNe (tVar 6) (tVar 5))) (te := tTup (tCons (tVar 6) (tCons (tDGet (tVar 0) (tVar 6)) tNil))) (g := gName 6) rfl sc_l_fits.nd (pi_keys (pv 0)) (blkOk_by (own := [("own", 6)]) (N := ["ways", "known", "cells", "amid", "ready", "begin", "own", "kind", "end", "rest", "left", "here", "between", "value", "is_end", "further"]) (sc := defScope s_l_fits) (by decide +kernel)) (fun _ _ _ _ _ => pg_name (i := 6) sc_l_fits.nd rfl (.inl rfl)) (fun _ _ _ _ _ => (pts_one (pt_cmpR op_ne (pv 6) (pv 5) (nomark _)))) (fun _ _ _ _ _ => (pe_tup (pa_cons (pv 6) (pa_cons (pe_dget hu (pv 0) (pv 6) (fun _ _ => rfl)) pa_nil)))))) pa_nil)))
      (pss_cons (ps_par3 (i := 10) (j := 11) (l := 12) (by rfl) sc_l_fits.nd rfl rfl rfl (by decide) (by decide) (by decide) rfl rfl rfl (pa_cons (pe_callTy call_dictD (by rfl) T.b_dict (by decide +kernel) (pa_cons (pv 2) pa_nil)) (pa_cons (pe_dget hu (pv 1) (pv 5) (fun _ _ => rfl)) (pa_cons (pe_callTy call_list_of (by rfl) T.b_list (by decide +kernel) (pa_cons (pv 3) pa_nil)) pa_nil))) (by rfl))
      (pss_cons (ps_while PassesOwn.never (pt_cmp (pc_din hu (pv 11) (pv 10))) (pss_cons (ps_set (i := 13) sc_l_fits.nd rfl (.inl rfl) (pe_dpop1 (pv 10) (pv 11) ⟨by rfl, by rfl, by rfl, by rfl⟩))
      (pss_cons (ps_set (i := 14) sc_l_fits.nd rfl (.inl rfl) (pe_ifExp (pt_cmp (pc_din hu (pv 8) (pv 1))) (pe_cmpR op_eq (pv 13) (pe_dget hu (pv 1) (pv 8) (fun _ _ => rfl)) (nomark _)) (pe_and (pe_cmpR op_ne (pv 13) pe_int (nomark _)) (pe_one (pe_cmpR op_notIn_seq (pv 13) (pe_listVals rfl (pv 1) (by rfl) T.b_list rfl) (by rfl))))))
      (pss_cons (ps_if (pt_val (pv 14)) (pss_cons (ps_set (i := 15) sc_l_fits.nd rfl (.inl rfl) (pe_callTy call_dictD (by rfl) T.b_dict (by decide +kernel) (pa_cons (pv 1) pa_nil)))
      (pss_cons (ps_dput hu (pv 15) (pv 8) (pv 13) rfl)
      (pss_one (ps_if (pt_val (pe_d D_l_fits hgd hr (pa_cons (pv 9) (pa_cons (pv 15) (pa_cons (pv 10) (pa_cons (pv 12) pa_nil)))))) (pss_one (ps_ret pe_bl)) pss_nil)))) pss_nil)
      (pss_cons (ps_if (PW.pt (pw_or (pt_cmpR op_eq (pv 7) pe_str (nomark _)) (pw_or1 (PW.pt (pw_and (pt_val (pv 14)) (pw_and1 (pt_cmp (pc_din hu (pv 8) (pv 1))))))))) (pss_one (ps_ret pe_bl)) pss_nil)
      (pss_cons (ps_set (i := 11) sc_l_fits.nd rfl (.inl rfl) (pv 13))
      (pss_one (ps_expr (pe_bm PySem.F.plainAttrs_list PySem.F.slot_list_append PySem.F.type_list_append mt_append (pv 12) (pa_cons (pv 13) pa_nil))))))))))
      (pss_one (ps_ret pe_bl))))))))), ?_⟩
    refine lc_keysE (d := wd) (kvs := kvK Sum.inl wyV ws) rfl hW (fun i xs Hz => xs = (((ws.take i).filter fun q => decide (q.1 ∈ keysA kn)).map Prod.fst).map V.int) (fun _ _ _ _ _ h => h) rfl ?_ (by rw [kv_len]; omega) ?_
    · rintro od i2 kk vv Hz xs Ny Nn hk fz bz rfl lx yes no
      obtain ⟨⟨s, z⟩, hr, e⟩ : ∃ q, ws[i2]? = some q ∧ (Sum.inl q.1, wyV q.2) = (kk, vv) := by
        unfold kvK at hk
        rw [List.getElem?_map] at hk
        obtain ⟨q, e1, e2⟩ := Option.map_eq_some_iff.mp hk
        exact ⟨q, e1, e2⟩
      cases e
      have tk : ws.take (i2 + 1) = ws.take i2 ++ [(s, z)] := by rw [List.take_add_one, hr]; rfl
      refine ⟨_, rfl, _, rfl, kd, _, rfl, dgetI (f := V.int) (bz _ _ nwk.symm hK) s, _, rfl, ?_⟩
      rw [isA]
      refine iteD (fun hc => ?_) (fun hc => ?_)
      · refine ⟨_, rfl, yes _ _ fz (But.refl _ _) ?_⟩
        rw [tk, List.filter_append, show [(s, z)].filter (fun q : Int × Wy => decide (q.1 ∈ keysA kn)) = [(s, z)] by simp [hc], List.map_append, List.map_append]
        rfl
      · refine no _ fz (But.refl _ _) ?_
        rw [tk, List.filter_append, show [(s, z)].filter (fun q : Int × Wy => decide (q.1 ∈ keysA kn)) = [] by simp [hc], List.append_nil]
    · rintro Lr xs H1 s1 hL L1 rfl lx
      rw [kv_len, List.take_length] at L1
      rw [kv_len, List.length_map, List.length_map] at lx
      dsimp only [gName, List.set]
      generalize hrd : (ws.filter fun q => decide (q.1 ∈ keysA kn)).map Prod.fst = rd at L1
      refine ⟨_, rfl, Nat.zero_le _, fun zz hzz => ?_⟩
      have su := s1.trans (sameAdd (o := .lst []) hzz)
      have zz1 : (upd H1 zz (.lst [])) zz = some (.lst (([] : List Int).map V.int)) := upd_same
      have Lu := sameAdd (o := .lst []) hzz _ _ L1
      generalize upd H1 zz (.lst []) = H2 at su zz1 Lu ⊢
      clear hzz L1 hL s1
      refine ⟨.list (rd.map PyData.int), .list [], .lst (SqL.of Lu) (dp_ints _), .lst (SqL.of zz1) .nil, shaped_ints _, rfl, _, rfl, ?_⟩
      rw [eqv_nil]
      refine iteD (fun h1 => ?_) (fun h1 => ?_)
      · have h1' : rd = [] := by simpa using h1
        have hno : ∀ q ∈ ws.map tailW, ¬ q.1 ∈ keysA kn := fun q m hk => by
          obtain ⟨z, mz, rfl⟩ := List.mem_map.mp m
          have : z.1 ∈ rd := by
            rw [← hrd]
            exact List.mem_map.mpr ⟨z, List.mem_filter.mpr ⟨mz, decide_eq_true hk⟩, rfl⟩
          rw [h1'] at this
          exact absurd this List.not_mem_nil
        have fin : ∀ V D, FitV (ws.map tailW) kn cl am V D → ws = [] ∧ cl = [] ∧ ∀ x ∈ am, ¬ x ∈ kn.map Prod.snd := fun V D F => by
          obtain ⟨e1, e2, e3⟩ := F.end_ hno
          exact ⟨List.map_eq_nil_iff.mp e1, e2, e3⟩
        clear zz1 Lu
        refine ⟨_, rfl, fun d1 hd1 => ?_⟩
        have s2 := su.trans (sameAdd (o := .dK []) hd1)
        have d1a : (upd H2 d1 (.dK [])) d1 = some (.dK []) := upd_same
        generalize upd H2 d1 (.dK []) = H3 at s2 d1a ⊢
        refine ⟨wd, d1, _, rfl, rfl, s2 _ _ hW, d1a, _, rfl, iteB (fun h2 => ?_) (fun h2 => k false H3 s2 fun ⟨V, D, F⟩ => ?_)⟩
        · clear hd1 d1a
          refine ⟨_, rfl, fun d2 hd2 => ?_⟩
          have s3 := s2.trans (sameAdd (o := .dK []) hd2)
          have d2a : (upd H3 d2 (.dK [])) d2 = some (.dK []) := upd_same
          generalize upd H3 d2 (.dK []) = H4 at s3 d2a ⊢
          refine ⟨cd, d2, _, rfl, rfl, s3 _ _ hC, d2a, _, rfl, iteB (fun h3 => ?_) (fun h3 => k false H4 s3 fun ⟨V, D, F⟩ => ?_)⟩
          · clear hd2 d2a
            have ev : (kvK Sum.inl V.int kn).map Prod.snd = (kn.map Prod.snd).map V.int := by unfold kvK; rw [List.map_map, List.map_map]; rfl
            have hA4 := s3 _ _ hA
            refine ⟨_, rfl, ad, rfl, ⟨_, SqL.of hA4⟩, fun L hL => lc_list (K := K) (a := ad) (xs := am.map V.int) (fun i Hx => Same H4 Hx ∧ ∃ m : Nat, Hx L = some (.lst (List.replicate m (V.int 1))) ∧ m ≤ i ∧ (m = 0 ↔ ∀ x ∈ am.take i, ¬ x ∈ kn.map Prod.snd)) ⟨sameAdd hL, 0, upd_same, Nat.le_refl _, ⟨fun _ x m => absurd m List.not_mem_nil, fun _ => rfl⟩⟩ (fun i Hx _ h => SqL.of (h.1 _ _ hA4)) ?_ ?_⟩
            · rintro i x Hx hx ⟨sx, m, lx2, lm, hm⟩
              have hi := (List.getElem?_eq_some_iff.mp hx).1
              rw [List.length_map] at hi
              obtain ⟨y, hy, rfl⟩ : ∃ y, am[i]? = some y ∧ x = V.int y := by
                rw [List.getElem?_map] at hx
                obtain ⟨n, e, q⟩ := Option.map_eq_some_iff.mp hx
                exact ⟨n, e, q.symm⟩
              have tk : am.take (i + 1) = am.take i ++ [y] := by rw [List.take_add_one, hy]; rfl
              refine ⟨rfl, _, rfl, _, rfl, kd, _, rfl, (s3.trans sx) _ _ hK, fun q hq => ?_⟩
              rw [ev]
              have sq := sameAdd (o := .lst ((kn.map Prod.snd).map V.int)) hq
              refine ⟨q, _, rfl, .inl (SqL.of upd_same), rfl, flat_ints _, _, rfl, ?_⟩
              show if inV (.int y) ((kn.map Prod.snd).map V.int) = true then _ else _
              rw [inV_int]
              refine iteD (fun hc => ?_) (fun hc => ?_)
              · refine ⟨_, sq _ _ lx2, by rw [List.length_replicate]; omega, sameOut (sx.trans sq) hL, m + 1, by rw [upd_same, List.replicate_succ'], by omega, ⟨fun z => absurd z (Nat.succ_ne_zero m), fun z => absurd hc (z y (by rw [tk]; exact List.mem_append_right _ List.mem_cons_self))⟩⟩
              · refine ⟨sx.trans sq, m, sq _ _ lx2, by omega, hm.trans ⟨fun z x mx => ?_, fun z x mx => z x (by rw [tk]; exact List.mem_append_left _ mx)⟩⟩
                rw [tk] at mx
                rcases List.mem_append.mp mx with mx | mx
                · exact z x mx
                · rw [List.mem_singleton.mp mx]
                  exact hc
            · rintro Hx ⟨sx, m, lx2, lm, hm⟩
              rw [List.length_map, List.take_length] at hm
              refine ⟨Nat.zero_le _, fun z2 hz2 => ?_⟩
              have s5 := (s3.trans sx).trans (sameAdd (o := .lst []) hz2)
              have er : List.replicate m (V.int 1) = (List.replicate m (1 : Int)).map V.int := by rw [List.map_replicate]
              rw [er] at lx2
              refine ⟨.list ((List.replicate m (1 : Int)).map PyData.int), .list [], .lst (SqL.of (sameAdd hz2 _ _ lx2)) (dp_ints _), .lst (SqL.of upd_same) .nil, shaped_ints _, rfl, ?_⟩
              rw [eqv_nil]
              refine k _ _ s5 fun ⟨V, D, F⟩ => decide_eq_true ?_
              rw [hm.mpr (fin V D F).2.2]
              rfl
          · rw [(fin V D F).2.1] at h3
            cases h3
        · rw [(fin V D F).1] at h2
          cases h2
      · obtain ⟨b, rr, eb⟩ := List.exists_cons_of_ne_nil (show rd ≠ [] from fun e => h1 (by rw [e]))
        have mb : b ∈ (ws.filter fun q => decide (q.1 ∈ keysA kn)).map Prod.fst := by
          rw [hrd, eb]
          exact List.mem_cons_self
        obtain ⟨q0, mq0, rfl⟩ := List.mem_map.mp mb
        obtain ⟨mq1, mq2⟩ := List.mem_filter.mp mq0
        have hbk : q0.1 ∈ keysA kn := of_decide_eq_true mq2
        have gw : getA ws q0.1 = some q0.2 := mem_getA ndW mq1
        obtain ⟨here0, gk, _⟩ := getA_in hbk
        have pm := rest_perm ndW gw
        have lrs := List.length_filter_le (fun q : Int × Wy => decide (q.1 ≠ q0.1)) ws
        have lrs2 : (ws.filter fun q => decide (q.1 ≠ q0.1)).length + 1 = ws.length := by
          have := pm.length_eq
          rw [List.length_map, List.length_cons, List.length_map] at this
          exact this.symm
        refine ⟨_, rfl, Lr, _, 0, V.int q0.1, rfl, rfl, SqL.of Lu, by rw [eb]; exact atI_zero _ _, ?_⟩
        dsimp only [gName, List.set]
        have dg : DGet H2 wd (.int q0.1) (some (.ref q0.2.1)) := by
          have := dgetI (f := wyV) (su _ _ hW) q0.1
          rw [gw] at this
          exact this
        refine ⟨_, rfl, _, rfl, wd, _, rfl, dg, q0.2.1, _, rfl, sameT su (hwt _ mq1), rfl, _, _, rfl, _, _, rfl, rfl, ?_⟩
        dsimp only [gName, List.set]
        clear dg zz1 Lu mb mq0 mq2 hrd h1 eb
        -- rest
        refine lc_keys (d := wd) (kvs := kvK Sum.inl wyV ws) rfl (su _ _ hW) (fun i xs Hx => ∃ ts : List Addr, xs = ts.map V.ref ∧ Paired (fun (t : Addr) (q : Int × Wy) => t ≠ wd ∧ Hx t = some (.tup [.int q.1, .ref q.2.1])) ts ((ws.take i).filter fun q => decide (q.1 ≠ q0.1)))
          ?_ ⟨[], rfl, .nil⟩ ?_ (by rw [kv_len]; omega) ?_
        · rintro i xs H5 H6 kp ⟨ts, rfl, pr⟩
          exact ⟨ts, rfl, paired_mpL pr fun t q ⟨nt, h⟩ => ⟨nt, kp t _ nt h⟩⟩
        · rintro od i kk vv Hx xs Ny Nn hk fz bx ⟨ts, rfl, pr⟩ lx2 yes no
          obtain ⟨⟨s, z⟩, hr, e⟩ : ∃ q, ws[i]? = some q ∧ (Sum.inl q.1, wyV q.2) = (kk, vv) := by
            unfold kvK at hk
            rw [List.getElem?_map] at hk
            obtain ⟨q, e1, e2⟩ := Option.map_eq_some_iff.mp hk
            exact ⟨q, e1, e2⟩
          cases e
          have m := List.mem_of_getElem? hr
          have tk : ws.take (i + 1) = ws.take i ++ [(s, z)] := by rw [List.take_add_one, hr]; rfl
          have dz : DGet Hx wd (.int s) (some (.ref z.1)) := by
            have := dgetIR (f := wyV) (.inr ⟨od, fz⟩) s
            rw [mem_getA ndW m] at this
            exact this
          refine ⟨_, rfl, _, rfl, rfl, _, rfl, ?_⟩
          rw [show (kV (Sum.inl (s, z).fst)) = V.int s from rfl, int_dec]
          refine iteND (fun hc => ?_) (fun hc => ?_)
          · refine ⟨_, rfl, _, rfl, _, rfl, wd, _, rfl, dz, by show 2 ≤ sizeLine; decide, fun t ht => ?_⟩
            have ntw : t ≠ wd := fun z => by
              rw [z, fz] at ht
              cases ht
            have b6 : But wd Hx (upd Hx t (.tup [V.int s, .ref z.1])) := (But.refl wd Hx).add ht
            refine yes _ _ (by rw [upd_ne ntw.symm]; exact fz) b6 ⟨ts ++ [t], by rw [List.map_append]; rfl, ?_⟩
            rw [tk, List.filter_append, show [(s, z)].filter (fun q : Int × Wy => decide (q.1 ≠ q0.1)) = [(s, z)] by simp [hc]]
            exact paired_snoc (paired_mpL pr fun t q ⟨nt, h⟩ => ⟨nt, b6 _ _ nt h⟩) ⟨ntw, upd_same⟩
          · refine no _ fz (But.refl _ _) ⟨ts, rfl, ?_⟩
            rw [tk, List.filter_append, show [(s, z)].filter (fun q : Int × Wy => decide (q.1 ≠ q0.1)) = [] by simp [hc], List.append_nil]
            exact pr
        · rintro Lc xs H3 s23 hLc Lc3 ⟨ts, rfl, pr⟩ lx2
          rw [kv_len, List.take_length] at pr
          generalize hrs : (ws.filter fun q => decide (q.1 ≠ q0.1)) = rs at pr pm lrs2
          have ndr : (keysA rs).Nodup := by
            rw [← hrs]
            exact ndW.sublist (List.Sublist.map _ List.filter_sublist)
          have mrs : ∀ q ∈ rs, q ∈ ws := fun q m => by
            rw [← hrs] at m
            exact (List.mem_filter.mp m).1
          have s3 := su.trans s23
          refine ⟨Lc, ts, kvK Sum.inl wyV rs, rfl, SqL.of Lc3, ?_, fun rt hrt => ?_⟩
          · clear pm lrs2 hrs ndr mrs lx2 Lc3
            induction pr with
            | nil => exact .nil
            | cons h _ ih => exact .cons (SqT.of h.2) ih
          · have mm := merge_kv (ι := (Sum.inl : Int → Key)) (f := wyV) inl_inj rs [] (by rw [List.nil_append]; exact ndr)
            rw [List.nil_append] at mm
            have mm2 : mergeK [] (kvK (Sum.inl : Int → Key) wyV rs) = kvK Sum.inl wyV rs := mm
            rw [mm2]
            have s4 := s3.trans (sameAdd (o := .dK (kvK Sum.inl wyV rs)) hrt)
            have rt4 : (upd H3 rt (.dK (kvK Sum.inl wyV rs))) rt = some (.dK (kvK Sum.inl wyV rs)) := upd_same
            have rt0 : H rt = none := s3.free hrt
            generalize upd H3 rt (.dK (kvK Sum.inl wyV rs)) = H4 at s4 rt4 ⊢
            clear hrt Lc3 pr lx2 s3 s23 hLc su H3
            dsimp only [gName, List.set]
            refine ⟨_, rfl, cd, _, rfl, .of (s4 _ _ hC), fun lf hlf => ?_⟩
            have s5 := s4.trans (sameAdd (o := .dK (kvK Sum.inl V.int cl)) hlf)
            have rt5 := sameAdd (o := .dK (kvK Sum.inl V.int cl)) hlf _ _ rt4
            have lf5 : (upd H4 lf (.dK (kvK Sum.inl V.int cl))) lf = some (.dK (kvK Sum.inl V.int cl)) := upd_same
            have lf0 : H lf = none := s4.free hlf
            have nrl : rt ≠ lf := fun e => by rw [← e, rt4] at hlf; cases hlf
            generalize upd H4 lf (.dK (kvK Sum.inl V.int cl)) = H5 at s5 rt5 lf5 ⊢
            have dk : DGet H5 kd (.int q0.1) (some (.int here0)) := by
              have := dgetI (f := V.int) (s5 _ _ hK) q0.1
              rw [gk] at this
              exact this
            refine ⟨_, rfl, _, rfl, kd, _, rfl, dk, _, rfl, ad, _, rfl, .inl (SqL.of (s5 _ _ hA)), fun bt hbt => ⟨_, _, _, rfl, ?_⟩⟩
            have s6 := s5.trans (sameAdd (o := .lst (am.map V.int)) hbt)
            have rt6 := sameAdd (o := .lst (am.map V.int)) hbt _ _ rt5
            have lf6 := sameAdd (o := .lst (am.map V.int)) hbt _ _ lf5
            have bt6 : (upd H5 bt (.lst (am.map V.int))) bt = some (.lst (am.map V.int)) := upd_same
            have bt0 : H bt = none := s5.free hbt
            have nrb : rt ≠ bt := fun e => by rw [← e, rt5] at hbt; cases hbt
            have nlb : lf ≠ bt := fun e => by rw [← e, lf5] at hbt; cases hbt
            generalize upd H5 bt (.lst (am.map V.int)) = H6 at s6 rt6 lf6 bt6 ⊢
            clear hbt dk hlf s5 rt5 lf5 s4 rt4 H5 H4
            dsimp only [gName, List.set]
            have hrt6 : ∀ q ∈ rs, SqT K H6 q.2.1 [.str q.2.2.1, .int q.2.2.2] := fun q m => sameT s6 (hwt q (mrs q m))
            refine ⟨fun m σ Hz => ∃ (left : List (Int × Int)) (here : Int) (btw : List Int) (o6 o13 o14 o15 : Option V), σ = [some (.ref wd), some (.ref kd), some (.ref cd), some (.ref ad), some (.ref Lr), some (.int q0.1), o6, some (.str q0.2.2.1), some (.int q0.2.2.2), some (.ref rt), some (.ref lf), some (.int here), some (.ref bt), o13, o14, o15] ∧ m = left.length ∧ Same H Hz ∧ Hz rt = some (.dK (kvK Sum.inl wyV rs)) ∧
                Hz lf = some (.dK (kvK Sum.inl V.int left)) ∧ (keysA left).Nodup ∧ Hz bt = some (.lst (btw.map V.int)) ∧ btw.length + left.length ≤ am.length + cl.length ∧ ∀ V D, FitV (ws.map tailW) kn cl am V D → WalkV (q0.1, q0.2.2) (rs.map tailW) am left here btw V D,
              ⟨_, cl, here0, am, _, _, _, _, rfl, rfl, s6, rt6, lf6, ndC, bt6, Nat.le_refl _, fun V D F => walk_start F pm gk⟩, ?_⟩
            clear s6 rt6 lf6 bt6 hrt6 H6
            rintro m σ Hz ⟨left, here, btw, o6, o13, o14, o15, rfl, rfl, sz, rtz, lfz, ndl, btz, lbl, wk⟩
            refine ⟨_, rfl, _, rfl, lf, _, rfl, dgetI (f := V.int) lfz here, _, rfl, ?_⟩
            rw [isA]
            refine iteD (fun h2 => ?_) (fun h2 => k false Hz sz fun ⟨V, D, F⟩ => absurd (walk_in (wk V D F)) h2)
            obtain ⟨val, gv, _⟩ := getA_in h2
            have hzt : ∀ q ∈ rs, SqT K Hz q.2.1 [.str q.2.2.1, .int q.2.2.2] := fun q m => sameT sz (hwt q (mrs q m))
            have vv : valV (kvK Sum.inl V.int left) (.inl here) = some (V.int val) := by rw [kv_get inl_inj, gv]; rfl
            have lle : (left.filter fun q => decide (q.1 ≠ here)).length < left.length := by
              have m1 := getA_mem gv
              have h := List.length_filter_le (fun q : Int × Int => decide (q.1 ≠ here)) left
              rcases Nat.lt_or_eq_of_le h with h | h
              · exact h
              · have := (List.filter_eq_self.mp (List.filter_sublist.eq_of_length h)) _ m1
                simp at this
            refine ⟨fun σ Hz => ∃ (left2 : List (Int × Int)) (here : Int) (btw : List Int) (o6 o13 o14 o15 : Option V), σ = [some (.ref wd), some (.ref kd), some (.ref cd), some (.ref ad), some (.ref Lr), some (.int q0.1), o6, some (.str q0.2.2.1), some (.int q0.2.2.2), some (.ref rt), some (.ref lf), some (.int here), some (.ref bt), o13, o14, o15] ∧ left2.length < left.length ∧ Same H Hz ∧ Hz rt = some (.dK (kvK Sum.inl wyV rs)) ∧
                Hz lf = some (.dK (kvK Sum.inl V.int left2)) ∧ (keysA left2).Nodup ∧ Hz bt = some (.lst (btw.map V.int)) ∧ btw.length + left2.length ≤ am.length + cl.length ∧ ∀ V D, FitV (ws.map tailW) kn cl am V D → WalkV (q0.1, q0.2.2) (rs.map tailW) am left2 here btw V D,
              fun σ Hz ⟨l2, h2, b2, p1, p2, p3, p4, e1, lt, r⟩ => ⟨_, lt, l2, h2, b2, p1, p2, p3, p4, e1, rfl, r⟩, ?_⟩
            refine ⟨_, rfl, lf, rfl, .inl ⟨_, .of lfz⟩, _, rfl, _, .inl here, _, lfz, rfl, vv, ?_⟩
            rw [kv_drop inl_inj]
            have turn := fun V D F => walk_turn F pm hbk ndK (wk V D F) ndl gv
            have ndl2 : (keysA (left.filter fun q => decide (q.1 ≠ here))).Nodup := ndl.sublist (List.Sublist.map _ List.filter_sublist)
            generalize (left.filter fun q => decide (q.1 ≠ here)) = left2 at turn ndl2 lle
            have s1 : Same H (upd Hz lf (.dK (kvK Sum.inl V.int left2))) := sameOut sz lf0
            have rt1 : (upd Hz lf (.dK (kvK Sum.inl V.int left2))) rt = some (.dK (kvK Sum.inl wyV rs)) := by rw [upd_ne nrl]; exact rtz
            have lf1 : (upd Hz lf (.dK (kvK Sum.inl V.int left2))) lf = some (.dK (kvK Sum.inl V.int left2)) := upd_same
            have bt1 : (upd Hz lf (.dK (kvK Sum.inl V.int left2))) bt = some (.lst (btw.map V.int)) := by rw [upd_ne nlb.symm]; exact btz
            generalize upd Hz lf (.dK (kvK Sum.inl V.int left2)) = H7 at s1 rt1 lf1 bt1 ⊢
            clear rtz lfz btz vv hzt sz Hz
            dsimp only [gName, List.set]
            -- is_end
            refine asg_by (I := fun v H' => ∃ e : Bool, v = .bl e ∧ (e = true ↔ IsEnd kn q0.2.2.2 val) ∧ Same H7 H') (fun Qn fin => ?_) ?_
            · refine ⟨_, rfl, _, rfl, kd, _, rfl, dgetI (f := V.int) (s1 _ _ hK) q0.2.2.2, _, rfl, ?_⟩
              rw [isA]
              refine iteD (fun h3 => ?_) (fun h3 => ?_)
              · obtain ⟨ke, gke, _⟩ := getA_in h3
                have dk : DGet H7 kd (.int q0.2.2.2) (some (.int ke)) := by
                  have := dgetI (f := V.int) (s1 _ _ hK) q0.2.2.2
                  rw [gke] at this
                  exact this
                refine ⟨_, rfl, _, rfl, _, rfl, kd, _, rfl, dk, rfl, ?_⟩
                rw [int_dec]
                refine fin _ _ ⟨_, rfl, ?_, Same.refl _⟩
                rw [decide_eq_true_eq]
                constructor
                · intro e
                  exact .inl ⟨h3, by rw [gke, e]⟩
                · rintro (⟨_, e⟩ | ⟨n, _⟩)
                  · rw [gke] at e
                    exact (Option.some.inj e).symm
                  · exact absurd h3 n
              · refine ⟨_, rfl, rfl, _, rfl, ?_⟩
                rw [int_dec]
                refine iteND (fun h4 => ?_) (fun h4 => ?_)
                · refine ⟨_, rfl, _, rfl, kd, _, rfl, s1 _ _ hK, fun q hq => ?_⟩
                  rw [vals_kn]
                  refine ⟨q, _, rfl, .inl (SqL.of upd_same), rfl, flat_ints _, ?_⟩
                  refine fin _ _ ⟨_, rfl, ?_, sameAdd hq⟩
                  rw [inV_int]
                  show (!decide (val ∈ kn.map Prod.snd)) = true ↔ _
                  rw [Bool.not_eq_true', decide_eq_false_iff_not]
                  refine ⟨fun n => .inr ⟨h3, h4, n⟩, ?_⟩
                  rintro (⟨m, _⟩ | ⟨_, _, n⟩)
                  · exact absurd m h3
                  · exact n
                · refine fin _ _ ⟨false, rfl, ?_, Same.refl _⟩
                  constructor
                  · intro z
                    cases z
                  · rintro (⟨m, _⟩ | ⟨_, n, _⟩)
                    · exact absurd m h3
                    · exact absurd h4 n
            · rintro ve H8 ⟨e, rfl, he, s8⟩
              have s2 := s1.trans s8
              have rt2 := s8 _ _ rt1
              have lf2 := s8 _ _ lf1
              have bt2 := s8 _ _ bt1
              clear s1 rt1 lf1 bt1 s8 H7
              dsimp only [gName, List.set]
              have lrs3 : rs.length + 1 = ws.length := lrs2
              have lpk := putA_len kn q0.2.2.2 val
              refine seq_by (fun σ2 H2 => ∃ o15', σ2 = [some (.ref wd), some (.ref kd), some (.ref cd), some (.ref ad), some (.ref Lr), some (.int q0.1), o6, some (.str q0.2.2.1), some (.int q0.2.2.2), some (.ref rt), some (.ref lf), some (.int here), some (.ref bt), some (.int val), some (.bl e), o15'] ∧ Same H8 H2 ∧ (e = true → ¬ FitP (rs.map tailW) (putA kn q0.2.2.2 val) left2 btw)) (fun fin => ?_) ?_
              · refine ⟨_, rfl, _, rfl, iteB (fun e1 => ?_) (fun e1 => fin _ _ ⟨_, rfl, Same.refl _, fun z => by rw [e1] at z; cases z⟩)⟩
                refine ⟨_, rfl, kd, _, rfl, .of (s2 _ _ hK), fun fu hfu => ?_⟩
                dsimp only [gName, List.set]
                have nf1 : rt ≠ fu := fun z => by rw [← z, rt2] at hfu; cases hfu
                have nf2 : lf ≠ fu := fun z => by rw [← z, lf2] at hfu; cases hfu
                have nf3 : bt ≠ fu := fun z => by rw [← z, bt2] at hfu; cases hfu
                refine ⟨_, rfl, _, rfl, _, rfl, fu, _, rfl, dputI (f := V.int) upd_same q0.2.2.2 val (by omega), ?_⟩
                have sf : Same H8 (upd (upd H8 fu (.dK (kvK Sum.inl V.int kn))) fu (.dK (kvK Sum.inl V.int (putA kn q0.2.2.2 val)))) := sameOut (sameAdd hfu) hfu
                have fu9 : (upd (upd H8 fu (.dK (kvK Sum.inl V.int kn))) fu (.dK (kvK Sum.inl V.int (putA kn q0.2.2.2 val)))) fu = some (.dK (kvK Sum.inl V.int (putA kn q0.2.2.2 val))) := upd_same
                generalize upd (upd H8 fu (.dK (kvK Sum.inl V.int kn))) fu (.dK (kvK Sum.inl V.int (putA kn q0.2.2.2 val))) = H9 at sf fu9 ⊢
                refine ⟨_, rfl, _, rfl, _, rfl, _, rfl, rt, fu, lf, bt, rs, putA kn q0.2.2.2 val, left2, btw, rfl, sf _ _ rt2, fun q m => sameT (s2.trans sf) (hwt q (mrs q m)), ndr, by omega, nf1, fu9, putA_nodup ndK, by omega, sf _ _ lf2, ndl2, sf _ _ bt2, by omega, fun b H' s' hb => ⟨_, rfl, iteB (fun b1 => ?_) (fun b1 => ?_)⟩⟩
                · exact k true H' (s2.trans (sf.trans s')) fun _ => rfl
                · refine fin _ _ ⟨_, rfl, sf.trans s', fun _ F => ?_⟩
                  rw [hb F] at b1
                  cases b1
              · rintro σ2 H9 ⟨o15', rfl, s9, hno⟩
                have s3 := s2.trans s9
                have bt3 := s9 _ _ bt2
                have on : ∀ V D, FitV (ws.map tailW) kn cl am V D → ¬ (q0.2.2.2 ∈ keysA kn ∧ getA kn q0.2.2.2 = some val) ∧ q0.2.2.1 = "long" ∧ WalkV (q0.1, q0.2.2) (rs.map tailW) am left2 val (btw ++ [val]) V D := fun V D F => by
                  rcases turn V D F with ⟨ie, f⟩ | r
                  · exact absurd ⟨V, D, f⟩ (hno (he.mpr ie))
                  · exact r
                refine seq_by (fun σ3 H3 => σ3 = [some (.ref wd), some (.ref kd), some (.ref cd), some (.ref ad), some (.ref Lr), some (.int q0.1), o6, some (.str q0.2.2.1), some (.int q0.2.2.2), some (.ref rt), some (.ref lf), some (.int here), some (.ref bt), some (.int val), some (.bl e), o15'] ∧ H3 = H9) (fun fin => ?_) ?_
                · refine ⟨_, rfl, rfl, _, rfl, iteB (fun hk => if_yes rfl ?_) (fun hk => ?_)⟩
                  · refine k false H9 s3 fun ⟨V, D, F⟩ => ?_
                    have := (on V D F).2.1
                    rw [this] at hk
                    exact absurd hk (by decide)
                  · refine ⟨_, rfl, _, rfl, iteB (fun e1 => ?_) (fun e1 => if_no rfl (fin _ _ ⟨rfl, rfl⟩))⟩
                    refine ⟨_, rfl, _, rfl, kd, _, rfl, dgetI (f := V.int) (s3 _ _ hK) q0.2.2.2, _, rfl, ?_⟩
                    rw [isA]
                    refine iteD (fun h3 => ?_) (fun h3 => fin _ _ ⟨rfl, rfl⟩)
                    refine k false H9 s3 fun ⟨V, D, F⟩ => absurd ?_ (on V D F).1
                    rcases he.mp e1 with h | ⟨n, _⟩
                    · exact h
                    · exact absurd h3 n
                · rintro σ3 H3 ⟨rfl, rfl⟩
                  refine ⟨_, rfl, ?_⟩
                  dsimp only [gName, List.set]
                  refine ⟨_, rfl, .inl ⟨rfl, _, SqL.of bt3⟩, _, rfl, bt, _, _, rfl, rfl, bt3, by rw [List.length_map]; omega, ?_⟩
                  refine ⟨left2, val, btw ++ [val], _, _, _, _, rfl, lle, sameOut s3 bt0, by rw [upd_ne nrb]; exact s9 _ _ rt2, by rw [upd_ne nlb]; exact s9 _ _ lf2, ndl2, by rw [upd_same, List.map_append]; rfl, by rw [List.length_append, List.length_singleton]; omega, fun V D F => (on V D F).2.2⟩
theorem D_l_fits (T : Txt K mg) : ∀ n : Nat, Df P w K mg base n "_law_fits" ["ways", "known", "cells", "amid"] (spFits K n)
  | 0 => D_fits0 T
  | n + 1 => D_fits1 T (D_l_fits T n)
end
end L2.Hx

/-! Whether a case tells of a store and a heap, as the law finds it. -/
namespace L2.Hx
open PySem PySem.Spec PyProof.Rows
theorem pairs_inv {K : PySem.W.Frag} {G : Hp} : ∀ {ps : List Addr} {st : List (Str × Int)}, DaAll K G (ps.map V.ref) (st.map pairS) → Paired (fun p kv => SqT K G p [kV kv.1, kv.2]) ps (kvK Sum.inr V.int st)
  | [], [], _ => .nil
  | [], _ :: _, h => by cases h
  | _ :: _, [], h => by cases h
  | p :: ps, q :: st, h => by
    cases h with
    | cons h1 h2 =>
      obtain ⟨a, xs, e, sq, da⟩ := h1.tupI
      cases e
      refine .cons ?_ (pairs_inv h2)
      cases da with
      | cons a1 t =>
        cases a1
        cases t with
        | cons a2 t =>
          cases a2
          cases t
          exact sq
theorem pairI_inv {K : PySem.W.Frag} {G : Hp} : ∀ {ps : List Addr} {st : List (Int × Int)}, DaAll K G (ps.map V.ref) (st.map pairI) → Paired (fun p kv => SqT K G p [kV kv.1, kv.2]) ps (kvK Sum.inl V.int st)
  | [], [], _ => .nil
  | [], _ :: _, h => by cases h
  | _ :: _, [], h => by cases h
  | p :: ps, q :: st, h => by
    cases h with
    | cons h1 h2 =>
      obtain ⟨a, xs, e, sq, da⟩ := h1.tupI
      cases e
      refine .cons ?_ (pairI_inv h2)
      cases da with
      | cons a1 t =>
        cases a1
        cases t with
        | cons a2 t =>
          cases a2
          cases t
          exact sq
theorem kn_len {c : Cs} {kn : List (Int × Int)} (h0 : 0 < c.1.length) (nd : (keysA kn).Nodup) (h : ∀ k ∈ keysA kn, k = 0 ∨ lotC c k ≠ []) : kn.length ≤ c.1.length := by
  have := once_len (T := keysA kn) (ks := (List.range c.1.length).map fun i : Nat => (i : Int)) ⟨nd, fun k m => by
    rcases h k m with e | e
    · exact List.mem_map.mpr ⟨0, List.mem_range.mpr h0, by rw [e]; rfl⟩
    · obtain ⟨k0, k1, _⟩ := lotC_out e
      exact List.mem_map.mpr ⟨k.toNat, List.mem_range.mpr (by omega), by omega⟩⟩
  unfold keysA at this
  rw [List.length_map, List.length_map, List.length_range] at this
  exact this
def spTells (K : PySem.W.Frag) : Sp := fun vs H Q _ => ∃ (v : V) (a b : Addr) (ps qs : List Addr) (G : Hp) (ns : List Str) (c : Cs) (S : List (Str × Int)) (X : List (Int × Int)) (V0 : Int → Int), vs = [v, .ref a, .ref b] ∧ Same G H ∧ Da K G v (caseD c) ∧ CaseN ns c ∧ NsOk ns ∧
  PlT G a (ps.map V.ref) ∧ DaAll K G (ps.map V.ref) (S.map pairS) ∧ (keysA S).Nodup ∧ PlT G b (qs.map V.ref) ∧ DaAll K G (qs.map V.ref) (X.map pairI) ∧ (keysA X).Nodup ∧ X.length ≤ 2000 ∧ V0 0 = 0 ∧
  (∀ (i : Nat) l, c.1[i]? = some l → ∀ n ∈ l, getA S n = some (V0 (i : Int))) ∧ (∀ i j : Int, (i = 0 ∨ lotC c i ≠ []) → (j = 0 ∨ lotC c j ≠ []) → V0 i = V0 j → i = j) ∧
  ∀ bb H', Same H H' → (EmbC c S X → bb = true) → Q (.bl bb) H'
section
variable {P : Program} {w : World} {K : PySem.W.Frag} {mg : Str → Option Value} {base : Heap}
theorem D_l_tells (T : Txt K mg) : Df P w K mg base 51 "_law_tells" ["case", "store", "heap"] (spTells K) := by
  have D_l_fits := D_l_fits (P := P) (w := w) (base := base) T 50
  have D_l_ways := D_l_ways (P := P) (w := w) (base := base) T
  obtain ⟨f, fd, S⟩ := T.d_l_tells
  refine Df.mk' (k := 50) S sc_l_tells (fun vs H Q E h => ?_) (fun cdv A outer s H vs Q E hgd hr h => ?_)
  · obtain ⟨v, a, b, ps, qs, G, ns, c, Sx, X, V0, rfl, _⟩ := h
    rfl
  · obtain ⟨v, a, b, ps, qs, G, ns, c, Sx, X, V0, rfl, sm, da, N, Ok, pla, dps, ndS, plb, dqs, ndX, lX, v00, nam, inj, k⟩ := h
    have hu := hu_of hr
    have big : (5000 : Nat) ≤ sizeLine := by decide
    refine ⟨_, (pss_cons (ps_par (i := 3) (j := 4) (by rfl) sc_l_tells.nd rfl rfl (by decide) rfl rfl (pa_cons (pe_callTy (call_dictPT rfl) (by rfl) T.b_dict (by decide +kernel) (pa_cons (pv 1) pa_nil)) (pa_cons (pe_disp (pps_cons pe_int pe_int pps_nil) (by rfl) (by rfl) (fun z => by cases z) (by decide)) pa_nil)) (by rfl))
      (pss_cons (ps_for PassesOwn.never rfl (pi_enumT rfl T.b_enumerate (pa_cons (pe_ix ix_tup (pv 0) pe_int (fun _ _ => rfl)) pa_nil)) (pg_tup rfl (pgs_cons (pg_name (i := 5) sc_l_tells.nd rfl (.inl rfl)) (pgs_cons (pg_name (i := 6) sc_l_tells.nd rfl (.inl rfl)) pgs_nil)))
      (pss_one (ps_for PassesOwn.never rfl (pi_tup (pv 6)) (pg_name (i := 7) sc_l_tells.nd rfl (.inl rfl))
      (pss_cons (ps_if (pt_cmpR op_ne (pe_dget2 hu (pv 4) (pv 5) (pe_dget hu (pv 3) (pv 7) (fun _ _ => rfl)) ⟨by rfl, by rfl, by rfl, by rfl⟩) (pe_dget hu (pv 3) (pv 7) (fun _ _ => rfl)) (nomark _)) (pss_one (ps_ret pe_bl)) pss_nil)
      (pss_one (ps_dput hu (pv 4) (pv 5) (pe_dget hu (pv 3) (pv 7) (fun _ _ => rfl)) rfl))))))
      (pss_cons (ps_if (pt_cmpR op_lt (RZ.pe_lenSetI (by rfl) T.b_len (by rfl) T.b_set (pe_listVals rfl (pv 4) (by rfl) T.b_list rfl)) (pe_callB (call_lenD) (by rfl) T.b_len (by decide +kernel) (pa_cons (pv 4) pa_nil)) (nomark _)) (pss_one (ps_ret pe_bl)) pss_nil)
      (pss_one (ps_ret (pe_d D_l_fits hgd hr (pa_cons (pe_d D_l_ways hgd hr (pa_cons (pv 0) pa_nil)) (pa_cons (pv 4) (pa_cons (pe_callTy (call_dictPT rfl) (by rfl) T.b_dict (by decide +kernel) (pa_cons (pv 2) pa_nil)) (pa_cons (pe_lst pa_nil) pa_nil)))))))))), ?_⟩
    obtain ⟨va, b1, b2, ls, as, rfl, sva, sb1, dls, sb2, das⟩ := da_case da
    have lls : ls.length = c.1.length := by rw [dls.length, List.length_map]
    have l60 := N.ok.len
    have al := N.ok.alen
    have p0 := N.ok.pos
    have mm : mergeK [] (kvK (Sum.inr : Str → Key) V.int Sx) = kvK Sum.inr V.int Sx := by
      have := merge_kv (ι := (Sum.inr : Str → Key)) (f := V.int) inr_inj Sx [] (by rw [List.nil_append]; exact ndS)
      rw [List.nil_append] at this
      exact this
    refine ⟨_, rfl, a, ps, kvK Sum.inr V.int Sx, rfl, pla.same sm, paired_mpL (pairs_inv dps) fun t kv h => sameT sm h, fun d1 hd1 => ?_⟩
    rw [mm]
    have s1 := sameAdd (o := .dK (kvK Sum.inr V.int Sx)) hd1
    have d1a : (upd H d1 (.dK (kvK Sum.inr V.int Sx))) d1 = some (.dK (kvK Sum.inr V.int Sx)) := upd_same
    generalize upd H d1 (.dK (kvK Sum.inr V.int Sx)) = H1 at s1 d1a ⊢
    refine fun d2 hd2 => ⟨upd_same, [(.inl 0, .int 0)], rfl, by decide, ?_⟩
    have em : mergeK [] [((Sum.inl 0 : Key), V.int 0)] = kvK Sum.inl V.int [((0 : Int), (0 : Int))] := rfl
    rw [em]
    have s2 : Same H (upd (upd H1 d2 (.dK [])) d2 (.dK (kvK Sum.inl V.int [((0 : Int), (0 : Int))]))) := sameOut (s1.trans (sameAdd hd2)) (s1.free hd2)
    have nd12 : d1 ≠ d2 := fun e => by rw [← e, d1a] at hd2; cases hd2
    have d1b : (upd (upd H1 d2 (.dK [])) d2 (.dK (kvK Sum.inl V.int [((0 : Int), (0 : Int))]))) d1 = some (.dK (kvK Sum.inr V.int Sx)) := by rw [upd_ne nd12, upd_ne nd12]; exact d1a
    have d2b : (upd (upd H1 d2 (.dK [])) d2 (.dK (kvK Sum.inl V.int [((0 : Int), (0 : Int))]))) d2 = some (.dK (kvK Sum.inl V.int [((0 : Int), (0 : Int))])) := upd_same
    have d20 : H d2 = none := s1.free hd2
    generalize upd (upd H1 d2 (.dK [])) d2 (.dK (kvK Sum.inl V.int [((0 : Int), (0 : Int))])) = H2 at s2 d1b d2b ⊢
    clear hd2 d1a s1 H1
    refine ⟨_, _, rfl, ?_⟩
    dsimp only [gName, List.set]
    refine ⟨_, rfl, va, _, 0, _, rfl, rfl, sameT (sm.trans s2) sva, rfl, b1, ls, rfl, sameT (sm.trans s2) sb1, for_enumT (K := K) (a := b1) (xs := ls) (fun i σ Hx => ∃ (o5 o6 o7 : Option V) (kn : List (Int × Int)), σ = [some (.ref va), some (.ref a), some (.ref b), some (.ref d1), some (.ref d2), o5, o6, o7] ∧ Same H Hx ∧ Hx d1 = some (.dK (kvK Sum.inr V.int Sx)) ∧ Hx d2 = some (.dK (kvK Sum.inl V.int kn)) ∧
        (keysA kn).Nodup ∧ getA kn 0 = some 0 ∧ (∀ q ∈ kn, q.2 = V0 q.1) ∧ ∀ k, k ∈ keysA kn ↔ k = 0 ∨ (lotC c k ≠ [] ∧ k < i))
      ⟨_, _, _, [(0, 0)], rfl, s2, d1b, d2b, by decide, rfl, fun q m => by rw [List.mem_singleton.mp m]; exact v00.symm, fun k => ?_⟩ (fun i σ Hx _ ⟨_, _, _, _, _, sx, _⟩ => sameT (sm.trans sx) sb1) ?_ ?_⟩
    · show k ∈ [(0 : Int)] ↔ _
      rw [List.mem_singleton]
      refine ⟨.inl, fun h => h.elim id fun ⟨h1, h2⟩ => ?_⟩
      have := (lotC_out h1).1
      omega
    · clear s2 d1b d2b
      rintro i x T' σ Hx hx ⟨o5, o6, o7, kn, rfl, sx, d1x, d2x, knd, kn0, knv, knk⟩ hT
      obtain ⟨la, l, hl, rfl, sl⟩ := da_lot dls hx
      have hi := (List.getElem?_eq_some_iff.mp hx).1
      have el := lotC_at hl
      dsimp only [gName, List.set]
      refine ⟨T', _, rfl, SqT.of upd_same, rfl, _, _, rfl, _, _, rfl, rfl, ?_⟩
      dsimp only [gName, List.set]
      have s2 := sx.trans (sameAdd (o := .tup [V.int i, V.ref la]) hT)
      have d1y := sameAdd (o := .tup [V.int i, V.ref la]) hT _ _ d1x
      have d2y := sameAdd (o := .tup [V.int i, V.ref la]) hT _ _ d2x
      generalize upd Hx T' (.tup [V.int i, V.ref la]) = Hy at s2 d1y d2y ⊢
      clear hT d1x d2x sx
      refine ⟨_, rfl, la, rfl, ⟨_, sameT (sm.trans s2) sl⟩, for_tup (K := K) (a := la) (xs := l.map V.str) (fun j σ Hx => ∃ (o7 : Option V) (kn : List (Int × Int)), σ = [some (.ref va), some (.ref a), some (.ref b), some (.ref d1), some (.ref d2), some (.int i), some (.ref la), o7] ∧ Same H Hx ∧ Hx d1 = some (.dK (kvK Sum.inr V.int Sx)) ∧ Hx d2 = some (.dK (kvK Sum.inl V.int kn)) ∧
          (keysA kn).Nodup ∧ getA kn 0 = some 0 ∧ (∀ q ∈ kn, q.2 = V0 q.1) ∧ ∀ k, k ∈ keysA kn ↔ k = 0 ∨ (lotC c k ≠ [] ∧ k < i) ∨ (k = (i : Int) ∧ 0 < j))
        ⟨_, kn, rfl, s2, d1y, d2y, knd, kn0, knv, fun k => ?_⟩ (fun j σ Hx _ ⟨_, _, _, sx, _⟩ => sameT (sm.trans sx) sl) ?_ ?_⟩
      · rw [knk k]
        constructor
        · rintro (h | h)
          · exact .inl h
          · exact .inr (.inl h)
        · rintro (h | h | ⟨_, h⟩)
          · exact .inl h
          · exact .inr h
          · exact absurd h (Nat.lt_irrefl 0)
      · clear s2 d1y d2y knd kn0 knv knk kn
        rintro j x σ Hx hx2 ⟨o7, kn, rfl, sx, d1x, d2x, knd, kn0, knv, knk⟩
        obtain ⟨n, hn, rfl⟩ : ∃ n, l[j]? = some n ∧ x = V.str n := by
          rw [List.getElem?_map] at hx2
          obtain ⟨n, e, q⟩ := Option.map_eq_some_iff.mp hx2
          exact ⟨n, e, q.symm⟩
        have ml : n ∈ l := List.mem_of_getElem? hn
        have gn := nam i l hl n ml
        dsimp only [gName, List.set]
        have dn : DGet Hx d1 (.str n) (some (.int (V0 i))) := by
          have := dgetS (f := V.int) d1x n
          rw [gn] at this
          exact this
        have li : lotC c (i : Int) ≠ [] := fun e => by
          rw [el] at e
          rw [e] at ml
          exact absurd ml List.not_mem_nil
        have lk := kn_len p0 knd fun k m => ((knk k).mp m).imp id fun h => h.elim (fun h => h.1) fun h => by rw [h.1]; exact li
        have ev : ((getA kn (i : Int)).map V.int).getD (V.int (V0 i)) = V.int (V0 i) := by
          cases e : getA kn (i : Int) with
          | none => rfl
          | some u =>
            have := knv _ (getA_mem e)
            show V.int u = _
            rw [show u = V0 i from this]
        refine ⟨_, rfl, d2, rfl, .inl ⟨_, .of d2x⟩, _, rfl, _, rfl, _, rfl, d1, _, rfl, dn, _, dgetI (f := V.int) d2x (i : Int), ?_⟩
        rw [ev]
        refine ⟨_, rfl, _, rfl, d1, _, rfl, dn, rfl, _, rfl, ?_⟩
        rw [decide_eq_true rfl]
        refine if_no rfl ?_
        refine ⟨_, rfl, _, rfl, d1, _, rfl, dn, _, rfl, _, rfl, d2, _, rfl, dputI (f := V.int) d2x (i : Int) (V0 i) (by omega), ?_⟩
        refine ⟨_, putA kn (i : Int) (V0 i), rfl, sameOut sx d20, by rw [upd_ne nd12]; exact d1x, upd_same, putA_nodup knd, ?_, fun q m => ?_, fun k => ?_⟩
        · rw [get_putA]
          by_cases e : (0 : Int) = (i : Int)
          · rw [if_pos e, ← e, v00]
          · rw [if_neg e]
            exact kn0
        · have g := mem_getA (putA_nodup (k := (i : Int)) (v := V0 i) knd) (show (q.1, q.2) ∈ putA kn (i : Int) (V0 i) from m)
          rw [get_putA] at g
          by_cases e : q.1 = (i : Int)
          · rw [if_pos e] at g
            rw [e]
            exact (Option.some.inj g).symm
          · rw [if_neg e] at g
            exact knv _ (getA_mem g)
        · rw [putA_keys, knk k]
          constructor
          · rintro ((h | h | h) | h)
            · exact .inl h
            · exact .inr (.inl h)
            · exact .inr (.inr ⟨h.1, Nat.succ_pos _⟩)
            · exact .inr (.inr ⟨h, Nat.succ_pos _⟩)
          · rintro (h | h | h)
            · exact .inl (.inl h)
            · exact .inl (.inr (.inl h))
            · exact .inr h.1
      · rintro σ Hx ⟨o7, kn, rfl, sx, d1x, d2x, knd, kn0, knv, knk⟩
        rw [List.length_map] at knk
        refine ⟨_, _, _, kn, rfl, sx, d1x, d2x, knd, kn0, knv, fun k => (knk k).trans ⟨?_, ?_⟩⟩
        · rintro (h | ⟨h1, h2⟩ | ⟨h1, h2⟩)
          · exact .inl h
          · exact .inr ⟨h1, by omega⟩
          · refine .inr ⟨?_, by omega⟩
            rw [h1, el]
            exact List.length_pos_iff.mp h2
        · rintro (h | ⟨h1, h2⟩)
          · exact .inl h
          · by_cases e : k = (i : Int)
            · rw [e, el] at h1
              exact .inr (.inr ⟨e, List.length_pos_iff.mpr h1⟩)
            · exact .inr (.inl ⟨h1, by omega⟩)
    · rintro σ Hx ⟨o5, o6, o7, kn, rfl, sx, d1x, d2x, knd, kn0, knv, knk⟩
      have knk2 : ∀ k, k ∈ keysA kn ↔ k = 0 ∨ lotC c k ≠ [] := fun k => (knk k).trans ⟨fun h => h.imp id fun h => h.1, fun h => h.imp id fun h => ⟨h, by have := (lotC_out h).2.1; omega⟩⟩
      have lk := kn_len p0 knd fun k m => (knk2 k).mp m
      have ndv : (kn.map Prod.snd).Nodup := by
        rw [List.nodup_iff_pairwise_ne, List.pairwise_map]
        have h : kn.Pairwise fun a b => a.1 ≠ b.1 := List.pairwise_map.mp knd
        refine List.Pairwise.imp_of_mem (fun {x y} mx my h e => h ?_) h
        refine inj x.1 y.1 ((knk2 _).mp (List.mem_map.mpr ⟨x, mx, rfl⟩)) ((knk2 _).mp (List.mem_map.mpr ⟨y, my, rfl⟩)) ?_
        rw [← knv x mx, ← knv y my]
        exact e
      refine ⟨_, rfl, d2, _, rfl, d2x, fun q hq => ?_⟩
      rw [vals_kn]
      have s2 := sx.trans (sameAdd (o := .lst ((kn.map Prod.snd).map V.int)) hq)
      have d2y := sameAdd (o := .lst ((kn.map Prod.snd).map V.int)) hq _ _ d2x
      have qy : (upd Hx q (.lst ((kn.map Prod.snd).map V.int))) q = some (.lst ((kn.map Prod.snd).map V.int)) := upd_same
      generalize upd Hx q (.lst ((kn.map Prod.snd).map V.int)) = Hy at s2 d2y qy ⊢
      refine ⟨q, _, rfl, SqL.of qy, ndv, by rw [List.length_map]; omega, _, rfl, d2, _, rfl, d2y, _, _, rfl, rfl, _, rfl, ?_⟩
      rw [kv_len, List.length_map]
      refine if_no (by simp) ?_
      clear hq qy d1x d2x
      refine ⟨_, rfl, .ref va, G, c, rfl, sm.trans s2, da, N.ok.bnd, al, fun wd ws H3 s3 wd0 hW ew hwt => ?_⟩
      have s03 := s2.trans s3
      have d23 := s3 _ _ d2y
      have mmX : mergeK [] (kvK (Sum.inl : Int → Key) V.int X) = kvK Sum.inl V.int X := by
        have := merge_kv (ι := (Sum.inl : Int → Key)) (f := V.int) inl_inj X [] (by rw [List.nil_append]; exact ndX)
        rw [List.nil_append] at this
        exact this
      refine ⟨_, rfl, _, rfl, b, qs, kvK Sum.inl V.int X, rfl, plb.same (sm.trans s03), paired_mpL (pairI_inv dqs) fun t kv h => sameT (sm.trans s03) h, fun d3 hd3 => ?_⟩
      rw [mmX]
      have s4 := s3.trans (sameAdd (o := .dK (kvK Sum.inl V.int X)) hd3)
      have s34 := sameAdd (o := .dK (kvK Sum.inl V.int X)) hd3
      have hX : (upd H3 d3 (.dK (kvK Sum.inl V.int X))) d3 = some (.dK (kvK Sum.inl V.int X)) := upd_same
      generalize upd H3 d3 (.dK (kvK Sum.inl V.int X)) = H4 at s4 s34 hX ⊢
      refine ⟨Nat.zero_le _, fun d4 hd4 => ?_⟩
      have s45 := sameAdd (o := .lst []) hd4
      have h4a : (upd H4 d4 (.lst [])) d4 = some (.lst (([] : List Int).map V.int)) := upd_same
      generalize upd H4 d4 (.lst []) = H5 at s45 h4a ⊢
      have lws : ws.length = c.2.length := by rw [← ew, List.length_map]
      have s35 := s34.trans s45
      have nwk : wd ≠ d2 := fun e => by
        rw [e, d2y] at wd0
        cases wd0
      refine ⟨wd, d2, d3, d4, ws, kn, X, [], rfl, s35 _ _ hW, fun q m => sameT s35 (hwt q m), by rw [keys_ws ew]; exact N.ok.bnd, by omega, nwk, s35 _ _ d23, knd, by omega, s45 _ _ hX, ndX, h4a, by rw [List.length_nil]; omega, fun bb H' s' hb => k bb H' (s03.trans (s35.trans s')) fun E => hb ?_⟩
      rw [ew]
      exact fit_start N E nam ⟨knd, kn0, knv, knk2⟩
end
end L2.Hx

/-! A long arrow opened, as the law does it. -/
namespace L2.Hx
open PySem PySem.Spec PyProof.Rows
def spEnds (K : PySem.W.Frag) : Sp := fun vs H Q _ => ∃ (h w : Addr) (hm : Hm) (ws : Ws) (b : Int) (y : Wy), vs = [.ref h, .ref w, .int b] ∧ H h = some (.dK (kvK Sum.inr V.int hm)) ∧ H w = some (.dK (kvK Sum.inl wyV ws)) ∧ (∀ q ∈ ws, SqT K H q.2.1 [.str q.2.2.1, .int q.2.2.2]) ∧
  (keysA ws).Nodup ∧ hm.length < 64 ∧ ws.length < 60 ∧ getA ws b = some y ∧ y.2.1 = "long" ∧
  ∀ (L one other t0 t1 t2 : Addr) (f : Int) (H' : Hp), (∃ x, f = 1 + x ∧ ((∃ q ∈ hm, x = q.2) ∨ x ∈ keysA ws ∨ ∃ q ∈ ws, x = q.2.2.2)) → H' one = some (.dK (kvK Sum.inl wyV (putA ws b (t0, (("short" : Str), y.2.2))))) → H' t0 = some (.tup [.str "short", .int y.2.2]) → Same H H' → H' L = some (.lst [.ref one, .ref other]) → ¬ f ∈ keysA ws → (∀ q ∈ hm, q.2 < f) → (∀ q ∈ ws, q.2.2.2 < f) →
    H' other = some (.dK (kvK Sum.inl wyV (putA ws b (t1, (("short" : Str), f)) ++ [(f, (t2, (("long" : Str), y.2.2)))]))) → H' t1 = some (.tup [.str "short", .int f]) → H' t2 = some (.tup [.str "long", .int y.2.2]) → Q (.ref L) H'
section
variable {P : Program} {w : World} {K : PySem.W.Frag} {mg : Str → Option Value} {base : Heap}
theorem D_l_ends (T : Txt K mg) : Df P w K mg base 1 "_law_ends" ["home", "ways", "begin"] (spEnds K) := by
  obtain ⟨f, fd, S⟩ := T.d_l_ends
  refine Df.mk' (k := 0) S sc_l_ends (fun vs H Q E h => ?_) (fun cdv A outer s H vs Q E hgd hr h => ?_)
  · obtain ⟨h, w, hm, ws, b, y, rfl, _⟩ := h
    rfl
  · obtain ⟨ha, wa, hm, ws, b, y, rfl, hH, hW, hwt, ndW, lH, lW, gy, yl, k⟩ := h
    have hu := hu_of hr
    have big : (2000 : Nat) ≤ sizeLine := by decide
    refine ⟨_, (pss_cons (ps_if (pt_cmpR op_eq (pe_ix ix_tup (pe_dget hu (pv 1) (pv 2) (fun _ _ => rfl)) pe_int (fun _ _ => rfl)) pe_str (nomark _)) (pss_one (ps_ret (pe_lst (pa_cons (pv 1) pa_nil)))) pss_nil)
      (pss_cons (ps_par3 (i := 3) (j := 4) (l := 5) (by rfl) sc_l_ends.nd rfl rfl rfl (by decide) (by decide) (by decide) rfl rfl rfl (pa_cons (pe_callTy call_dictD (by rfl) T.b_dict (by decide +kernel) (pa_cons (pv 1) pa_nil)) (pa_cons (pe_callTy call_dictD (by rfl) T.b_dict (by decide +kernel) (pa_cons (pv 1) pa_nil)) (pa_cons (pe_ix ix_tup (pe_dget hu (pv 1) (pv 2) (fun _ _ => rfl)) pe_int (fun _ _ => rfl)) pa_nil))) (by rfl))
      (pss_cons (ps_set (i := 6) sc_l_ends.nd rfl (.inl rfl) (pe_op op_add pe_int (pe_callB (cr_max rfl) (by rfl) T.b_max (by decide +kernel) (pa_cons (pe_op op_cat (pe_op op_cat (pe_listVals rfl (pv 0) (by rfl) T.b_list rfl) (pe_callTy (call_listD rfl) (by rfl) T.b_list (by decide +kernel) (pa_cons (pv 1) pa_nil))) (pe_lock (pe_lc (X := (cxOf CX0 P w K mg base ["home", "ways", "begin", "one", "other", "end", "fresh", "own"] "_law_ends" (defScope s_l_ends) f cdv A outer s H E).nox) (own := [("own", 7)]) (te := tOp (rIxT K) (tDGet (tVar 1) (tVar 7)) (tC (.int 1))) (g := gName 7) (tt := tYes) rfl sc_l_ends.nd (pi_keys (pv 1)) (blkOk_by (own := [("own", 7)]) (N := ["home", "ways", "begin", "one", "other", "end", "fresh", "own"]) (sc := defScope s_l_ends) (by decide +kernel)) (fun _ _ _ _ _ => pg_name (i := 7) sc_l_ends.nd rfl (.inl rfl)) (fun _ _ _ _ _ => pts_nil) (fun _ _ _ _ _ => (pe_ix ix_tup (pe_dget hu (pv 1) (pv 7) (fun _ _ => rfl)) pe_int (fun _ _ => rfl)))))) pa_nil))))
      (pss_cons (ps_asg (pe_tup (pa_cons (pe_tup (pa_cons pe_str (pa_cons (pv 5) pa_nil))) (pa_cons (pe_tup (pa_cons pe_str (pa_cons (pv 6) pa_nil))) (pa_cons (pe_tup (pa_cons pe_str (pa_cons (pv 5) pa_nil))) pa_nil)))) (pg_tup rfl (pgs_cons (pg_sub (pv 3) (pv 2) (set_dict hu)) (pgs_cons (pg_sub (pv 4) (pv 2) (set_dict hu)) (pgs_cons (pg_sub (pv 4) (pv 6) (set_dict hu)) pgs_nil)))))
      (pss_one (ps_ret (pe_lst (pa_cons (pv 3) (pa_cons (pv 4) pa_nil))))))))), ?_⟩
    have dg : ∀ {Hx : Hp}, Same H Hx → DGet Hx wa (.int b) (some (.ref y.1)) := fun {Hx} sx => by
      have := dgetI (f := wyV) (sx _ _ hW) b
      rw [gy] at this
      exact this
    have my := getA_mem gy
    refine ⟨_, rfl, _, rfl, wa, _, rfl, dg (Same.refl _), y.1, _, 0, .str y.2.1, rfl, rfl, hwt _ my, rfl, rfl, _, rfl, ?_⟩
    rw [yl]
    refine if_no (by decide) ?_
    refine ⟨_, rfl, wa, _, rfl, .of hW, fun one h1 => ⟨_, rfl, wa, _, rfl, .of (sameAdd h1 _ _ hW), fun other h2 => ?_⟩⟩
    have s2 := (sameAdd (o := .dK (kvK Sum.inl wyV ws)) h1).trans (sameAdd (o := .dK (kvK Sum.inl wyV ws)) h2)
    have one2 := sameAdd (o := .dK (kvK Sum.inl wyV ws)) h2 _ _ (show (upd H one (.dK (kvK Sum.inl wyV ws))) one = some (.dK (kvK Sum.inl wyV ws)) from upd_same)
    have oth2 : (upd (upd H one (.dK (kvK Sum.inl wyV ws))) other (.dK (kvK Sum.inl wyV ws))) other = some (.dK (kvK Sum.inl wyV ws)) := upd_same
    have o0 : H other = none := (sameAdd h1).free h2
    have n12 : one ≠ other := fun e => by rw [e, upd_same] at h2; cases h2
    generalize upd (upd H one (.dK (kvK Sum.inl wyV ws))) other (.dK (kvK Sum.inl wyV ws)) = H2 at s2 one2 oth2 ⊢
    clear h2
    refine ⟨_, rfl, _, rfl, wa, _, rfl, dg s2, y.1, _, 1, V.int y.2.2, rfl, rfl, sameT s2 (hwt _ my), rfl, _, _, _, rfl, ?_⟩
    dsimp only [gName, List.set]
    refine ⟨_, rfl, ha, _, rfl, s2 _ _ hH, fun q1 hq1 => ⟨_, rfl, wa, _, rfl, .of (sameAdd hq1 _ _ (s2 _ _ hW)), fun q2 hq2 => ?_⟩⟩
    have ev : (kvK Sum.inr V.int hm).map Prod.snd = (hm.map Prod.snd).map V.int := by unfold kvK; rw [List.map_map, List.map_map]; rfl
    have ek : (kvK Sum.inl wyV ws).map (fun kv => kV kv.1) = (keysA ws).map V.int := by unfold kvK keysA; rw [List.map_map, List.map_map]; rfl
    rw [ev] at hq2 ⊢
    rw [ek]
    have s3 := (s2.trans (sameAdd (o := .lst ((hm.map Prod.snd).map V.int)) hq1)).trans (sameAdd (o := .lst ((keysA ws).map V.int)) hq2)
    have s23 := (sameAdd (o := .lst ((hm.map Prod.snd).map V.int)) hq1).trans (sameAdd (o := .lst ((keysA ws).map V.int)) hq2)
    have q1a := sameAdd (o := .lst ((keysA ws).map V.int)) hq2 _ _ (show (upd H2 q1 (.lst ((hm.map Prod.snd).map V.int))) q1 = some (.lst ((hm.map Prod.snd).map V.int)) from upd_same)
    have q2a : (upd (upd H2 q1 (.lst ((hm.map Prod.snd).map V.int))) q2 (.lst ((keysA ws).map V.int))) q2 = some (.lst ((keysA ws).map V.int)) := upd_same
    have one3 := s23 _ _ one2
    have oth3 := s23 _ _ oth2
    generalize upd (upd H2 q1 (.lst ((hm.map Prod.snd).map V.int))) q2 (.lst ((keysA ws).map V.int)) = H3 at s3 q1a q2a one3 oth3 ⊢
    clear s23 hq2 hq1 one2 oth2 s2
    have lk : (keysA ws).length = ws.length := by unfold keysA; rw [List.length_map]
    refine ⟨q1, q2, _, _, rfl, rfl, q1a, q2a, by rw [List.length_map, List.length_map, List.length_map]; omega, fun q3 hq3 => ?_⟩
    have s4 := s3.trans (sameAdd (o := .lst ((hm.map Prod.snd).map V.int ++ (keysA ws).map V.int)) hq3)
    have q3a : (upd H3 q3 (.lst ((hm.map Prod.snd).map V.int ++ (keysA ws).map V.int))) q3 = some (.lst ((hm.map Prod.snd).map V.int ++ (keysA ws).map V.int)) := upd_same
    have one4 := sameAdd (o := .lst ((hm.map Prod.snd).map V.int ++ (keysA ws).map V.int)) hq3 _ _ one3
    have oth4 := sameAdd (o := .lst ((hm.map Prod.snd).map V.int ++ (keysA ws).map V.int)) hq3 _ _ oth3
    generalize upd H3 q3 (.lst ((hm.map Prod.snd).map V.int ++ (keysA ws).map V.int)) = H4 at s4 q3a one4 oth4 ⊢
    clear s3 q1a q2a one3 oth3 hq3
    refine lc_keys (d := wa) (kvs := kvK Sum.inl wyV ws) rfl (s4 _ _ hW) (fun i xs Hx => xs = ((ws.take i).map fun q => q.2.2.2).map V.int) (fun _ _ _ _ _ h => h) rfl ?_ (by rw [kv_len]; omega) ?_
    · rintro od i kk v Hx xs Ny Nn hk fz bx rfl lx yes no
      obtain ⟨⟨s, z⟩, hr, e⟩ : ∃ q, ws[i]? = some q ∧ (Sum.inl q.1, wyV q.2) = (kk, v) := by
        unfold kvK at hk
        rw [List.getElem?_map] at hk
        obtain ⟨q, e1, e2⟩ := Option.map_eq_some_iff.mp hk
        exact ⟨q, e1, e2⟩
      cases e
      have m := List.mem_of_getElem? hr
      have tk : (ws.take (i + 1)).map (fun q => q.2.2.2) = (ws.take i).map (fun q => q.2.2.2) ++ [z.2.2] := by rw [List.take_add_one, hr, List.map_append]; rfl
      have dz : DGet Hx wa (.int s) (some (.ref z.1)) := by
        have := dgetIR (f := wyV) (.inr ⟨od, fz⟩) s
        rw [mem_getA ndW m] at this
        exact this
      refine ⟨_, rfl, _, rfl, wa, _, rfl, dz, z.1, _, 1, V.int z.2.2, rfl, rfl, sq_but bx (s4 _ _ hW) (sameT s4 (hwt _ m)), rfl, yes _ _ fz (But.refl _ _) ?_⟩
      rw [tk, List.map_append]
      rfl
    · rintro L xs Hx sx hL Lx rfl lx
      rw [kv_len, List.take_length] at Lx
      have s5 := s4.trans sx
      have q3b := sx _ _ q3a
      have one5 := sx _ _ one4
      have oth5 := sx _ _ oth4
      refine ⟨q3, L, _, _, rfl, rfl, q3b, Lx, by simp only [List.length_map, List.length_append]; omega, fun q4 hq4 => ?_⟩
      have s6 := s5.trans (sameAdd (o := .lst ((hm.map Prod.snd).map V.int ++ (keysA ws).map V.int ++ (ws.map fun q => q.2.2.2).map V.int)) hq4)
      have q4a : (upd Hx q4 (.lst ((hm.map Prod.snd).map V.int ++ (keysA ws).map V.int ++ (ws.map fun q => q.2.2.2).map V.int))) q4 = some (.lst ((hm.map Prod.snd ++ keysA ws ++ ws.map fun q => q.2.2.2).map V.int)) := by rw [upd_same, List.map_append, List.map_append]
      have one6 := sameAdd (o := .lst ((hm.map Prod.snd).map V.int ++ (keysA ws).map V.int ++ (ws.map fun q => q.2.2.2).map V.int)) hq4 _ _ one5
      have oth6 := sameAdd (o := .lst ((hm.map Prod.snd).map V.int ++ (keysA ws).map V.int ++ (ws.map fun q => q.2.2.2).map V.int)) hq4 _ _ oth5
      generalize upd Hx q4 (.lst ((hm.map Prod.snd).map V.int ++ (keysA ws).map V.int ++ (ws.map fun q => q.2.2.2).map V.int)) = H6 at s6 q4a one6 oth6 ⊢
      clear s5 hq4 q3b one5 oth5 Lx sx hL one4 oth4 q3a s4 Hx H4
      refine ⟨q4, _, rfl, SqL.of q4a, ?_, fun mx hmx hall => ⟨_, _, rfl, rfl, ?_⟩⟩
      · rw [List.length_append, List.length_append, lk]
        have : 0 < ws.length := List.length_pos_of_mem my
        omega
      have f1 : ∀ q ∈ hm, q.2 < 1 + mx := fun q m => by
        have := hall q.2 (List.mem_append_left _ (List.mem_append_left _ (List.mem_map.mpr ⟨q, m, rfl⟩)))
        omega
      have f2 : ¬ 1 + mx ∈ keysA ws := fun m => by
        have := hall _ (List.mem_append_left _ (List.mem_append_right _ m))
        omega
      have f3 : ∀ q ∈ ws, q.2.2.2 < 1 + mx := fun q m => by
        have := hall q.2.2.2 (List.mem_append_right _ (List.mem_map.mpr ⟨q, m, rfl⟩))
        omega
      dsimp only [gName, List.set]
      have f4 : ∃ x, 1 + mx = 1 + x ∧ ((∃ q ∈ hm, x = q.2) ∨ x ∈ keysA ws ∨ ∃ q ∈ ws, x = q.2.2.2) := by
        refine ⟨mx, rfl, ?_⟩
        rcases List.mem_append.mp hmx with m | m
        · rcases List.mem_append.mp m with m | m
          · obtain ⟨q, mq, e⟩ := List.mem_map.mp m
            exact .inl ⟨q, mq, e.symm⟩
          · exact .inr (.inl m)
        · obtain ⟨q, mq, e⟩ := List.mem_map.mp m
          exact .inr (.inr ⟨q, mq, e.symm⟩)
      generalize 1 + mx = fr at f1 f2 f3 f4 ⊢
      clear hall hmx mx q4a
      refine ⟨_, rfl, by show 2 ≤ sizeLine; decide, fun t0 h0 => ⟨_, rfl, by show 2 ≤ sizeLine; decide, fun t1 h1' => ⟨_, rfl, by show 2 ≤ sizeLine; decide, fun t2 h2' => ⟨by show 3 ≤ sizeLine; decide, fun t3 h3' => ?_⟩⟩⟩⟩
      have g1 := sameAdd (o := .tup [V.str "short", V.int y.2.2]) h0
      have g2 := g1.trans (sameAdd (o := .tup [V.str "short", V.int fr]) h1')
      have g3 := g2.trans (sameAdd (o := .tup [V.str "long", V.int y.2.2]) h2')
      have g4 := g3.trans (sameAdd (o := .tup [V.ref t0, V.ref t1, V.ref t2]) h3')
      have s7 := s6.trans g4
      have one7 := g4 _ _ one6
      have oth7 := g4 _ _ oth6
      have t0a : (upd (upd (upd (upd H6 t0 (.tup [V.str "short", V.int y.2.2])) t1 (.tup [V.str "short", V.int fr])) t2 (.tup [V.str "long", V.int y.2.2])) t3 (.tup [V.ref t0, V.ref t1, V.ref t2])) t0 = some (.tup [V.str "short", V.int y.2.2]) := sameAdd h3' _ _ (sameAdd h2' _ _ (sameAdd h1' _ _ upd_same))
      have t1a : (upd (upd (upd (upd H6 t0 (.tup [V.str "short", V.int y.2.2])) t1 (.tup [V.str "short", V.int fr])) t2 (.tup [V.str "long", V.int y.2.2])) t3 (.tup [V.ref t0, V.ref t1, V.ref t2])) t1 = some (.tup [V.str "short", V.int fr]) := sameAdd h3' _ _ (sameAdd h2' _ _ upd_same)
      have t2a : (upd (upd (upd (upd H6 t0 (.tup [V.str "short", V.int y.2.2])) t1 (.tup [V.str "short", V.int fr])) t2 (.tup [V.str "long", V.int y.2.2])) t3 (.tup [V.ref t0, V.ref t1, V.ref t2])) t2 = some (.tup [V.str "long", V.int y.2.2]) := sameAdd h3' _ _ upd_same
      have t3a : (upd (upd (upd (upd H6 t0 (.tup [V.str "short", V.int y.2.2])) t1 (.tup [V.str "short", V.int fr])) t2 (.tup [V.str "long", V.int y.2.2])) t3 (.tup [V.ref t0, V.ref t1, V.ref t2])) t3 = some (.tup [V.ref t0, V.ref t1, V.ref t2]) := upd_same
      generalize upd (upd (upd (upd H6 t0 (.tup [V.str "short", V.int y.2.2])) t1 (.tup [V.str "short", V.int fr])) t2 (.tup [V.str "long", V.int y.2.2])) t3 (.tup [V.ref t0, V.ref t1, V.ref t2]) = H7 at s7 one7 oth7 t0a t1a t2a t3a ⊢
      clear g1 g2 g3 g4 h0 h1' h2' h3'
      have n0 : t0 ≠ other := fun e => by rw [e, oth7] at t0a; cases t0a
      have m0 : t0 ≠ one := fun e => by rw [e, one7] at t0a; cases t0a
      have n1 : t1 ≠ other := fun e => by rw [e, oth7] at t1a; cases t1a
      have n2 : t2 ≠ other := fun e => by rw [e, oth7] at t2a; cases t2a
      have m1 : t1 ≠ one := fun e => by rw [e, one7] at t1a; cases t1a
      have m2 : t2 ≠ one := fun e => by rw [e, one7] at t2a; cases t2a
      have lp := putA_len ws b (t1, (("short" : Str), fr))
      have nf : ¬ fr ∈ keysA (putA ws b (t1, (("short" : Str), fr))) := fun m => by
        rcases putA_keys.mp m with m | e
        · exact f2 m
        · exact f2 (by rw [e]; exact List.mem_map.mpr ⟨_, my, rfl⟩)
      refine ⟨t3, _, rfl, SqT.of t3a, rfl, _, _, rfl, _, rfl, _, rfl, one, _, rfl, dputI (f := wyV) one7 b (t0, (("short" : Str), y.2.2)) (by omega), _, _, rfl, _, rfl, _, rfl, other, _, rfl, dputI (f := wyV) (by rw [upd_ne n12.symm]; exact oth7) b (t1, (("short" : Str), fr)) (by omega), _, _, rfl, _, rfl, _, rfl, other, _, rfl, dputI (f := wyV) upd_same fr (t2, (("long" : Str), y.2.2)) (by omega), rfl, ?_⟩
      rw [put_new nf]
      refine ⟨_, rfl, _, rfl, by show 2 ≤ sizeLine; decide, fun L hL => ?_⟩
      have s8 : Same H (upd (upd (upd H7 one (.dK (kvK Sum.inl wyV (putA ws b (t0, (("short" : Str), y.2.2)))))) other (.dK (kvK Sum.inl wyV (putA ws b (t1, (("short" : Str), fr)))))) other (.dK (kvK Sum.inl wyV (putA ws b (t1, (("short" : Str), fr)) ++ [(fr, (t2, (("long" : Str), y.2.2)))])))) := sameOut (sameOut (sameOut s7 h1) o0) o0
      refine k L one other t0 t1 t2 fr _ f4 (sameAdd hL _ _ ?_) (sameAdd hL _ _ ?_) (s8.trans (sameAdd hL)) upd_same f2 f1 f3 (sameAdd hL _ _ upd_same) (sameAdd hL _ _ ?_) (sameAdd hL _ _ ?_)
      · rw [upd_ne n12, upd_ne n12, upd_same]
      · rw [upd_ne n0, upd_ne n0, upd_ne m0]
        exact t0a
      · rw [upd_ne n1, upd_ne n1, upd_ne m1]
        exact t1a
      · rw [upd_ne n2, upd_ne n2, upd_ne m2]
        exact t2a
end
end L2.Hx

/-! Names, one case, sizes of cases. -/
namespace L2.Hx
open PySem PySem.Spec PyProof.Rows
theorem sqT_ext {K : PySem.W.Frag} {p l : Addr} {G H G' H' : Hp} {a : Addr} {xs : List V} (W : Wd p l G H) (e : Ext p l G H G' H') (h : SqT K H a xs) : SqT K H' a xs := by
  obtain ⟨ms, hl⟩ := W.ls
  obtain ⟨m, t, _, _, hp⟩ := W.dk
  rcases h with (q | ⟨o, q⟩) | q
  · exact .inl (.inl (e.keep _ _ (fun z => by rw [z, hp] at q; cases q) (fun z => by rw [z, hl.2] at q; cases q) q))
  · exact .inl (.inr ⟨o, e.keep _ _ (fun z => by rw [z, hp] at q; cases q) (fun z => by rw [z, hl.2] at q; cases q) q⟩)
  · exact .inr q
def lets : List Str := ["x", "xa", "p", "xab", "result", "abcdefgh"]
theorem lets_ok : ∀ z ∈ lets, Okd 0 100 (.str z) := by
  have h : (lets.all fun z => okB (.str z) && decide (siz (.str z) ≤ 100)) = true := by decide +kernel
  rw [List.all_eq_true] at h
  intro z m
  have q := h z m
  rw [Bool.and_eq_true] at q
  exact ⟨q.1, Nat.zero_le _, of_decide_eq_true q.2⟩
theorem lets_shp : ∀ z ∈ lets, Shp (.str z) := by
  have h : (lets.all fun z => (PyData.str z).canLay0) = true := by decide +kernel
  rw [List.all_eq_true] at h
  exact fun z m => ⟨h z m, by simp [PyData.depth]⟩
theorem lets_nd : lets.Nodup := by decide +kernel
theorem lets_nn : ¬ ("nil" : Str) ∈ lets := by decide +kernel
structure NamesOk (ns : List Str) : Prop where
  nd : ns.Nodup
  sub : ∀ n ∈ ns, n ∈ lets
  len : ns.length ≤ 8
theorem NamesOk.nn {ns : List Str} (h : NamesOk ns) : ¬ ("nil" : Str) ∈ ns := fun m => lets_nn (h.sub _ m)
theorem names_of {ns ms : List Str} (p : ns.Perm ms) (nd : ms.Nodup) (sub : ∀ n ∈ ms, n ∈ lets) : NamesOk ns := by
  refine ⟨p.nodup_iff.mpr nd, fun n m => sub n (p.mem_iff.mp m), ?_⟩
  suffices ∀ (T ks : List Str), T.Nodup → (∀ x ∈ T, x ∈ ks) → T.length ≤ ks.length by
    have h := this ns lets (p.nodup_iff.mpr nd) fun n m => sub n (p.mem_iff.mp m)
    exact Nat.le_trans h (by decide)
  intro T
  induction T with
  | nil => intro ks _ _; exact Nat.zero_le _
  | cons t T ih =>
    intro ks nd h
    have hc := List.nodup_cons.mp nd
    have hm : t ∈ ks := h t List.mem_cons_self
    have h2 := ih (ks.erase t) hc.2 fun x hx => (List.mem_erase_of_ne (fun e => hc.1 (by rw [← e]; exact hx))).mpr (h x (List.mem_cons_of_mem _ hx))
    rw [List.length_erase_of_mem hm] at h2
    have pos : 0 < ks.length := List.length_pos_of_mem hm
    rw [List.length_cons]
    omega
theorem cut_strs (ns : List Str) (lo hi : Option Int) : ∃ ms : List Str, cutV (ns.map V.str) lo hi = ms.map V.str ∧ ms.Sublist ns := by
  refine ⟨(ns.drop (HT.sIx (ns.map V.str).length 0 lo)).take (HT.sIx (ns.map V.str).length (ns.map V.str).length hi - HT.sIx (ns.map V.str).length 0 lo), ?_, (List.take_sublist _ _).trans (List.drop_sublist _ _)⟩
  unfold cutV
  rw [List.map_take, List.map_drop]
theorem int_ok {i : Int} (h : i.natAbs < 2 ^ 7) : Okd 0 1921 (.int i) := ⟨by
  rw [okB]
  exact decide_eq_true (Nat.lt_trans (PySem.Flt.log2_lt_of (by decide) h) (by decide)), Nat.zero_le _, Nat.le_refl _⟩
theorem case_okd {ns : List Str} {c : Cs} (hn : NamesOk ns) (h : CaseOk ns c) : Okd 4 1000000 (caseD c) := by
  have mem : ∀ l ∈ c.1, ∀ z ∈ l, z ∈ ns := fun l m z mz => h.perm.mem_iff.mp (List.mem_flatten.mpr ⟨l, m, mz⟩)
  have l8 : ∀ l ∈ c.1, l.length ≤ 8 := fun l m => by
    have h1 := (List.sublist_flatten_of_mem m).length_le
    have h2 := h.perm.length_eq
    have h3 := hn.len
    omega
  have kinds : ∀ z ∈ (["short", "long"] : List Str), Okd 0 1921 (.str z) := by
    have h : ((["short", "long"] : List Str).all fun z => okB (.str z) && decide (siz (.str z) ≤ 1921)) = true := by decide +kernel
    rw [List.all_eq_true] at h
    intro z m
    have q := h z m
    rw [Bool.and_eq_true] at q
    exact ⟨q.1, Nat.zero_le _, of_decide_eq_true q.2⟩
  refine Okd.mono (k := 3) (n := 461935) (Okd.tup (k := 2) (n := 230964) (m := 2) (fun d m => ?_) (Nat.le_refl 2))
  rcases List.mem_cons.mp m with rfl | m
  · refine Okd.mono (Okd.tup (k := 1) (n := 819) (m := 60) (N := 49263) (fun d m => ?_) (by rw [List.length_map]; exact h.len))
    obtain ⟨l, ml, rfl⟩ := List.mem_map.mp m
    refine Okd.tup (k := 0) (n := 100) (m := 8) (fun d m => ?_) (by rw [List.length_map]; exact l8 l ml)
    obtain ⟨z, mz, rfl⟩ := List.mem_map.mp m
    exact lets_ok z (hn.sub z (mem l ml z mz))
  · rw [List.mem_singleton.mp m]
    refine Okd.mono (Okd.tup (k := 1) (n := 5772) (m := 40) (N := 230963) (fun d m => ?_) (by rw [List.length_map]; exact h.alen))
    obtain ⟨q, mq, rfl⟩ := List.mem_map.mp m
    have a := h.ar q mq
    have l60 := h.len
    refine Okd.tup (k := 0) (n := 1921) (m := 3) (fun d m => ?_) (Nat.le_refl 3)
    rcases List.mem_cons.mp m with rfl | m
    · exact int_ok (by omega)
    · rcases List.mem_cons.mp m with rfl | m
      · exact kinds _ (by rcases a.2.2.1 with e | e <;> rw [e] <;> simp)
      · rw [List.mem_singleton.mp m]
        exact int_ok (by omega)
theorem ns_ok {ns : List Str} (h : NamesOk ns) (s : sortedS ns = true) : NsOk ns := ⟨h.nd, h.nn, h.len, sorted_pw ns s, fun n m => lets_shp n (h.sub n m)⟩
abbrev namesD (ns : List Str) : PyData := .tuple (ns.map .str)
theorem names_okd {ns : List Str} (h : NamesOk ns) : Okd 1 819 (namesD ns) := by
  refine Okd.tup (k := 0) (n := 100) (m := 8) (fun d m => ?_) (by rw [List.length_map]; exact h.len)
  obtain ⟨z, mz, rfl⟩ := List.mem_map.mp m
  exact lets_ok z (h.sub z mz)
theorem both_okd {ns : List Str} {c : Cs} (hn : NamesOk ns) (h : CaseOk ns c) : Okd 5 2000007 (.list [namesD ns, caseD c]) := by
  refine Okd.list (k := 4) (n := 1000000) (m := 2) (fun d m => ?_) (Nat.le_refl 2)
  rcases List.mem_cons.mp m with rfl | m
  · exact (names_okd hn).mono
  · rw [List.mem_singleton.mp m]
    exact case_okd hn h
theorem da_ext {K : PySem.W.Frag} {p l : Addr} {G H G' H' : Hp} {v : V} {c : Cs} (W : Wd p l G H) (e : Ext p l G H G' H') (h : Da K H v (caseD c)) : Da K H' v (caseD c) := Da.tups (fun _ _ q => sqT_ext W e q) h (tupD_case c)
theorem cells_few {ns : List Str} {c : Cs} {most : Nat} {vals : List Int} {chs : List Ch} (ok : CaseOk ns c) (hf : HeapF most c vals chs) (h : most ≤ 10) : (heapF chs).length ≤ 400 := by
  have key : ∀ {chs : List Ch} {ars : List Ar}, Paired (fun (ch : Ch) (a : Ar) => vals[a.1.toNat]? = some ch.1 ∧ vals[a.2.2.toNat]? = some ch.2.2 ∧ (a.2.1 ≠ "long" → ch.2.1 = []) ∧ ch.2.1.length < most) chs ars → (chs.flatMap lnkC).length ≤ 10 * ars.length := by
    intro chs ars p
    induction p with
    | nil => exact Nat.le_refl _
    | @cons ch a chs ars r _ ih =>
      rw [List.flatMap_cons, List.length_append, List.length_cons]
      have e : (lnkC ch).length = ch.2.1.length + 1 := by
        have := congrArg List.length (lnkR_keys ch.1 ch.2.1 ch.2.2)
        unfold keysA at this
        rw [List.length_map] at this
        exact this
      have := r.2.2.2
      omega
  have h1 := (heap_perm ok hf).1.length_eq
  have h2 := key hf.chain
  have h3 := ok.alen
  omega
theorem len_few {ns : List Str} {c : Cs} (N : CaseN ns c) (O : NsOk ns) (M : Met c) (l39 : c.2.length ≤ 39) : c.1.length ≤ 59 := by
  have hok := hmC_ok (c := c) O.nd O.nn
  have ho := hok.ok O.nd O.nn
  have py : (("nil" : Str) :: ns).Perm (keysA (hmC ns c)) := ho.keys.symm
  have el := hok.lot N O.nd O.nn py (up_ns O.nn O.up)
  have bg := begC_ok c
  have bg2 : Begins ("nil" :: ns) (hmC ns c) (begC c) := ⟨bg.nd, by rw [el]; exact bg.mem, by rw [el]; exact bg.srt⟩
  have lb := begins_len bg2
  have lh : (hmC ns c).length = ns.length + 1 := by
    unfold hmC
    rw [List.length_cons, List.length_map]
  have ln := O.ln
  have nd : ((List.range c.1.length).map fun i : Nat => (i : Int)).Nodup := by
    rw [List.nodup_iff_pairwise_ne, List.pairwise_map]
    exact (List.nodup_range).imp fun {a b} h e => h (by omega)
  have := once_len (T := (List.range c.1.length).map fun i : Nat => (i : Int)) (ks := 0 :: (begC c ++ c.2.map fun q => q.2.2)) ⟨nd, fun s m => by
    obtain ⟨i, mi, rfl⟩ := List.mem_map.mp m
    have il := List.mem_range.mp mi
    by_cases z : i = 0
    · rw [z]
      exact List.mem_cons_self
    · refine List.mem_cons_of_mem _ ?_
      by_cases h : lotC c (i : Int) = []
      · obtain ⟨q, mq, e⟩ := M (i : Int) (by omega) (by omega) h
        exact List.mem_append_right _ (List.mem_map.mpr ⟨q, mq, e⟩)
      · exact List.mem_append_left _ ((bg.mem _).mpr ⟨by omega, h⟩)⟩
  rw [List.length_map, List.length_range, List.length_cons, List.length_append, List.length_map] at this
  omega
theorem case0_ok : CaseOk [] ([[]], []) := ⟨.refl _, by decide, by decide, by decide, List.nodup_nil, fun q m => absurd m List.not_mem_nil⟩
theorem case0_n : CaseN [] ([[]], []) := ⟨case0_ok, fun q m => absurd m List.not_mem_nil, fun q m => absurd m List.not_mem_nil, fun l m => by rw [List.mem_singleton.mp m]; exact .nil, fun S _ _ q m => absurd m List.not_mem_nil⟩
theorem case0_met : Met ([[]], []) := fun i i0 i1 _ => by
  have : i < 1 := i1
  omega
theorem names0_ok : NamesOk [] := ⟨List.nodup_nil, fun n m => absurd m List.not_mem_nil, Nat.zero_le _⟩
theorem ns0_ok : NsOk [] := ⟨List.nodup_nil, List.not_mem_nil, Nat.zero_le _, .nil, fun n m => absurd m List.not_mem_nil⟩
def spNames (K : PySem.W.Frag) : Sp := fun vs H Q _ => ∃ (p l : Addr) (G : Hp) (most : Int), vs = [.ref p, .int most] ∧ Wd p l G H ∧ 1 ≤ most ∧ most ≤ 1000 ∧ ∀ (nt : Addr) (ns : List Str) (G' H' : Hp), Ext p l G H G' H' → SqT K G' nt (ns.map V.str) → NamesOk ns → sortedS ns = true → Q (.ref nt) H'
def spOne (K : PySem.W.Frag) : Sp := fun vs H Q _ => ∃ (p l : Addr) (G : Hp) (most : Int), vs = [.ref p, .int most] ∧ Wd p l G H ∧ 1 ≤ most ∧ most ≤ 1000 ∧ ∀ (t nt : Addr) (v : V) (ns : List Str) (c : Cs) (G' H' : Hp), Ext p l G H G' H' → SqT K G' t [.ref nt, v] → SqT K G' nt (ns.map V.str) → NamesOk ns → NsOk ns → CaseN ns c → Met c → c.2.length ≤ 39 → Da K G' v (caseD c) → Q (.ref t) H'
section
variable {P : Program} {w : World} {K : PySem.W.Frag} {mg : Str → Option Value} {base : Heap}
theorem D_l_names (T : Txt K mg) : Df P w K mg base 3 "_law_names" ["deck", "most"] (spNames K) := by
  have D_l_draw := D_draw (P := P) (w := w) (base := base) T
  have D_l_mixed := D_l_mixed (P := P) (w := w) (base := base) T
  obtain ⟨f, fd, S⟩ := T.d_l_names
  refine Df.mk' (k := 2) S sc_l_names (fun vs H Q E h => ?_) (fun cdv A outer s H vs Q E hgd hr h => ?_)
  · obtain ⟨p, l, G, most, rfl, _⟩ := h
    rfl
  · obtain ⟨p, l, G2, most, rfl, W2, m1, m2, k⟩ := h
    have big : (2000 : Nat) ≤ sizeLine := by decide
    refine ⟨_, (pss_one (ps_ret (pe_callTy call_tuple_of (by rfl) T.b_tuple (by decide +kernel) (pa_cons (pe_callB cr_sortedS (by rfl) T.b_sorted (by decide +kernel) (pa_cons (pe_slice sl_list (pe_d D_l_mixed hgd hr (pa_cons (pv 0) (pa_cons (pe_lst (pa_cons pe_str (pa_cons pe_str (pa_cons pe_str (pa_cons pe_str (pa_cons pe_str (pa_cons pe_str pa_nil))))))) pa_nil))) po_none (po_some (pe_op op_add pe_int (pe_d D_l_draw hgd hr (pa_cons (pv 0) (pa_cons (pv 1) pa_nil)))))) pa_nil)) pa_nil)))), ?_⟩
    refine ⟨_, rfl, by show 6 ≤ sizeLine; decide, fun L hL => ?_⟩
    have eL : [V.str "x", V.str "xa", V.str "p", V.str "xab", V.str "result", V.str "abcdefgh"] = lets.map V.str := rfl
    rw [eL]
    have E3 := W2.tmp (o := .lst (lets.map V.str)) hL
    have L3 : (upd H L (.lst (lets.map V.str))) L = some (.lst (lets.map V.str)) := upd_same
    generalize upd H L (.lst (lets.map V.str)) = H3 at E3 L3 ⊢
    have W3 := E3.w
    refine ⟨p, l, G2, L, lets.map (fun n => (V.str n, PyData.str n)), rfl, W3, .inl (SqL.of (by rw [List.map_map]; exact L3)), by rw [List.length_map]; decide, fun z m => ?_, fun r ys G4 H4 e4 r4 r0 gr pm => ?_⟩
    · obtain ⟨n, mn, rfl⟩ := List.mem_map.mp m
      exact ⟨.str n, lets_shp n mn⟩
    obtain ⟨ms, rfl, pms⟩ := perm_map_inv (f := fun n => (V.str n, PyData.str n)) pm _ rfl
    rw [List.map_map] at r4
    have r4 : H4 r = some (.lst (ms.map V.str)) := r4
    have E4 := E3.trans W2 e4
    have W4 := e4.w
    have nrp := W3.np r0
    have nrl := W3.nl r0
    clear e4 r0 gr pm L3 W3 E3 hL
    refine ⟨_, rfl, _, rfl, p, l, G4, most, rfl, by omega, by omega, W4, fun d H6 d0 d1 e6 => ⟨_, _, rfl, rfl, 1 + d, rfl, r, _, rfl, SqL.of (e6.keep _ _ nrp nrl r4), fun S1 hS1 => ?_⟩⟩
    have E6 := E4.trans W2 e6
    obtain ⟨ms2, ec, sub⟩ := cut_strs ms none (some (1 + d))
    rw [ec]
    have E7 := E6.trans W2 (E6.w.tmp (o := .lst (ms2.map V.str)) hS1)
    have S7 : (upd H6 S1 (.lst (ms2.map V.str))) S1 = some (.lst (ms2.map V.str)) := upd_same
    generalize upd H6 S1 (.lst (ms2.map V.str)) = H7 at E7 S7 ⊢
    have l7 : ms2.length ≤ 7 := Nat.le_trans sub.length_le (by rw [pms.length_eq]; decide)
    have nd2 : ms2.Nodup := sub.nodup (pms.nodup_iff.mpr lets_nd)
    have sub2 : ∀ n ∈ ms2, n ∈ lets := fun n m => pms.mem_iff.mp (sub.subset m)
    refine ⟨S1, ms2, rfl, SqL.of S7, by omega, fun ns p2 pns srt hp2 => ?_⟩
    have E8 := E7.trans W2 (E7.w.tmp (o := .lst (ns.map V.str)) hp2)
    have p28 : (upd H7 p2 (.lst (ns.map V.str))) p2 = some (.lst (ns.map V.str)) := upd_same
    generalize upd H7 p2 (.lst (ns.map V.str)) = H8 at E8 p28 ⊢
    refine ⟨p2, _, rfl, .inl ⟨SqL.of p28, fun nt hnt => ?_⟩⟩
    exact k nt ns _ _ (E8.trans W2 (E8.w.put (o := .tup (ns.map V.str)) hnt)) (SqT.of upd_same) (names_of pns nd2 sub2) srt
theorem D_l_one_case (T : Txt K mg) : Df P w K mg base 4 "_law_one_case" ["deck", "most"] (spOne K) := by
  have D_l_draw := D_draw (P := P) (w := w) (base := base) T
  have D_l_names := D_l_names (P := P) (w := w) (base := base) T
  have D_l_any_case := D_l_any_case (P := P) (w := w) (base := base) T
  obtain ⟨f, fd, S⟩ := T.d_l_one_case
  refine Df.mk' (k := 3) S sc_l_one_case (fun vs H Q E h => ?_) (fun cdv A outer s H vs Q E hgd hr h => ?_)
  · obtain ⟨p, l, G, most, rfl, _⟩ := h
    rfl
  · obtain ⟨p, l, G, most, rfl, W, m1, m2, k⟩ := h
    refine ⟨_, (pss_cons (ps_set (i := 2) sc_l_one_case.nd rfl (.inl rfl) (pe_d D_l_names hgd hr (pa_cons (pv 0) (pa_cons (pv 1) pa_nil))))
      (pss_one (ps_ret (pe_tup (pa_cons (pv 2) (pa_cons (pe_d D_l_any_case hgd hr (pa_cons (pv 0) (pa_cons (pv 2) (pa_cons (pe_d D_l_draw hgd hr (pa_cons (pv 0) (pa_cons pe_int pa_nil))) pa_nil)))) pa_nil)))))), ?_⟩
    refine ⟨_, rfl, _, rfl, p, l, G, most, rfl, W, m1, m2, fun nt ns G1 H1 E1 hnt hn srt => ?_⟩
    dsimp only [gName, List.set]
    refine ⟨_, rfl, _, rfl, _, rfl, _, rfl, p, l, G1, 3, rfl, by decide, by decide, E1.w, fun nl H2 nl0 nl1 e2 => ?_⟩
    refine ⟨p, l, G1, nt, ns, nl, rfl, e2.w, hnt, hn.nd, hn.nn, hn.len, fun n m => lets_shp n (hn.sub n m), nl0, by omega, fun c cv G3 H3 cf l39 e3 dc => ?_⟩
    have E3 := (E1.trans W e2).trans W e3
    refine ⟨by show 2 ≤ sizeLine; decide, fun t ht => ?_⟩
    have e4 := E3.w.put (o := .tup [V.ref nt, cv]) ht
    exact k t nt cv ns c _ _ (E3.trans W e4) (SqT.of upd_same) (sameT (e3.sub.trans e4.sub) hnt) hn (ns_ok hn srt) (case_n hn.nd hn.nn hn.len cf) (case_met cf) l39 (dc.mono e4.sub)
end
end L2.Hx

/-! One arrow opened, looked at by the law. -/
namespace L2.Hx
open PySem PySem.Spec PyProof.Rows
abbrev unD : PyData := .list [.str "unfit", .bool true]
abbrev toldD (c1 c2 : Cs) : PyData := .list [.str "told", .tuple ((dueL c1 c2).map caseD)]
theorem dueL_perm (c1 c2 : Cs) : (dueL c1 c2).Perm [c1, c2] := List.mergeSort_perm _ _
theorem opn_okd {ns : List Str} {c1 c2 : Cs} (hn : NamesOk ns) (h1 : CaseOk ns c1) (h2 : CaseOk ns c2) : Okd 5 2000007 (.tuple ((dueL c1 c2).map caseD)) := by
  refine Okd.tup (k := 4) (n := 1000000) (m := 2) (fun d m => ?_) (by rw [List.length_map, (dueL_perm c1 c2).length_eq]; exact Nat.le_refl 2)
  obtain ⟨q, mq, rfl⟩ := List.mem_map.mp m
  rcases List.mem_cons.mp ((dueL_perm c1 c2).mem_iff.mp mq) with rfl | m
  · exact case_okd hn h1
  · rw [List.mem_singleton.mp m]
    exact case_okd hn h2
theorem words_okd : ∀ z ∈ (["told", "unfit"] : List Str), Okd 5 2000007 (.str z) := by
  have h : ((["told", "unfit"] : List Str).all fun z => okB (.str z) && decide (siz (.str z) ≤ 1921)) = true := by decide +kernel
  rw [List.all_eq_true] at h
  intro z m
  have q := h z m
  rw [Bool.and_eq_true] at q
  exact Okd.mono (k := 0) (n := 1921) ⟨q.1, Nat.zero_le _, of_decide_eq_true q.2⟩
theorem told_okd {ns : List Str} {c1 c2 : Cs} (hn : NamesOk ns) (h1 : CaseOk ns c1) (h2 : CaseOk ns c2) : Okd 6 5000000 (toldD c1 c2) := by
  refine Okd.mono (k := 6) (n := 4000021) (Okd.list (k := 5) (n := 2000007) (m := 2) (fun d m => ?_) (Nat.le_refl 2))
  rcases List.mem_cons.mp m with rfl | m
  · exact words_okd _ List.mem_cons_self
  · rw [List.mem_singleton.mp m]
    exact opn_okd hn h1 h2
theorem unfit_okd : Okd 6 5000000 unD := by
  refine Okd.mono (k := 6) (n := 4000021) (Okd.list (k := 5) (n := 2000007) (m := 2) (fun d m => ?_) (Nat.le_refl 2))
  rcases List.mem_cons.mp m with rfl | m
  · exact words_okd _ (by simp)
  · rw [List.mem_singleton.mp m]
    exact Okd.mono (k := 0) (n := 100) ⟨by decide +kernel, by simp [PyData.depth], by decide +kernel⟩
def Heard (c : Cs) (b : Int) (dd : PyData) : Prop := ((∀ e, ¬ (b, (("long" : Str), e)) ∈ c.2) ∧ dd = unD) ∨ ∃ e c1 c2, (b, (("long" : Str), e)) ∈ c.2 ∧ numL (lotC c) (toW (oneR c b e)) (begC c) = some c1 ∧ numL (lotC c) (toW (moreR c b e c.1.length)) (begC c) = some c2 ∧ dd = toldD c1 c2
def spHeard2 (K : PySem.W.Frag) : Sp := fun vs H Q _ => ∃ (n v : V) (b : Int) (nm : Bool) (G : Hp) (ns : List Str) (c : Cs) (dd : PyData), vs = [n, v, .int b, .bl nm] ∧ Same G H ∧ Da K G v (caseD c) ∧ CaseN ns c ∧ NsOk ns ∧ c.1.length ≤ 59 ∧ c.2.length ≤ 39 ∧ Heard c b dd ∧
  ∀ (z : Addr) (H' : Hp), Same H H' → Da K H' (.ref z) dd → Q (.ref z) H'
theorem nw_sub {H H' : Hp} : Same (Nw H H') H' := fun b o e => by
  unfold Nw at e
  split at e
  · exact e
  · cases e
theorem paired_snoc2 {α β : Type} {R : α → β → Prop} {x : α} {y : β} : ∀ {xs : List α} {ys : List β}, Paired R xs ys → R x y → Paired R (xs ++ [x]) (ys ++ [y])
  | _, _, .nil, h => .cons h .nil
  | _, _, .cons a t, h => .cons a (paired_snoc2 t h)
theorem paired_left {α β : Type} {R : α → β → Prop} : ∀ {xs : List α} {ys : List β}, Paired R xs ys → ∀ x ∈ xs, ∃ y ∈ ys, R x y
  | _, _, .nil, x, m => absurd m List.not_mem_nil
  | _, _, .cons (a := u) (b := z) a t, x, m => by
    rcases List.mem_cons.mp m with e | m
    · subst e
      exact ⟨_, List.mem_cons_self, a⟩
    · obtain ⟨y, my, r⟩ := paired_left t x m
      exact ⟨y, List.mem_cons_of_mem _ my, r⟩
theorem nw_mono {H Hx Hy : Hp} (s : Same Hx Hy) : Same (Nw H Hx) (Nw H Hy) := fun b o e => by
  unfold Nw at e ⊢
  split at e
  · rename_i h
    rw [if_pos h]
    exact s _ _ e
  · cases e
theorem nw_new {H Hx Hy Hz : Hp} (s : ∀ b, Hx b = none → H b = none) (k : ∀ b o, Hx b = none → Hy b = some o → Hz b = some o) : Same (Nw Hx Hy) (Nw H Hz) := fun b o e => by
  unfold Nw at e
  split at e
  · rename_i h
    have hx : Hx b = none := by
      cases q : Hx b with
      | none => rfl
      | some u => rw [q] at h; cases h
    have h0 := s b hx
    unfold Nw
    rw [if_pos (by rw [h0]; rfl)]
    exact k b o hx e
  · cases e
theorem nw_base {H Hx : Hp} {B : Addr} {o : HO} : Same (Nw (upd H B o) Hx) (Nw H Hx) := fun b u e => by
  unfold Nw at e
  split at e
  · rename_i h
    have n : b ≠ B := fun z => by rw [z, upd_same] at h; cases h
    rw [upd_ne n] at h
    unfold Nw
    rw [if_pos h]
    exact e
  · cases e
theorem nw_list {H Hx Hy : Hp} {B : Addr} {o u : HO} (s : Same Hx Hy) : Same (Nw (upd H B o) Hx) (Nw (upd H B o) (upd Hy B u)) := fun b v e => by
  unfold Nw at e ⊢
  split at e
  · rename_i h
    have n : b ≠ B := fun z => by rw [z, upd_same] at h; cases h
    rw [if_pos h, upd_ne n]
    exact s _ _ e
  · cases e
theorem fresh_is {ns : List Str} {c : Cs} {hm : Hm} {ws : Ws} {f : Int} (N : CaseN ns c) (O : NsOk ns) (M : Met c) (HC : HomeC ns c hm) (ew : ws.map tailW = c.2) (fm : ∃ x, f = 1 + x ∧ ((∃ q ∈ hm, x = q.2) ∨ x ∈ keysA ws ∨ ∃ q ∈ ws, x = q.2.2.2)) (fh : ∀ q ∈ hm, q.2 < f) (fe : ∀ q ∈ ws, q.2.2.2 < f) : f = c.1.length := by
  have p0 := N.ok.pos
  have wi : ∀ q ∈ ws, (q.1, q.2.2) ∈ c.2 := fun q m => by
    rw [← ew]
    exact List.mem_map.mpr ⟨q, m, rfl⟩
  have hle : f ≤ c.1.length := by
    obtain ⟨x, rfl, h⟩ := fm
    have : x < c.1.length := by
      rcases h with ⟨q, mq, e⟩ | m | ⟨q, mq, e⟩
      · have g := mem_getA HC.nd (show (q.1, q.2) ∈ hm from mq)
        have tr := HC.sub q.1 (List.mem_map.mpr ⟨q, mq, rfl⟩)
        rw [HC.get q.1 tr] at g
        have g := Option.some.inj g
        rw [e, ← g]
        by_cases z : q.1 = "nil"
        · rw [z]
          show wSp c "nil" < _
          have : wSp c "nil" = 0 := rfl
          omega
        · obtain ⟨l, e1, m1⟩ := find_at (N.ok.nd O.nd) ((N.ok.perm.mem_iff).mpr (tr.resolve_left z))
          have := (List.getElem?_eq_some_iff.mp e1).1
          unfold wSp spotF
          rw [if_neg z]
          omega
      · obtain ⟨q, mq, e⟩ := List.mem_map.mp m
        have := ar_in N (wi q mq)
        have e : q.1 = x := e
        have h2 : q.1 ≤ ((c.1.length - 1 : Nat) : Int) := this.2.1
        omega
      · have := ar_in N (wi q mq)
        have h2 : q.2.2.2 < (c.1.length : Int) := this.2.2.2
        omega
    omega
  have hge : (c.1.length : Int) ≤ f := by
    have top : ((c.1.length - 1 : Nat) : Int) < f := by
      by_cases z : c.1.length - 1 = 0
      · have g := HC.get "nil" (.inl rfl)
        have := fh _ (getA_mem g)
        have : wSp c "nil" < f := this
        have e : wSp c "nil" = 0 := rfl
        omega
      · by_cases h : lotC c ((c.1.length - 1 : Nat) : Int) = []
        · obtain ⟨q, mq, e⟩ := M ((c.1.length - 1 : Nat) : Int) (by omega) (by omega) h
          rw [← ew] at mq
          obtain ⟨z, mz, ez⟩ := List.mem_map.mp mq
          have := fe z mz
          have e2 : z.2.2.2 = q.2.2 := congrArg (fun q : Ar => q.2.2) ez
          omega
        · obtain ⟨n, r, er⟩ := List.exists_cons_of_ne_nil h
          have m : n ∈ lotC c ((c.1.length - 1 : Nat) : Int) := by rw [er]; exact List.mem_cons_self
          obtain ⟨hs, _, _⟩ := lot_name m
          have mf : n ∈ c.1.flatten := List.mem_flatten.mpr ⟨_, List.mem_of_getElem? hs, m⟩
          have mn := (N.ok.perm.mem_iff).mp mf
          have nil : n ≠ "nil" := fun e => O.nn (by rw [← e]; exact mn)
          have g := HC.get n (.inr mn)
          have e := find_uniq (N.ok.nd O.nd) hs m
          have := fh _ (getA_mem g)
          have : wSp c n < f := this
          unfold wSp spotF at this
          rw [if_neg nil, e] at this
          omega
    omega
  omega
def spRight (K : PySem.W.Frag) : Sp := fun vs H Q _ => ∃ (p l : Addr) (G : Hp) (nt : Addr) (cv : V) (b : Int) (nm : Bool) (ns : List Str) (c : Cs), vs = [.ref p, .ref nt, cv, .int b, .bl nm] ∧ Wd p l G H ∧ SqT K G nt (ns.map V.str) ∧ Da K G cv (caseD c) ∧ NamesOk ns ∧ NsOk ns ∧ CaseN ns c ∧ Met c ∧ c.2.length ≤ 39 ∧
  ∀ G' H', Ext p l G H G' H' → Q (.bl true) H'
section
variable {P : Program} {w : World} {K : PySem.W.Frag} {mg : Str → Option Value} {base : Heap}
theorem D_l_heard2 (T : Txt K mg) : Df P w K mg base 4 "_law_heard" ["names", "case", "begin", "is_named"] (spHeard2 K) := by
  refine (D_l_heard (P := P) (w := w) (base := base) T).imp fun vs H Q E h => ?_
  obtain ⟨n, v, b, x, G, ns, c, dd, rfl, sx, dc, N, Ok, l59, l39, hdd, kq⟩ := h
  refine ⟨n, v, b, x, G, ns, c, rfl, sx, dc, N, Ok, l59, l39, fun hno z H' s' hz => ?_, fun e c1 c2 hb n1 n2 z u H' s' hz du => ?_⟩
  · rcases hdd with ⟨_, e⟩ | ⟨e, c1, c2, hb, _⟩
    · rw [e] at kq
      exact kq z H' s' (.lst hz (.cons (.str _) (.cons (.bl _) .nil)))
    · exact absurd hb (hno e)
  · rcases hdd with ⟨hno, _⟩ | ⟨e', c1', c2', hb', n1', n2', ed⟩
    · exact absurd hb (hno e)
    · have ee : e' = e := by
        have := key_b N.ok.bnd hb hb' rfl
        exact congrArg (fun q : Ar => q.2.2) this
      subst ee
      rw [n1] at n1'
      rw [n2] at n2'
      cases n1'
      cases n2'
      rw [ed] at kq
      exact kq z H' s' (.lst hz (.cons (.str _) (.cons du .nil)))
theorem D_l_is_right (T : Txt K mg) : Df P w K mg base 52 "_law_is_right" ["deck", "names", "case", "begin", "is_named"] (spRight K) := by
  have D_l_pick := D_pick (P := P) (w := w) (base := base) T
  have D_l_home := D_l_home (P := P) (w := w) (base := base) T
  have D_l_ways := D_l_ways (P := P) (w := w) (base := base) T
  have D_l_heard := D_l_heard2 (P := P) (w := w) (base := base) T
  have D_l_ends := D_l_ends (P := P) (w := w) (base := base) T
  have D_l_numbered := D_l_numbered (P := P) (w := w) (base := base) T
  have D_l_heap := D_l_heap (P := P) (w := w) (base := base) T
  have D_l_tells := D_l_tells (P := P) (w := w) (base := base) T
  obtain ⟨f, fd, S⟩ := T.d_l_is_right
  refine Df.mk' (k := 51) S sc_l_is_right (fun vs H Q E h => ?_) (fun cdv A outer s H vs Q E hgd hr h => ?_)
  · obtain ⟨p, l, G, nt, cv, b, nm, ns, c, rfl, _⟩ := h
    rfl
  · obtain ⟨p, l, G, nt, cv, b, nm, ns, c, rfl, W, snt, dc, hn, Ok, N, M, l39, k⟩ := h
    have hu := hu_of hr
    have big : (2000 : Nat) ≤ sizeLine := by decide
    refine ⟨_, (pss_cons (ps_asg (pe_tup (pa_cons (pe_d D_l_home hgd hr (pa_cons (pv 2) pa_nil)) (pa_cons (pe_d D_l_ways hgd hr (pa_cons (pv 2) pa_nil)) (pa_cons (pe_callB (call_repr hgd hr.units) (by rfl) T.b_repr (by decide +kernel) (pa_cons (pe_lst (pa_cons (pv 1) (pa_cons (pv 2) pa_nil))) pa_nil)) pa_nil)))) (pg_tup rfl (pgs_cons (pg_name (i := 5) sc_l_is_right.nd rfl (.inr rfl)) (pgs_cons (pg_name (i := 6) sc_l_is_right.nd rfl (.inl rfl)) (pgs_cons (pg_name (i := 7) sc_l_is_right.nd rfl (.inl rfl)) pgs_nil)))))
      (pss_cons (ps_set (i := 8) sc_l_is_right.nd rfl (.inl rfl) (pe_d D_l_heard hgd hr (pa_cons (pv 1) (pa_cons (pv 2) (pa_cons (pv 3) (pa_cons (pv 4) pa_nil))))))
      (pss_cons (ps_if (PW.pt (pw_or (pt_cmpR op_ne (pe_callB (call_repr hgd hr.units) (by rfl) T.b_repr (by decide +kernel) (pa_cons (pe_lst (pa_cons (pv 1) (pa_cons (pv 2) pa_nil))) pa_nil)) (pv 7) (nomark _)) (pw_or1 (pt_cmpR op_ne (pe_callB (call_repr hgd hr.units) (by rfl) T.b_repr (by decide +kernel) (pa_cons (pe_d D_l_heard hgd hr (pa_cons (pv 1) (pa_cons (pv 2) (pa_cons (pv 3) (pa_cons pe_bl pa_nil))))) pa_nil)) (pe_callB (call_repr hgd hr.units) (by rfl) T.b_repr (by decide +kernel) (pa_cons (pv 8) pa_nil)) (nomark _))))) (pss_one (ps_ret pe_bl)) pss_nil)
      (pss_cons (ps_if (PW.pt (pw_or (pt_cmp (pc_dnotin hu (pv 3) (pv 6))) (pw_or1 (pt_cmpR op_ne (pe_ix ix_tup (pe_dget hu (pv 6) (pv 3) (fun _ _ => rfl)) pe_int (fun _ _ => rfl)) pe_str (nomark _))))) (pss_one (ps_ret (pe_cmpR (op_eqD hr.units) (pv 8) (pe_lst (pa_cons pe_str (pa_cons pe_bl pa_nil))) (nomark _)))) pss_nil)
      (pss_cons (ps_set (i := 9) sc_l_is_right.nd rfl (.inl rfl) (pe_callTy call_tuple_of (by rfl) T.b_tuple (by decide +kernel) (pa_cons (pe_callB (cr_sortedT2 hr.units) (by rfl) T.b_sorted (by decide +kernel) (pa_cons (pe_lc (X := (cxOf CX0 P w K mg base ["deck", "names", "case", "begin", "is_named", "home", "ways", "known", "heard", "due", "own", "store", "heap"] "_law_is_right" (defScope s_l_is_right) f cdv A outer s H E).nox) (own := [("own", 10)]) (te := tCall (spNum K) [] E0 (tCons (tVar 5) (tCons (tVar 10) tNil))) (g := gName 10) (tt := tYes) rfl sc_l_is_right.nd (pi_list (pe_d D_l_ends hgd hr (pa_cons (pv 5) (pa_cons (pv 6) (pa_cons (pv 3) pa_nil))))) (blkOk_by (own := [("own", 10)]) (N := ["deck", "names", "case", "begin", "is_named", "home", "ways", "known", "heard", "due", "own", "store", "heap"]) (sc := defScope s_l_is_right) (by decide +kernel)) (fun _ _ _ _ _ => pg_name (i := 10) sc_l_is_right.nd rfl (.inl rfl)) (fun _ _ _ _ _ => pts_nil) (fun _ _ _ _ _ => (pe_d D_l_numbered hgd hr (pa_cons (pv 5) (pa_cons (pv 10) pa_nil))))) pa_nil)) pa_nil)))
      (pss_cons (ps_if (pt_cmpR op_ne (pe_callB (call_repr hgd hr.units) (by rfl) T.b_repr (by decide +kernel) (pa_cons (pv 8) pa_nil)) (pe_callB (call_repr hgd hr.units) (by rfl) T.b_repr (by decide +kernel) (pa_cons (pe_lst (pa_cons pe_str (pa_cons (pv 9) pa_nil))) pa_nil)) (nomark _)) (pss_one (ps_ret pe_bl)) pss_nil)
      (pss_cons (ps_asg (pe_d D_l_heap hgd hr (pa_cons (pv 0) (pa_cons (pv 2) (pa_cons pe_int pa_nil)))) (pg_tup rfl (pgs_cons (pg_name (i := 11) sc_l_is_right.nd rfl (.inl rfl)) (pgs_cons (pg_name (i := 12) sc_l_is_right.nd rfl (.inl rfl)) pgs_nil))))
      (pss_cons (ps_if (PW.pt (pw_and (pt_not (pt_val (pe_d D_l_tells hgd hr (pa_cons (pe_ix ix_tup (pv 9) pe_int (fun _ _ => rfl)) (pa_cons (pv 11) (pa_cons (pv 12) pa_nil)))))) (pw_and1 (pt_not (pt_val (pe_d D_l_tells hgd hr (pa_cons (pe_ix ix_tup (pv 9) pe_int (fun _ _ => rfl)) (pa_cons (pv 11) (pa_cons (pv 12) pa_nil))))))))) (pss_one (ps_ret pe_bl)) pss_nil)
      (pss_cons (ps_asg (pe_d D_l_heap hgd hr (pa_cons (pv 0) (pa_cons (pe_d D_l_pick hgd hr (pa_cons (pv 0) (pa_cons (pe_callTy call_list_of (by rfl) T.b_list (by decide +kernel) (pa_cons (pv 9) pa_nil)) pa_nil))) (pa_cons pe_int pa_nil)))) (pg_tup rfl (pgs_cons (pg_name (i := 11) sc_l_is_right.nd rfl (.inl rfl)) (pgs_cons (pg_name (i := 12) sc_l_is_right.nd rfl (.inl rfl)) pgs_nil))))
      (pss_one (ps_ret (pe_d D_l_tells hgd hr (pa_cons (pv 2) (pa_cons (pv 11) (pa_cons (pv 12) pa_nil))))))))))))))), ?_⟩
    have l59 := len_few N Ok M l39
    -- what is heard
    obtain ⟨dd, okdd, hdd⟩ : ∃ dd : PyData, Okd 6 5000000 dd ∧ Heard c b dd := by
      by_cases h : ∃ e, (b, (("long" : Str), e)) ∈ c.2
      · obtain ⟨e, hb⟩ := h
        obtain ⟨c1, n1, N1⟩ := one_num N Ok hb
        obtain ⟨c2, n2, N2⟩ := more_num N Ok hb (f := c.1.length) rfl l39
        exact ⟨_, told_okd hn N1.ok N2.ok, .inr ⟨e, c1, c2, hb, n1, n2, rfl⟩⟩
      · exact ⟨_, unfit_okd, .inl ⟨fun e hb => h ⟨e, hb⟩, rfl⟩⟩
    obtain ⟨b1, b2, b3⟩ := (both_okd hn N.ok).shown (by decide) (by decide)
    obtain ⟨r1, r2, r3⟩ := okdd.shown (by decide) (by decide)
    have dnm : Da K G (.ref nt) (namesD ns) := .tup snt (da_strs _)
    have dboth : ∀ {Hz : Hp} {q : Addr}, Same G Hz → Hz q = some (.lst [V.ref nt, cv]) → Da K Hz (.ref q) (.list [namesD ns, caseD c]) := fun sz hq => .lst hq (.cons (dnm.mono sz) (.cons (dc.mono sz) .nil))
    -- home, ways, known
    refine ⟨_, rfl, cv, G, ns, c, rfl, W.same, dc, N.ok, Ok.nd, Ok.nn, Ok.ln, fun hd hm H1 s1 hd0 hH hget hnd hsub => ?_⟩
    refine ⟨_, rfl, cv, G, c, rfl, W.same.trans s1, dc, N.ok.bnd, by omega, fun wd ws H2 s2 wd0 hW ew hwt => ?_⟩
    have HC : HomeC ns c hm := ⟨hget, hnd, hsub⟩
    have s02 := s1.trans s2
    have hH2 := s2 _ _ hH
    refine ⟨_, rfl, _, rfl, by show 2 ≤ sizeLine; decide, fun q1 hq1 => ?_⟩
    have s3 := sameAdd (o := .lst [V.ref nt, cv]) hq1
    have q13 : (upd H2 q1 (.lst [V.ref nt, cv])) q1 = some (.lst [V.ref nt, cv]) := upd_same
    generalize upd H2 q1 (.lst [V.ref nt, cv]) = H3 at s3 q13 ⊢
    refine ⟨.ref q1, _, H3, rfl, Same.refl _, dboth (W.same.trans (s02.trans s3)) q13, b1, b2, b3, by show 3 ≤ sizeLine; decide, fun q2 hq2 => ?_⟩
    have s4 := sameAdd (o := .tup [V.ref hd, V.ref wd, V.str (PyData.list [namesD ns, caseD c]).shown]) hq2
    refine ⟨q2, _, rfl, SqT.of upd_same, rfl, _, _, rfl, _, _, rfl, _, _, rfl, rfl, ?_⟩
    dsimp only [gName, List.set]
    generalize upd H3 q2 (.tup [V.ref hd, V.ref wd, V.str (PyData.list [namesD ns, caseD c]).shown]) = H4 at s4 ⊢
    have hH4 := s4 _ _ (s3 _ _ hH2)
    have hW4 := s4 _ _ (s3 _ _ hW)
    have hwt4 : ∀ q ∈ ws, SqT K H4 q.2.1 [.str q.2.2.1, .int q.2.2.2] := fun q m => sameT (s3.trans s4) (hwt q m)
    have s04 := s02.trans (s3.trans s4)
    clear s1 s2 s3 s4 s02 hq1 hq2 q13 hH hH2 hW hwt hd0 wd0 H1 H2 H3
    -- heard
    refine ⟨_, rfl, _, rfl, _, rfl, _, rfl, .ref nt, cv, b, nm, G, ns, c, dd, rfl, W.same.trans s04, dc, N, Ok, l59, l39, hdd, fun z H5 s5 dz => ?_⟩
    dsimp only [gName, List.set]
    have s05 := s04.trans s5
    refine ⟨_, rfl, _, rfl, by show 2 ≤ sizeLine; decide, fun q3 hq3 => ?_⟩
    have s6 := sameAdd (o := .lst [V.ref nt, cv]) hq3
    have q36 : (upd H5 q3 (.lst [V.ref nt, cv])) q3 = some (.lst [V.ref nt, cv]) := upd_same
    generalize upd H5 q3 (.lst [V.ref nt, cv]) = H6 at s6 q36 ⊢
    refine ⟨.ref q3, _, H6, rfl, Same.refl _, dboth (W.same.trans (s05.trans s6)) q36, b1, b2, b3, _, rfl, rfl, _, rfl, ?_⟩
    rw [decide_eq_true rfl]
    refine if_no rfl ?_
    have s06 := s05.trans s6
    have dz6 := dz.mono s6
    clear q36 hq3 dz
    refine ⟨_, rfl, _, rfl, _, rfl, .ref nt, cv, b, false, G, ns, c, dd, rfl, W.same.trans s06, dc, N, Ok, l59, l39, hdd, fun z2 H7 s7 dz2 => ?_⟩
    refine ⟨.ref z2, dd, H7, rfl, Same.refl _, dz2, r1, r2, r3, _, rfl, .ref z, dd, H7, rfl, Same.refl _, dz6.mono s7, r1, r2, r3, rfl, _, rfl, ?_⟩
    rw [decide_eq_true rfl]
    refine if_no rfl ?_
    have s07 := s06.trans s7
    have dz7 := dz6.mono s7
    have hH7 := s7 _ _ (s6 _ _ (s5 _ _ hH4))
    have hW7 := s7 _ _ (s6 _ _ (s5 _ _ hW4))
    have hwt7 : ∀ q ∈ ws, SqT K H7 q.2.1 [.str q.2.2.1, .int q.2.2.2] := fun q m => sameT (s5.trans (s6.trans s7)) (hwt4 q m)
    clear dz6 dz2 s5 s6 s7 s04 s05 s06 hH4 hW4 hwt4 H4 H5 H6
    have ndW : (keysA ws).Nodup := by
      have e : keysA ws = c.2.map fun q => q.1 := by
        rw [← ew, List.map_map]
        rfl
      rw [e]
      exact N.ok.bnd
    have lws : ws.length = c.2.length := by rw [← ew, List.length_map]
    have dg : DGet H7 wd (.int b) ((getA ws b).map wyV) := dgetI (f := wyV) hW7 b
    -- refused?
    have refd : (∀ e, ¬ (b, (("long" : Str), e)) ∈ c.2) → ∀ {Qv : VK}, (∀ G' H', Ext p l G H G' H' → Qv (.bl true) H') → ∀ (q : Addr) (Hx : Hp), Same H7 Hx → Hx q = some (.lst [V.str "unfit", V.bl true]) → rEqD K (.ref z) (.ref q) Hx Qv := fun hno Qv kq q Hx sx hq => by
      have ed : dd = unD := by
        rcases hdd with ⟨_, e⟩ | ⟨e, c1, c2, hb, _⟩
        · exact e
        · exact absurd hb (hno e)
      rw [ed] at dz7
      have e1 : PyData.eqv unD unD = true := by decide +kernel
      refine ⟨unD, unD, (dz7.mono sx).dp (Same.refl _) (by decide +kernel), .lst (SqL.of hq) (.cons (.str _) (.cons (.bl _) .nil)), by decide +kernel, by decide +kernel, ?_⟩
      rw [e1]
      exact kq _ _ (W.still (s07.trans sx))
    refine ⟨_, rfl, _, rfl, wd, _, rfl, dg, ?_⟩
    cases gy : getA ws b with
    | none =>
      refine ⟨_, rfl, if_yes rfl (if_yes rfl ?_)⟩
      refine ⟨_, rfl, by show 2 ≤ sizeLine; decide, fun q hq => ?_⟩
      refine refd (fun e m => ?_) (fun G' H' e => k G' H' e) q _ (sameAdd hq) upd_same
      rw [← ew] at m
      obtain ⟨z, mz, ez⟩ := List.mem_map.mp m
      have e1 : z.1 = b := congrArg (fun q : Ar => q.1) ez
      have := mem_getA ndW (show (z.1, z.2) ∈ ws from mz)
      rw [e1, gy] at this
      cases this
    | some y =>
    refine ⟨_, rfl, if_no rfl ?_⟩
    have my := getA_mem gy
    have dgy : ∀ {Hx : Hp}, Same H7 Hx → DGet Hx wd (.int b) (some (.ref y.1)) := fun {Hx} sx => by
      have := dgetI (f := wyV) (sx _ _ hW7) b
      rw [gy] at this
      exact this
    refine ⟨_, rfl, _, rfl, wd, _, rfl, dgy (Same.refl _), y.1, _, 0, .str y.2.1, rfl, rfl, hwt7 _ my, rfl, rfl, _, rfl, ?_⟩
    by_cases yl : y.2.1 = "long"
    case neg =>
      refine if_yes (by rw [decide_eq_false (fun e => yl (V.str.inj e))]; rfl) ?_
      refine ⟨_, rfl, by show 2 ≤ sizeLine; decide, fun q hq => ?_⟩
      refine refd (fun e m => ?_) (fun G' H' e => k G' H' e) q _ (sameAdd hq) upd_same
      rw [← ew] at m
      obtain ⟨z, mz, ez⟩ := List.mem_map.mp m
      have e1 : z.1 = b := congrArg (fun q : Ar => q.1) ez
      have e2 : z.2.2.1 = "long" := congrArg (fun q : Ar => q.2.1) ez
      have := mem_getA ndW (show (z.1, z.2) ∈ ws from mz)
      rw [e1, gy] at this
      exact yl (by rw [Option.some.inj this]; exact e2)
    refine if_no (by rw [decide_eq_true (congrArg V.str yl)]; rfl) ?_
    clear refd dg
    have hb : (b, (("long" : Str), y.2.2)) ∈ c.2 := by
      rw [← ew, ← yl]
      exact List.mem_map.mpr ⟨_, my, rfl⟩
    obtain ⟨c1, n1, N1⟩ := one_num N Ok hb
    obtain ⟨c2, n2, N2⟩ := more_num N Ok hb (f := c.1.length) rfl l39
    have ed : dd = toldD c1 c2 := by
      rcases hdd with ⟨hno, _⟩ | ⟨e', c1', c2', hb', n1', n2', ed⟩
      · exact absurd hb (hno _)
      · have ee : e' = y.2.2 := by
          have := key_b N.ok.bnd hb hb' rfl
          exact congrArg (fun q : Ar => q.2.2) this
        subst ee
        rw [n1] at n1'
        rw [n2] at n2'
        cases n1'
        cases n2'
        exact ed
    subst ed
    have lhm : hm.length ≤ 9 := by
      have := (HC.ok Ok.nd Ok.nn).keys.length_eq
      unfold keysA at this
      rw [List.length_map, List.length_cons] at this
      have := Ok.ln
      omega
    -- due
    refine ⟨_, rfl, _, rfl, _, rfl, hd, wd, hm, ws, b, y, rfl, hH7, hW7, hwt7, ndW, by omega, by omega, gy, yl, fun L one other t0 t1 t2 f H8 fm ho1 ht0 s8 hL nf fh fe ho2 ht1 ht2 => ?_⟩
    have ef := fresh_is N Ok M HC ew fm fh fe
    subst ef
    have hwt8 : ∀ q ∈ ws, SqT K H8 q.2.1 [.str q.2.2.1, .int q.2.2.2] := fun q m => sameT s8 (hwt7 q m)
    have hH8 := s8 _ _ hH7
    have s08 := s07.trans s8
    have be := ar_in N hb
    have wi : ∀ q ∈ ws, 1 ≤ q.1 := fun q m => by
      have m2 : (q.1, q.2.2) ∈ c.2 := by
        rw [← ew]
        exact List.mem_map.mpr ⟨q, m, rfl⟩
      exact (ar_in N m2).1
    have P2 : ∀ (i : Nat) (x : V), ([V.ref one, V.ref other] : List V)[i]? = some x → ∃ (own : Addr) (wx : Ws) (cx : Cs), x = V.ref own ∧ ([c1, c2] : List Cs)[i]? = some cx ∧ H8 own = some (.dK (kvK Sum.inl wyV wx)) ∧ (∀ q ∈ wx, SqT K H8 q.2.1 [.str q.2.2.1, .int q.2.2.2]) ∧ (keysA wx).Nodup ∧ wx.length < 64 ∧ ¬ (0 : Int) ∈ keysA wx ∧ numL (lotC c) wx (begC c) = some cx := fun i x hi => by
      match i, hi with
      | 0, hi =>
        refine ⟨one, _, c1, (Option.some.inj hi).symm, rfl, ho1, fun q m => ?_, putA_nodup ndW, by have := putA_len ws b (t0, (("short" : Str), y.2.2)); omega, fun m => ?_, ?_⟩
        · rcases mem_put m with h | h
          · rw [h]
            exact SqT.of ht0
          · exact hwt8 q h
        · rcases putA_keys.mp m with m | h
          · obtain ⟨q, mq, z⟩ := List.mem_map.mp m
            have := wi q mq
            omega
          · have := wi _ my
            have h : (0 : Int) = b := h
            omega
        · rw [numL_perm (putA_nodup ndW) (ws' := toW (oneR c b y.2.2))]
          · exact n1
          · rw [toW_tail]
            have := put_perm (y := (t0, (("short" : Str), y.2.2))) (b := b) ndW
            rw [ew] at this
            exact this
      | 1, hi =>
        have nd1 := putA_nodup (k := b) (v := (t1, (("short" : Str), (c.1.length : Int)))) ndW
        have nf1 : ¬ (c.1.length : Int) ∈ keysA (putA ws b (t1, (("short" : Str), (c.1.length : Int)))) := fun m => by
          rcases putA_keys.mp m with m | h
          · exact nf m
          · exact nf (by rw [h]; exact List.mem_map.mpr ⟨_, my, rfl⟩)
        have e2 : putA ws b (t1, (("short" : Str), (c.1.length : Int))) ++ [((c.1.length : Int), (t2, (("long" : Str), y.2.2)))] = putA (putA ws b (t1, (("short" : Str), (c.1.length : Int)))) (c.1.length : Int) (t2, (("long" : Str), y.2.2)) := (put_new nf1).symm
        have nd2 := putA_nodup (k := (c.1.length : Int)) (v := (t2, (("long" : Str), y.2.2))) nd1
        rw [← e2] at nd2
        refine ⟨other, _, c2, (Option.some.inj hi).symm, rfl, ho2, fun q m => ?_, nd2, by rw [List.length_append, List.length_singleton]; have := putA_len ws b (t1, (("short" : Str), (c.1.length : Int))); omega, fun m => ?_, ?_⟩
        · rcases List.mem_append.mp m with m | m
          · rcases mem_put m with h | h
            · rw [h]
              exact SqT.of ht1
            · exact hwt8 q h
          · rw [List.mem_singleton.mp m]
            exact SqT.of ht2
        · rw [e2] at m
          rcases putA_keys.mp m with m | h
          · rcases putA_keys.mp m with m | h
            · obtain ⟨q, mq, z⟩ := List.mem_map.mp m
              have := wi q mq
              omega
            · have := wi _ my
              have h : (0 : Int) = b := h
              omega
          · have := N.ok.pos
            omega
        · rw [numL_perm nd2 (ws' := toW (moreR c b y.2.2 c.1.length))]
          · exact n2
          · rw [toW_tail]
            have := put_perm (y := (t1, (("short" : Str), (c.1.length : Int)))) (b := b) ndW
            rw [ew] at this
            show List.Perm (List.map tailW _) _
            rw [List.map_append]
            refine (this.append_right _).trans ?_
            show ((b, (("short" : Str), (c.1.length : Int))) :: (restB c b ++ [((c.1.length : Int), (("long" : Str), y.2.2))])).Perm _
            exact List.Perm.cons _ List.perm_append_comm
      | i + 2, hi => cases hi
    clear hwt7 hwt8 hH7 hW7 ho1 ho2 ht0 ht1 ht2 nf fh fe fm
    refine ⟨L, rfl, ⟨_, SqL.of hL⟩, fun B hB => lc_list (K := K) (a := L) (xs := [V.ref one, V.ref other]) (fun i Hx => Same H8 Hx ∧ ∃ vs : List V, Hx B = some (.lst vs) ∧ Paired (fun (v : V) (q : Cs) => (∃ t, v = V.ref t) ∧ Da K (Nw (upd H B (.lst [])) Hx) v (caseD q)) vs (([c1, c2] : List Cs).take i)) ⟨sameAdd hB, [], upd_same, .nil⟩ (fun i Hx _ h => SqL.of (h.1 _ _ hL)) ?_ ?_⟩
    · rintro i x Hx hx ⟨sx, vs, lx, px⟩
      obtain ⟨own, wx, cx, rfl, hcx, hown, hwx, ndx, lwx, k0x, nx⟩ := P2 i x hx
      refine ⟨rfl, _, rfl, _, rfl, hd, own, hm, wx, rfl, sx _ _ hH8, sx _ _ hown, fun q m => sameT sx (hwx q m), hnd, by omega, ndx, lwx, k0x, fun ys bs v Hy pys sys beg sy res => ?_⟩
      have el := HC.lot N Ok.nd Ok.nn pys (up_of sys)
      have hbs : bs = begC c := by
        have h1 := beg.L
        rw [el] at h1
        exact h1.uniq (begC_ok c)
      have hnx : numF ys hm wx bs = some cx := by
        rw [numF_L, el, hbs]
        exact nx
      rcases res with ⟨hno, _⟩ | ⟨cy, hcy, dcy⟩
      · rw [hnx] at hno
        cases hno
      rw [hnx] at hcy
      cases hcy
      obtain ⟨a, _, _, _, _, ea, _⟩ := da_case dcy
      have tk : ([c1, c2] : List Cs).take (i + 1) = ([c1, c2] : List Cs).take i ++ [cx] := by rw [List.take_add_one, hcx]; rfl
      have lv : vs.length ≤ 2 := by
        rw [Paired.length px, List.length_take]
        exact Nat.min_le_right _ _
      have lxy := sy _ _ lx
      refine ⟨vs, lxy, by omega, sameOut (sx.trans sy) hB, vs ++ [v], upd_same, ?_⟩
      rw [tk]
      have nB : H B = none := s08.free hB
      have kB : ∀ b o, Hx b = none → Hy b = some o → (upd Hy B (.lst (vs ++ [v]))) b = some o := fun b o hb ho => by
        have n : b ≠ B := fun e => by rw [e, lx] at hb; cases hb
        rw [upd_ne n]
        exact ho
      exact paired_snoc2 (paired_mpL px fun u q h => ⟨h.1, h.2.mono (nw_list sy)⟩) ⟨⟨a, ea⟩, dcy.mono (nw_new (fun b hb => by
        have n : b ≠ B := fun e => by rw [e, lx] at hb; cases hb
        rw [upd_ne n]
        exact (s08.trans sx).free hb) kB)⟩
    · rintro H9 ⟨s9, vs, lB, pv⟩
      have pv : Paired (fun (v : V) (q : Cs) => (∃ t, v = V.ref t) ∧ Da K (Nw H H9) v (caseD q)) vs [c1, c2] := paired_mpL pv fun v q h => ⟨h.1, h.2.mono nw_base⟩
      refine ⟨B, vs, Cs, [c1, c2], caseD, fun x q => (∃ t, x = V.ref t) ∧ Da K (Nw H H9) x (caseD q), rfl, SqL.of lB, fun x m => ?_, pv, paired_mpL pv fun x q h => h.2.dpT nw_sub (tupD_case q), alike_case, fun q => ⟨_, _, rfl⟩, fun q _ => depth_case q, fun ys p9 py pry hp => ?_⟩
      · obtain ⟨q, _, h⟩ := paired_left pv x m
        exact h.1
      have sp : Same H9 (upd H9 p9 (.lst ys)) := sameAdd hp
      have lp : (upd H9 p9 (.lst ys)) p9 = some (.lst ys) := upd_same
      refine ⟨p9, ys, rfl, .inl ⟨SqL.of lp, fun du hdu => ?_⟩⟩
      have sA := s9.trans (sp.trans (sameAdd (o := .tup ys) hdu))
      have pd : Paired (fun (x : V) (q : Cs) => Da K (Nw H (upd (upd H9 p9 (.lst ys)) du (.tup ys))) x (caseD q)) ys (dueL c1 c2) := paired_mpL pry fun x q h => h.2.mono (nw_mono (sp.trans (sameAdd hdu)))
      have duA : (upd (upd H9 p9 (.lst ys)) du (.tup ys)) du = some (.tup ys) := upd_same
      have du0 : H du = none := (s08.trans (s9.trans sp)).free hdu
      generalize upd (upd H9 p9 (.lst ys)) du (.tup ys) = HA at sA pd duA ⊢
      clear P2 hH8
      dsimp only [gName, List.set]
      have s0A := s08.trans sA
      have dzA := dz7.mono (s8.trans sA)
      obtain ⟨GA, eA, sGA⟩ := W.back W (fun b o _ _ h => h) s0A
      have pdA : Paired (fun (x : V) (q : Cs) => Da K GA x (caseD q)) ys (dueL c1 c2) := paired_mpL pd fun x q h => h.mono sGA
      have duG : GA du = some (.tup ys) := sGA _ _ (Nw.of du0 duA)
      have dcA := dc.mono eA.sub
      have dtold : ∀ {Hz : Hp} {q : Addr}, Same HA Hz → Hz q = some (.lst [V.str "told", V.ref du]) → Da K Hz (.ref q) (toldD c1 c2) := fun sz hq => .lst hq (.cons (.str _) (.cons (.tup (SqT.of (sz _ _ duA)) (daall_of (paired_mpL pd fun x q h => (h.mono nw_sub).mono sz))) .nil))
      refine ⟨_, rfl, .ref z, toldD c1 c2, HA, rfl, Same.refl _, dzA, r1, r2, r3, _, rfl, by show 2 ≤ sizeLine; decide, fun q5 hq5 => ?_⟩
      have sB := sameAdd (o := .lst [V.str "told", V.ref du]) hq5
      have q5B : (upd HA q5 (.lst [V.str "told", V.ref du])) q5 = some (.lst [V.str "told", V.ref du]) := upd_same
      generalize upd HA q5 (.lst [V.str "told", V.ref du]) = HB at sB q5B ⊢
      refine ⟨.ref q5, toldD c1 c2, HB, rfl, Same.refl _, dtold sB q5B, r1, r2, r3, rfl, _, rfl, ?_⟩
      rw [decide_eq_true rfl]
      refine if_no rfl ?_
      have WB := (eA.w.still sB).w
      have EB := eA.trans W (eA.w.still sB)
      clear dtold dzA sGA
      -- a heap of the case
      refine ⟨_, rfl, _, rfl, p, l, GA, cv, ns, c, 4, rfl, WB, dcA, N.ok, Ok.ln, by decide, by decide, fun hr sa ha ps vals chs G2 H2 e2 sr pla ⟨qs, plb, dqs⟩ dps db hf => ?_⟩
      refine ⟨hr, _, rfl, sameT e2.w.same sr, rfl, _, _, rfl, _, _, rfl, rfl, ?_⟩
      dsimp only [gName, List.set]
      have E2 := EB.trans W e2
      obtain ⟨Vc, Dc, Ec⟩ := emb_heap N.ok Ok.nd hf
      have rng : ∀ i : Int, (i = 0 ∨ lotC c i ≠ []) → 0 ≤ i ∧ i < c.1.length := fun i h => by
        rcases h with h | h
        · have := N.ok.pos
          omega
        · have := lotC_out h
          exact ⟨this.1, this.2.1⟩
      have nmC : ∀ s, ∀ n ∈ lotC c s, getA (storeF c vals) n = some (Vc s) := fun s n mn => by
        obtain ⟨h1, h2, h3⟩ := lot_name mn
        have := Ec.names _ _ h1 n mn
        rw [this, show ((s.toNat : Nat) : Int) = s by omega]
      have injC : ∀ i j, (i = 0 ∨ lotC c i ≠ []) → (j = 0 ∨ lotC c j ≠ []) → Vc i = Vc j → i = j := fun i j hi hj h => Ec.inj i j (rng i hi).1 (rng i hi).2 (rng j hj).1 (rng j hj).2 h
      have tellE : EmbC c1 (storeF c vals) (heapF chs) ∨ EmbC c2 (storeF c vals) (heapF chs) := by
        cases hD : Dc b with
        | nil => exact .inl (one_fore N hb n1 Ec hD)
        | cons d ds => exact .inr (more_fore N hb rfl n2 (heap_perm N.ok hf).2 Ec hD)
      have okD : ∀ d ∈ dueL c1 c2, CaseN ns d ∧ (∃ V0 : Int → Int, V0 0 = 0 ∧ (∀ (i : Nat) l, d.1[i]? = some l → ∀ n ∈ l, getA (storeF c vals) n = some (V0 (i : Int))) ∧ ∀ i j : Int, (i = 0 ∨ lotC d i ≠ []) → (j = 0 ∨ lotC d j ≠ []) → V0 i = V0 j → i = j) ∧ ∀ S X, EmbC d S X → EmbC c S X := fun d m => by
        rcases List.mem_cons.mp ((dueL_perm c1 c2).mem_iff.mp m) with e | m
        · rw [e]
          exact ⟨N1, lots_num n1 (beg0 c) Ec.zero nmC injC, fun S X h => one_back N M hb n1 h⟩
        · rw [List.mem_singleton.mp m]
          exact ⟨N2, lots_num n2 (beg0 c) Ec.zero nmC injC, fun S X h => more_back N M hb rfl n2 h⟩
      obtain ⟨d1, d2, ed⟩ : ∃ d1 d2, dueL c1 c2 = [d1, d2] := by
        have := (dueL_perm c1 c2).length_eq
        match h : dueL c1 c2, this with
        | [d1, d2], _ => exact ⟨d1, d2, rfl⟩
        | [], h2 => cases h2
        | [_], h2 => cases h2
        | _ :: _ :: _ :: _, h2 => simp at h2
      have tellD : EmbC d1 (storeF c vals) (heapF chs) ∨ EmbC d2 (storeF c vals) (heapF chs) := by
        have m1 : c1 ∈ [d1, d2] := by rw [← ed]; exact (dueL_perm c1 c2).mem_iff.mpr List.mem_cons_self
        have m2 : c2 ∈ [d1, d2] := by rw [← ed]; exact (dueL_perm c1 c2).mem_iff.mpr (List.mem_cons_of_mem _ List.mem_cons_self)
        have go : ∀ x ∈ [d1, d2], EmbC x (storeF c vals) (heapF chs) → EmbC d1 (storeF c vals) (heapF chs) ∨ EmbC d2 (storeF c vals) (heapF chs) := fun x m h => by
          rcases List.mem_cons.mp m with e | m
          · rw [← e]
            exact .inl h
          · rw [← List.mem_singleton.mp m]
            exact .inr h
        exact tellE.elim (go _ m1) (go _ m2)
      have pd2 : Paired (fun (x : V) (q : Cs) => Da K G2 x (caseD q)) ys (dueL c1 c2) := paired_mpL pdA fun x q h => h.mono e2.sub
      rw [ed] at pd2 okD
      obtain ⟨v1, v2, rfl, h1, h2⟩ : ∃ v1 v2, ys = [v1, v2] ∧ Da K G2 v1 (caseD d1) ∧ Da K G2 v2 (caseD d2) := by
        cases pd2 with
        | cons a t =>
          cases t with
          | cons b t =>
            cases t
            exact ⟨_, _, rfl, a, b⟩
      have du2 : SqT K G2 du [v1, v2] := SqT.of (e2.sub _ _ duG)
      have dc2 := dcA.mono e2.sub
      clear tellE pd duA pdA
      refine seq_by (fun σ2 Hx => σ2 = [some (.ref p), some (.ref nt), some cv, some (.int b), some (.bl nm), some (.ref hd), some (.ref wd), some (.str (PyData.list [namesD ns, caseD c]).shown), some (.ref z), some (.ref du), none, some (.ref sa), some (.ref ha)] ∧ Same H2 Hx) (fun fin => ?_) ?_
      · obtain ⟨M1, ⟨V1, z1, nm1, ij1⟩, _⟩ := okD d1 List.mem_cons_self
        obtain ⟨M2, ⟨V2, z2', nm2, ij2⟩, _⟩ := okD d2 (List.mem_cons_of_mem _ List.mem_cons_self)
        have lH : (heapF chs).length ≤ 2000 := Nat.le_trans (cells_few N.ok hf (by decide)) (by decide)
        refine ⟨_, rfl, du, _, 0, v1, rfl, rfl, sameT e2.w.same du2, rfl, _, rfl, _, rfl, v1, sa, ha, ps, qs, G2, ns, d1, storeF c vals, heapF chs, V1, rfl, e2.w.same, h1, M1, Ok, pla, dps, store_nd N.ok Ok.nd hf, plb, dqs, (heap_perm N.ok hf).2, lH, z1, nm1, ij1, fun bb H3 s3 hb3 => ⟨_, rfl, ?_⟩⟩
        cases bb with
        | true => exact if_no rfl (if_no rfl (fin _ _ ⟨rfl, s3⟩))
        | false =>
          refine if_yes rfl ⟨_, rfl, du, _, 1, v2, rfl, rfl, sameT (e2.w.same.trans s3) du2, rfl, _, rfl, _, rfl, v2, sa, ha, ps, qs, G2, ns, d2, storeF c vals, heapF chs, V2, rfl, e2.w.same.trans s3, h2, M2, Ok, pla, dps, store_nd N.ok Ok.nd hf, plb, dqs, (heap_perm N.ok hf).2, lH, z2', nm2, ij2, fun bb H4 s4 hb4 => ⟨_, rfl, ?_⟩⟩
          have t2 : bb = true := hb4 (tellD.resolve_left fun h => by cases hb3 h)
          rw [t2]
          exact if_no rfl (fin _ _ ⟨rfl, s3.trans s4⟩)
      rintro σ Hx ⟨rfl, sx⟩
      have W3 := (e2.w.still sx).w
      have E3 := E2.trans W (e2.w.still sx)
      -- a heap of one of both
      refine ⟨_, rfl, _, rfl, _, rfl, du, [v1, v2], rfl, .inr (sameT W3.same du2), fun L9 hL9 => ?_⟩
      have f9 := W3.tmp (o := .lst [v1, v2]) hL9
      refine ⟨p, l, G2, L9, [v1, v2], rfl, f9.w, upd_same, W3.np hL9, W3.nl hL9, by show 0 < 2; decide, by show 2 < 1000000; decide, fun x H10 mx e10 => ?_⟩
      obtain ⟨dx, mdx, dax⟩ : ∃ dx ∈ [d1, d2], Da K G2 x (caseD dx) := paired_left (R := fun (x : V) (q : Cs) => Da K G2 x (caseD q)) (.cons h1 (.cons h2 .nil)) x mx
      obtain ⟨Nx, _, backx⟩ := okD dx mdx
      have E10 := (E3.trans W f9).trans W e10
      refine ⟨p, l, G2, x, ns, dx, 3, rfl, e10.w, dax, Nx.ok, Ok.ln, by decide, by decide, fun hr2 sa2 ha2 ps2 vals2 chs2 G3 H11 e11 sr2 pla2 ⟨qs2, plb2, dqs2⟩ dps2 db2 hf2 => ?_⟩
      refine ⟨hr2, _, rfl, sameT e11.w.same sr2, rfl, _, _, rfl, _, _, rfl, rfl, ?_⟩
      dsimp only [gName, List.set]
      have embz := backx _ _ (emb_heap Nx.ok Ok.nd hf2)
      obtain ⟨Vz, Dz, Ez⟩ := embz
      have E11 := E10.trans W e11
      refine ⟨_, rfl, _, rfl, _, rfl, cv, sa2, ha2, ps2, qs2, G3, ns, c, storeF dx vals2, heapF chs2, Vz, rfl, e11.w.same, dc2.mono e11.sub, N, Ok, pla2, dps2, store_nd Nx.ok Ok.nd hf2, plb2, dqs2, (heap_perm Nx.ok hf2).2, Nat.le_trans (cells_few Nx.ok hf2 (by decide)) (by decide), Ez.zero, Ez.names, fun i j hi hj h => Ez.inj i j (rng i hi).1 (rng i hi).2 (rng j hj).1 (rng j hj).2 h, fun bb H12 s12 hb12 => ?_⟩
      rw [hb12 ⟨Vz, Dz, Ez⟩]
      exact k _ _ (E11.trans W (e11.w.still s12))
end
end L2.Hx

/-! Long arrows opened: the law. -/
namespace L2.Hx
open PySem PySem.Spec PyProof.Rows
def spLaw (K : PySem.W.Frag) : Sp := fun vs H Q _ => ∃ (a : Addr) (ns : List Int), vs = [.ref a] ∧ SqL K H a (ns.map V.int) ∧ ns.length ≤ 63 ∧ ∀ H', Q (.bl true) H'
theorem cut_int (ns : List Int) (lo hi : Option Int) : ∃ ms : List Int, cutV (ns.map V.int) lo hi = ms.map V.int ∧ ms.Sublist ns := by
  refine ⟨(ns.drop (HT.sIx (ns.map V.int).length 0 lo)).take (HT.sIx (ns.map V.int).length (ns.map V.int).length hi - HT.sIx (ns.map V.int).length 0 lo), ?_, (List.take_sublist _ _).trans (List.drop_sublist _ _)⟩
  unfold cutV
  rw [List.map_take, List.map_drop]
theorem shp_int (i : Int) : Shp (.int i) := ⟨rfl, by simp [PyData.depth]⟩
section
variable {P : Program} {w : World} {K : PySem.W.Frag} {mg : Str → Option Value} {base : Heap}
theorem D_law (T : Txt K mg) : DfS P w K mg base 53 "law" s_law ["script"] (spLaw K) := by
  have D_l_deck := D_deck (P := P) (w := w) (base := base) T
  have D_l_pick := D_pick (P := P) (w := w) (base := base) T
  have D_l_mixed := D_l_mixed (P := P) (w := w) (base := base) T
  have D_l_one_case := D_l_one_case (P := P) (w := w) (base := base) T
  have D_l_is_right := D_l_is_right (P := P) (w := w) (base := base) T
  obtain ⟨f, fd, S⟩ := T.d_law
  refine DfS.mk' (k := 52) S sc_law (fun vs H Q E h => ?_) (fun cdv A outer s H vs Q E hgd hr h => ?_)
  · obtain ⟨a, ns, rfl, _⟩ := h
    rfl
  · obtain ⟨a, nums, rfl, hS, hz, k⟩ := h
    have hu := hu_of hr
    have big : (5000 : Nat) ≤ sizeLine := by decide
    refine ⟨_, (pss_cons (ps_set (i := 1) sc_law.nd rfl (.inl rfl) (pe_d D_l_deck hgd hr (pa_cons (pv 0) pa_nil)))
      (pss_cons (ps_for PassesOwn.never rfl (pi_range1 rfl T.b_range (pa_cons pe_int pa_nil)) (pg_name (i := 2) sc_law.nd rfl (.inl rfl))
      (pss_cons (ps_asg (pe_d D_l_one_case hgd hr (pa_cons (pv 1) (pa_cons pe_int pa_nil))) (pg_tup rfl (pgs_cons (pg_name (i := 3) sc_law.nd rfl (.inl rfl)) (pgs_cons (pg_name (i := 4) sc_law.nd rfl (.inl rfl)) pgs_nil))))
      (pss_cons (ps_if (pt_cmpR op_eq (pv 2) pe_int (nomark _)) (pss_one (ps_asg (pe_tup (pa_cons (pe_tup pa_nil) (pa_cons (pe_tup (pa_cons (pe_tup (pa_cons (pe_tup pa_nil) pa_nil)) (pa_cons (pe_tup pa_nil) pa_nil))) pa_nil))) (pg_tup rfl (pgs_cons (pg_name (i := 3) sc_law.nd rfl (.inl rfl)) (pgs_cons (pg_name (i := 4) sc_law.nd rfl (.inl rfl)) pgs_nil))))) pss_nil)
      (pss_cons (ps_set (i := 5) sc_law.nd rfl (.inl rfl) (pe_listRg rfl (by rfl) T.b_list (prg_1 (by rfl) T.b_range (pe_callB call_len_seq (by rfl) T.b_len (by decide +kernel) (pa_cons (pe_ix ix_tup (pv 4) pe_int (fun _ _ => rfl)) pa_nil)))))
      (pss_cons (ps_set (i := 5) sc_law.nd rfl (.inl rfl) (pe_op op_cat (pe_slice sl_list (pe_d D_l_mixed hgd hr (pa_cons (pv 1) (pa_cons (pv 5) pa_nil))) po_none (po_some pe_int)) (pe_lst (pa_cons (pe_d D_l_pick hgd hr (pa_cons (pv 1) (pa_cons (pe_lst (pa_cons pe_int (pa_cons (pe_un un_neg pe_int) (pa_cons (pe_callB call_len_seq (by rfl) T.b_len (by decide +kernel) (pa_cons (pe_ix ix_tup (pv 4) pe_int (fun _ _ => rfl)) pa_nil)) (pa_cons (pe_op op_pow pe_int pe_int) pa_nil))))) pa_nil))) pa_nil))))
      (pss_one (ps_for PassesOwn.never rfl (pi_enum rfl T.b_enumerate (pa_cons (pv 5) pa_nil)) (pg_tup rfl (pgs_cons (pg_name (i := 6) sc_law.nd rfl (.inl rfl)) (pgs_cons (pg_name (i := 7) sc_law.nd rfl (.inl rfl)) pgs_nil)))
      (pss_one (ps_if (pt_not (pt_val (pe_d D_l_is_right hgd hr (pa_cons (pv 1) (pa_cons (pv 3) (pa_cons (pv 4) (pa_cons (pv 7) (pa_cons (pe_cmpR op_eq (pv 6) pe_int (nomark _)) pa_nil)))))))) (pss_one (ps_ret pe_bl)) pss_nil)))))))))
      (pss_one (ps_ret pe_bl)))), ?_⟩
    refine ⟨_, rfl, a, nums, rfl, hS, hz, fun p l H1 W1 => ?_⟩
    dsimp only [gName]
    refine ⟨7, rfl, by decide, by decide, for_range (lo := 0) (n := 7) (fun i σ H2 => ∃ o2 o3 o4 o5 o6 o7, σ = [some (.ref a), some (.ref p), o2, o3, o4, o5, o6, o7] ∧ ∃ G2, Wd p l G2 H2)
      ⟨_, _, _, _, _, _, rfl, H, W1⟩ ?_ (fun σ H2 _ => k H2)⟩
    rintro i σ H2 hi ⟨o2, o3, o4, o5, o6, o7, rfl, G2, W2⟩
    dsimp only [gName, List.set]
    refine ⟨_, rfl, p, l, G2, 6, rfl, W2, by decide, by decide, fun t nt cv ns c G3 H3 e3 st snt hn Ok N M l39 dc => ?_⟩
    refine ⟨t, _, rfl, sameT e3.w.same st, rfl, _, _, rfl, _, _, rfl, rfl, ?_⟩
    dsimp only [gName, List.set]
    refine seq_by (fun σ2 Hx => ∃ (nt : Addr) (cv : V) (ns : List Str) (c : Cs) (Gx : Hp), σ2 = [some (.ref a), some (.ref p), some (.int (0 + (i : Int))), some (.ref nt), some cv, o5, o6, o7] ∧ Wd p l Gx Hx ∧ SqT K Gx nt (ns.map V.str) ∧ Da K Gx cv (caseD c) ∧ NamesOk ns ∧ NsOk ns ∧ CaseN ns c ∧ Met c ∧ c.2.length ≤ 39) (fun fin => ?_) ?_
    · refine ⟨_, rfl, rfl, _, rfl, iteB (fun _ => ?_) (fun _ => ?_)⟩
      rotate_left 1
      · exact fin _ _ ⟨nt, cv, ns, c, G3, rfl, e3.w, snt, dc, hn, Ok, N, M, l39⟩
      refine ⟨by show 0 ≤ sizeLine; exact Nat.zero_le _, fun n0 h0 => ⟨by show 0 ≤ sizeLine; exact Nat.zero_le _, fun n1 h1 => ⟨by show 1 ≤ sizeLine; decide, fun n2 h2 => ⟨by show 0 ≤ sizeLine; exact Nat.zero_le _, fun n3 h3 => ⟨by show 2 ≤ sizeLine; decide, fun n4 h4 => ⟨by show 2 ≤ sizeLine; decide, fun n5 h5 => ?_⟩⟩⟩⟩⟩⟩
      have f0 := e3.w.put (o := .tup []) h0
      have f1 := f0.w.put (o := .tup []) h1
      have f2 := f1.w.put (o := .tup [V.ref n1]) h2
      have f3 := f2.w.put (o := .tup []) h3
      have f4 := f3.w.put (o := .tup [V.ref n2, V.ref n3]) h4
      have f5 := f4.w.put (o := .tup [V.ref n0, V.ref n4]) h5
      have g0 := (f1.sub.trans (f2.sub.trans (f3.sub.trans (f4.sub.trans f5.sub)))) _ _ (show (upd G3 n0 (.tup [])) n0 = some (.tup []) from upd_same)
      have g1 := (f2.sub.trans (f3.sub.trans (f4.sub.trans f5.sub))) _ _ (show (upd (upd G3 n0 (.tup [])) n1 (.tup [])) n1 = some (.tup []) from upd_same)
      have g2 := (f3.sub.trans (f4.sub.trans f5.sub)) _ _ (show (upd (upd (upd G3 n0 (.tup [])) n1 (.tup [])) n2 (.tup [V.ref n1])) n2 = some (.tup [V.ref n1]) from upd_same)
      have g3 := (f4.sub.trans f5.sub) _ _ (show (upd (upd (upd (upd G3 n0 (.tup [])) n1 (.tup [])) n2 (.tup [V.ref n1])) n3 (.tup [])) n3 = some (.tup []) from upd_same)
      have g4 := f5.sub _ _ (show (upd (upd (upd (upd (upd G3 n0 (.tup [])) n1 (.tup [])) n2 (.tup [V.ref n1])) n3 (.tup [])) n4 (.tup [V.ref n2, V.ref n3])) n4 = some (.tup [V.ref n2, V.ref n3]) from upd_same)
      refine ⟨n5, _, rfl, SqT.of upd_same, rfl, _, _, rfl, _, _, rfl, rfl, ?_⟩
      refine fin _ _ ⟨n0, .ref n4, [], ([[]], []), _, rfl, f5.w, SqT.of g0, ?_, names0_ok, ns0_ok, case0_n, case0_met, by decide⟩
      exact .tup (SqT.of g4) (.cons (.tup (SqT.of g2) (.cons (.tup (SqT.of g1) .nil) .nil)) (.cons (.tup (SqT.of g3) .nil) .nil))
    clear N M l39 Ok hn dc snt st e3
    rintro σ Hx ⟨nt, cv, ns, c, G4, rfl, W4, snt, dc, hn, Ok, N, M, l39⟩
    have l59 := len_few N Ok M l39
    obtain ⟨va, b1, b2, ls, as, rfl, sva, sb1, dls, sb2, das⟩ := da_case dc
    have lls : ls.length = c.1.length := by rw [dls.length, List.length_map]
    refine ⟨_, rfl, va, _, 0, V.ref b1, rfl, rfl, sameT W4.same sva, rfl, b1, ls, rfl, .inr (sameT W4.same sb1), _, rfl, RgOk.of_le (by decide) (by omega) (by decide) (by omega), fun q hq => ?_⟩
    have erg : rgV 0 (ls.length : Int) = (((List.range ls.length).map fun i : Nat => (0 + (i : Int))).map fun z => (V.int z, PyData.int z)).map Prod.fst := by
      unfold rgV
      rw [List.map_map, List.map_map]
      rfl
    rw [erg]
    generalize hzs : ((List.range ls.length).map fun i : Nat => (0 + (i : Int))) = zi
    have lzi : zi.length ≤ 59 := by rw [← hzs, List.length_map, List.length_range]; omega
    dsimp only [gName, List.set]
    have W5 := (W4.tmp (o := .lst ((zi.map fun z => (V.int z, PyData.int z)).map Prod.fst)) hq).w
    have q5 : (upd Hx q (.lst ((zi.map fun z => (V.int z, PyData.int z)).map Prod.fst))) q = some (.lst ((zi.map fun z => (V.int z, PyData.int z)).map Prod.fst)) := upd_same
    generalize upd Hx q (.lst ((zi.map fun z => (V.int z, PyData.int z)).map Prod.fst)) = H5 at W5 q5 ⊢
    refine ⟨_, rfl, _, rfl, p, l, G4, q, zi.map fun z => (V.int z, PyData.int z), rfl, W5, .inl (SqL.of q5), by rw [List.length_map]; omega, fun z m => ?_, fun r ys G6 H6 e6 r6 r0 gr pm => ?_⟩
    · obtain ⟨n, mn, rfl⟩ := List.mem_map.mp m
      exact ⟨.int n, shp_int n⟩
    obtain ⟨zs, rfl, pzs⟩ := perm_map_inv (f := fun z => (V.int z, PyData.int z)) pm _ rfl
    rw [List.map_map] at r6
    have r6 : H6 r = some (.lst (zs.map V.int)) := r6
    have W6 := e6.w
    refine ⟨3, rfl, r, _, rfl, SqL.of r6, fun S1 hS1 => ?_⟩
    obtain ⟨ms, ec, sub⟩ := cut_int zs none (some 3)
    rw [ec]
    have lms : ms.length ≤ 59 := by
      have h1 := sub.length_le
      have h2 := pzs.length_eq
      omega
    have f7 := W6.tmp (o := .lst (ms.map V.int)) hS1
    have S7 : (upd H6 S1 (.lst (ms.map V.int))) S1 = some (.lst (ms.map V.int)) := upd_same
    have nSp := W6.np hS1
    have nSl := W6.nl hS1
    generalize upd H6 S1 (.lst (ms.map V.int)) = H7 at f7 S7 ⊢
    have W7 := f7.w
    have sva7 : SqT K H7 va [V.ref b1, V.ref b2] := sameT W7.same (sameT e6.sub sva)
    have sb17 : SqT K H7 b1 ls := sameT W7.same (sameT e6.sub sb1)
    refine ⟨_, rfl, 1, rfl, _, rfl, va, _, 0, V.ref b1, rfl, rfl, sva7, rfl, b1, ls, rfl, .inr sb17, 10, 64, rfl, rfl, ⟨by decide, by decide, by decide⟩, by show 4 ≤ sizeLine; decide, fun q2 hq2 => ?_⟩
    have f8 := W7.tmp (o := .lst [V.int 0, V.int (-1), V.int (ls.length : Int), V.int (10 ^ (64 : Int).toNat)]) hq2
    have S8 := sameAdd (o := .lst [V.int 0, V.int (-1), V.int (ls.length : Int), V.int (10 ^ (64 : Int).toNat)]) hq2 _ _ S7
    refine ⟨p, l, G6, q2, [V.int 0, V.int (-1), V.int (ls.length : Int), V.int (10 ^ (64 : Int).toNat)], rfl, f8.w, upd_same, W7.np hq2, W7.nl hq2, by show 0 < 4; decide, by show 4 < 1000000; decide, fun x H9 mx e9 => ?_⟩
    obtain ⟨z, rfl⟩ : ∃ z : Int, x = V.int z := by
      rcases List.mem_cons.mp mx with h | mx
      · exact ⟨_, h⟩
      · rcases List.mem_cons.mp mx with h | mx
        · exact ⟨_, h⟩
        · rcases List.mem_cons.mp mx with h | mx
          · exact ⟨_, h⟩
          · exact ⟨_, List.mem_singleton.mp mx⟩
    have S9 := e9.keep _ _ nSp nSl S8
    refine ⟨by show 1 ≤ sizeLine; decide, fun q3 hq3 => ?_⟩
    have f10 := e9.w.tmp (o := .lst [V.int z]) hq3
    have S10 := sameAdd (o := .lst [V.int z]) hq3 _ _ S9
    refine ⟨S1, q3, ms.map V.int, [V.int z], rfl, rfl, S10, upd_same, by rw [List.length_map, List.length_singleton]; omega, fun B hB => ?_⟩
    have f11 := f10.w.tmp (o := .lst (ms.map V.int ++ [V.int z])) hB
    have eB : ms.map V.int ++ [V.int z] = (ms ++ [z]).map V.int := by rw [List.map_append]; rfl
    rw [eB] at f11 ⊢
    have B11 : (upd (upd H9 q3 (.lst [V.int z])) B (.lst ((ms ++ [z]).map V.int))) B = some (.lst ((ms ++ [z]).map V.int)) := upd_same
    have nBp := f10.w.np hB
    have nBl := f10.w.nl hB
    generalize upd (upd H9 q3 (.lst [V.int z])) B (.lst ((ms ++ [z]).map V.int)) = H11 at f11 B11 ⊢
    have W11 := f11.w
    have snt6 := sameT e6.sub snt
    have dc6 := dc.mono e6.sub
    clear f11 f10 S10 S9 S8 f8 e9 mx hB hq3 hq2 S7 f7 hS1
    dsimp only [gName, List.set]
    refine ⟨_, rfl, B, _, rfl, SqL.of B11, for_it (walk_enum (K := K) (a := B) (xs := (ms ++ [z]).map V.int)) (fun j σ Hy => ∃ o6 o7, σ = [some (.ref a), some (.ref p), some (.int (0 + (i : Int))), some (.ref nt), some (.ref va), some (.ref B), o6, o7] ∧ ∃ Gy, Wd p l Gy Hy ∧ Same G6 Gy ∧ Hy B = some (.lst ((ms ++ [z]).map V.int)))
      ⟨_, _, rfl, G6, W11, Same.refl _, B11⟩ (fun j σ Hy _ ⟨_, _, _, _, _, _, h⟩ => SqL.of h) ?_ (fun σ Hy ⟨_, _, e, Gy, Wy, _⟩ => by rw [e]; exact ⟨_, _, _, _, _, _, rfl, Gy, Wy⟩)⟩
    rintro j x σ Hy Hy' hj ⟨o6, o7, rfl, Gy, Wy, sGy, By⟩ ⟨T', a1, v, rfl, hT, rfl, e1, e2⟩
    obtain rfl : a1 = V.int (j : Int) := (Option.some.inj e1).symm
    obtain ⟨bz, rfl⟩ : ∃ bz : Int, v = V.int bz := by
      have e2 : ((ms ++ [z]).map V.int)[j]? = some v := e2
      rw [List.getElem?_map] at e2
      obtain ⟨bz, _, e⟩ := Option.map_eq_some_iff.mp e2
      exact ⟨bz, e.symm⟩
    have fT := Wy.tmp (o := .tup [V.int (j : Int), V.int bz]) hT
    have By2 := sameAdd (o := .tup [V.int (j : Int), V.int bz]) hT _ _ By
    refine ⟨T', _, rfl, SqT.of upd_same, rfl, _, _, rfl, _, _, rfl, rfl, ?_⟩
    dsimp only [gName, List.set]
    refine ⟨_, rfl, _, rfl, _, rfl, _, rfl, _, rfl, rfl, p, l, Gy, nt, .ref va, bz, _, ns, c, rfl, fT.w, sameT sGy snt6, dc6.mono sGy, hn, Ok, N, M, l39, fun G' H' eZ => ⟨_, rfl, if_no rfl ?_⟩⟩
    exact ⟨_, _, rfl, G', eZ.w, sGy.trans eZ.sub, eZ.keep _ _ nBp nBl By2⟩
end
end L2.Hx

/-! The end: the row from the promise of its def. -/
namespace L2.Hx
open PySem PySem.Spec PyProof.Rows
section
variable {P : Program} {w : World} {K : PySem.W.Frag} {mg mb : Str → Option Value} {k : Nat} {f a : Addr} {fd : FuncData} {x : Str} {sp : Sp} {t0 : Shared} {us0 : List Value} {ns : List Int}
/-- what stands ahead of the call of the def -/
structure Ahead (K : PySem.W.Frag) (mg mb : Str → Option Value) (t0 : Shared) (a : Addr) (us0 : List Value) (ns : List Int) : Prop where
  kin : K.In t0.heap
  nsG : t0.heap.Ns mainGlobals mg
  nsB : t0.heap.Ns builtinsNs mb
  bb : ∀ y : Str, y ≠ "__name__" → mb y = bootBuiltins y
  lim : t0.heap.NoLimit
  gens : t0.gens = #[]
  obj : t0.heap.get? a = some { cls := .type "list", data := .seq us0.toArray }
  are : IntsAre us0 ns
  len : ns.length ≤ sizeLine
/-- what stands behind it -/
abbrev Done (t0 : Shared) : Result → Shared → Prop := fun r z => r = .ok (.ret (.bool true)) ∧ OldK t0.heap z.heap ∧ z.os = t0.os ∧ AllBare z.gens
/-- from a heap in which nothing but the script may be tracked -/
theorem Ahead.from_ {H : Hp} (Z : Ahead K mg mb t0 a us0 ns) (room : Room k callerA) (F : ∀ base : Heap, K.In base → base.Ns mainGlobals mg → FnG P w K mg base CX0 k f fd [x] sp) (bind : ∀ (s : Shared) (u : Value), BindsTo s fd ⟨[u], []⟩ [(x, u)])
    (hO : Only H) (prom : sp [.ref a] H (fun v _ => v = .bl true) fun _ _ _ => False) (ok0 : HOk P w H t0.heap) (alone : ∀ b, H b ≠ none → b = a) (notK : H a ≠ none → K.lookup a = none) :
    codeAny (model P w) callerA (.call (.ref f) ⟨[.ref a], []⟩) (Done t0) t0 := by
  have free : ∀ {b : Addr} {o : Obj} {es : Array DictEntry} {n : Nat}, t0.heap.get? b = some o → o.data = .dict es n → H b = none := fun {b o es n} e d => by
    rcases hO b with q | ⟨o2, xs, q⟩
    · exact q
    · have ea := alone b (by rw [q]; exact Option.some_ne_none _)
      rw [ea, Z.obj] at e
      cases e
      cases d
  have ns1 : ∀ {b : Addr} {m : Str → Option Value}, t0.heap.Ns b m → (hidT t0.heap H).Ns b m := fun {b m} z => by
    obtain ⟨o, es, n, e, d, r⟩ := z
    exact ⟨o, es, n, hidT_get e (free e d), d, r⟩
  have kin1 : K.In (hidT t0.heap H) := fun b o e => by
    refine hidT_get (Z.kin b o e) ?_
    rcases hO b with q | ⟨o2, xs, q⟩
    · exact q
    · have nn : H b ≠ none := by
        rw [q]
        exact Option.some_ne_none _
      have ea := alone b nn
      rw [ea] at nn e
      rw [notK nn] at e
      cases e
  have lim1 : (hidT t0.heap H).NoLimit := by
    obtain ⟨m, z1, z2⟩ := Z.lim
    exact ⟨m, ns1 z1, z2⟩
  have env : Env0 P w K mg (hidT t0.heap H) callerA [] t0 H :=
    ⟨rfl, ⟨kin1, ns1 Z.nsG, ⟨mb, ns1 Z.nsB, Z.bb⟩, lim1⟩, fun b o e => of_hidT e, Nat.le_of_eq (hidT_size _ _), trivial, fun b z => absurd (show b ∈ ([] : List Addr) from z) List.not_mem_nil, ok0, .of_eq Z.gens⟩
  refine codeAny_mono ((F _ kin1 (ns1 Z.nsG)).go callerA [] t0 H ⟨[.ref a], []⟩ [.ref a] [.ref a] _ _ rfl room env (bind t0 (.ref a)) (.cons rfl .nil) prom) fun r z h => ?_
  match r, h with
  | .ok (.ret u), h =>
    obtain ⟨v, H1, e1, e2, e3, e4, e5, e6⟩ := h
    have ev : v = .bl true := e6
    rw [ev] at e5
    have eu : u = Value.bool true := e5
    rw [eu]
    refine ⟨rfl, OldK.of_keep fun b o e => ?_, e1, e2⟩
    rcases hO b with q | ⟨o2, xs, q⟩
    · exact e3.keep b o e q (fun m => absurd (show b ∈ ([] : List Addr) from m) List.not_mem_nil) (by simp)
    · have q1 := e3.frzs b o2 _ q
      have g0 := (ok0 b _ q).1
      have g1 := (e4 b _ q1).1
      rw [e] at g0
      cases g0
      exact g1
theorem Ahead.call (Z : Ahead K mg mb t0 a us0 ns) (room : Room k callerA) (F : ∀ base : Heap, K.In base → base.Ns mainGlobals mg → FnG P w K mg base CX0 k f fd [x] sp) (bind : ∀ (s : Shared) (u : Value), BindsTo s fd ⟨[u], []⟩ [(x, u)])
    (prom : ∀ H : Hp, SqL K H a (ns.map V.int) → sp [.ref a] H (fun v _ => v = .bl true) fun _ _ _ => False) : codeAny (model P w) callerA (.call (.ref f) ⟨[.ref a], []⟩) (Done t0) t0 := by
  have vals := vals_ints Z.are
  have lens := Z.are.length
  cases own : K.lookup a with
  | some o =>
    have eo := Z.kin a o own
    rw [Z.obj] at eo
    cases eo
    refine Z.from_ (H := fun _ => none) room F bind (fun _ => .inl rfl) (prom _ (.inr ⟨_, us0.toArray, _, own, rfl, rfl, rfl, ?_, vals⟩)) (fun b u q => nomatch q) (fun b q => absurd rfl q) (fun q => absurd rfl q)
    rw [List.size_toArray, lens]
    exact Z.len
  | none =>
    refine Z.from_ (H := fun b => if b = a then some (.frz { cls := .type "list", data := .seq us0.toArray } (.lst (ns.map V.int))) else none) room F bind (fun b => ?_) (prom _ (.inl (.inr ⟨_, if_pos rfl⟩))) (fun b u q => ?_) (fun b q => ?_) (fun _ => own)
    · by_cases e : b = a
      · exact .inr ⟨_, _, if_pos e⟩
      · exact .inl (if_neg e)
    · by_cases e : b = a
      · have q1 := (if_pos e).symm.trans q
        cases q1
        rw [e]
        exact ⟨Z.obj, by rw [List.length_map]; exact Z.len, us0, _, vals, Z.obj⟩
      · have q1 := (if_neg e).symm.trans q
        cases q1
    · by_cases e : b = a
      · exact e
      · exact absurd (if_neg e) q
end
/-- the row's walk -/
theorem walkG {l : PySem.W.OpenLaw} {n k : Nat} {q : Program} {loose : List Str} {XP : (Str → Option Value) → Heap → Prop} {YP : World → Heap → Prop} {d : DefRec} {K : Params → PySem.W.Frag} {sp : PySem.W.Frag → Sp} {x : Str}
    (hn : l.most = some n) (hz : n ≤ sizeLine) (nodef : d.params.defaults = []) (room : Room k callerA) (hY : ∀ (w : World) (h : Heap), YP w h → (K w.params).In h)
    (F : ∀ (w : World) (mg : Str → Option Value) (f : Addr) (h : Heap), (K w.params).In h → h.Ns mainGlobals mg → mg d.name = some (.ref f) →
      ∃ fd : FuncData, (∀ (s : Shared) (u : Value), BindsTo s fd ⟨[u], []⟩ [(x, u)]) ∧ ∀ base : Heap, FnG l.prog w (K w.params) mg base CX0 k f fd [x] (sp (K w.params)))
    (prom : ∀ (K : PySem.W.Frag) (H : Hp) (a : Addr) (ns : List Int), ns.length ≤ n → SqL K H a (ns.map V.int) → sp K [.ref a] H (fun v _ => v = .bl true) fun _ _ _ => False) :
    PySem.W.WalkO q loose XP YP l.row.toRowW d [] (fun f vs => PySem.call f vs) := by
  refine Att.attach_call hn nodef fun w s0 t0 mg mb f o pm cd doc a us0 ns G Y _ _ _ here obj are len gens => ?_
  have kin := hY w _ Y
  obtain ⟨fd, b, FF⟩ := F w mg f _ kin G.T.g here
  have Z : Ahead (K w.params) mg mb t0 a us0 ns := ⟨kin, G.T.g, G.T.b, G.T.builtins, G.T.nolimit, gens, obj, are, Nat.le_trans len hz⟩
  exact Z.call room (fun base _ _ => FF base) b fun H hS => prom _ H a ns len hS
/-- a def of the top, where it stands -/
theorem src_of {K : PySem.W.Frag} {mg : Str → Option Value} {h : Heap} {x : Str} {st : Stmt} {ps : List Str} {f : Addr} {oc kV doc pm cdv ct : Value} {od an : Option Addr} {osl : Array (Option Value)} (X : K.In h) (G : h.Ns mainGlobals mg)
    (e1 : PySem.W.nsIn K mainGlobals x = some (some (.ref f))) (e2 : K.lookup f = some ⟨oc, od, .func (PySem.W.fnOf x x (defArgs st) (defBody st) (defScope st) .none kV doc pm an cdv ct), osl⟩) (e3 : PySem.W.codeIn K cdv x = true) (e4 : PySem.W.keepIn K (.ref f) = true)
    (hb : ∀ (kV doc pm : Value) (an : Option Addr) (cdv ct : Value) (us : List Value), us.length = ps.length → bindArgs (PySem.W.fnOf x x (defArgs st) (defBody st) (defScope st) .none kV doc pm an cdv ct) ⟨us, []⟩ = pure (ps.zip us)) : ∃ f fd, Src K mg x st ps f fd :=
  ⟨f, _, fun_mk e2 e3 e4, PySem.W.mg_of X G e1, (fun_mk e2 e3 e4).binds hb⟩
/-- a tuple of texts of the top -/
theorem tup_of {K : PySem.W.Frag} {mg : Str → Option Value} {h : Heap} {x : Str} {a : Addr} {ws : List Str} {o : Obj} {its : Array Value} {n : Nat} (X : K.In h) (G : h.Ns mainGlobals mg) (e1 : PySem.W.nsIn K mainGlobals x = some (some (.ref a))) (e2 : K.lookup a = some o)
    (e3 : o.cls = .type "tuple" ∧ o.data = .seq its n ∧ its.size ≤ sizeLine ∧ Vals (ws.map V.str) its.toList) : ∃ a, mg x = some (.ref a) ∧ ∀ H, SqT K H a (ws.map V.str) :=
  ⟨a, PySem.W.mg_of X G e1, fun H => .inr ⟨o, its, n, e2, e3.1, e3.2.1, e3.2.2.1, e3.2.2.2⟩⟩
theorem da_walk {l : PySem.W.OpenLaw} {q : Program} {loose : List Str} {XP : (Str → Option Value) → Heap → Prop} {YP : World → Heap → Prop} {d : DefRec} {K : Params → PySem.W.Frag} (hn : l.most = some 63) (nodef : d.params.defaults = []) (nm : d.name = "law")
    (hY : ∀ (w : World) (h : Heap), YP w h → (K w.params).In h) (F : ∀ (w : World) (mg : Str → Option Value) (h : Heap), (K w.params).In h → h.Ns mainGlobals mg → Txt (K w.params) mg) : PySem.W.WalkO q loose XP YP l.row.toRowW d [] (fun f vs => PySem.call f vs) :=
  walkG (n := 63) (k := 53) (x := "script") (sp := spLaw) hn (by decide) nodef ⟨rfl, by decide, by decide⟩ hY (fun w mg f h kin G here => by
    have T := F w mg h kin G
    obtain ⟨f0, fd0, S0⟩ := T.d_law
    have e := S0.at_.symm.trans (nm ▸ here)
    cases e
    refine ⟨fd0, fun s u => ?_, fun base => ?_⟩
    · obtain ⟨oc, od, kV, doc, pm, an, cdv, ct, osl, rfl, _⟩ := S0.fn.ex
      exact .of_eq rfl
    · obtain ⟨f1, fd1, R, S1⟩ := D_law (P := l.prog) (w := w) (base := base) T
      have e1 := S1.at_.symm.trans S0.at_
      cases e1
      have e2 : fd1 = fd0 := by
        obtain ⟨oc, od, kV, doc, pm, an, cdv, ct, osl, rfl, lk, _⟩ := S0.fn.ex
        obtain ⟨oc', od', kV', doc', pm', an', cdv', ct', osl', rfl, lk', _⟩ := S1.fn.ex
        rw [lk] at lk'
        cases lk'
        rfl
      rw [← e2]
      exact R) fun K H a ns hl hS => ⟨a, ns, rfl, hS, hl, fun _ => rfl⟩
theorem kit_ref {K : PySem.W.Frag} {C CH : Addr} (h1 : PySem.W.hasDictIn K CH = true) (h2 : PySem.W.typeIn K (.ref CH) = some (.type "type")) (h3 : PySem.W.subIn K (.ref C) (.ref CH) = some true) : PySem.W.kitOne K (.ref C) (.ref CH) = some true := by
  obtain ⟨cd, hc, _⟩ := PySem.W.any_some h1
  unfold PySem.W.kitOne
  split
  · rfl
  · show (if ((PySem.W.clsIn K CH).isSome && PySem.W.typeIn K (.ref CH) == some (.type "type")) = true then PySem.W.subIn K (.ref C) (.ref CH) else none) = some true
    have e : ((PySem.W.clsIn K CH).isSome && PySem.W.typeIn K (.ref CH) == some (.type "type")) = true := by rw [hc, h2] <;> rfl
    rw [if_pos e]
    exact h3
/-- the own errors of the text -/
theorem exc_of {K : PySem.W.Frag} {mg : Str → Option Value} {h : Heap} {C CH : Addr} (X : K.In h) (G : h.Ns mainGlobals mg) (a1 : PySem.W.nsIn K mainGlobals "Unfit" = some (some (.ref C))) (a2 : PySem.W.nsIn K mainGlobals "HeldError" = some (some (.ref CH)))
    (x1 : PySem.W.excIn K C [.type "ValueError", .type "Exception", .type "BaseException", .type "object"] "ValueError.__new__" = true) (x2 : PySem.W.keepIn K (.ref C) = true) (x3 : PySem.W.subIn K (.ref C) (.type "BaseException") = some true) (x4 : PySem.W.typeIn K (.ref C) = some (.type "type")) (x5 : PySem.W.hasDictIn K C = true) (x6 : PySem.W.subIn K (.ref C) (.ref C) = some true)
    (y1 : PySem.W.findIn K (.ref C) "__getattribute__" = some (some (.builtin "BaseException.__getattribute__"))) (y2 : PySem.W.findIn K (.ref C) "__getattr__" = some none) (y3 : PySem.W.findIn K (.ref C) "__class__" = some (some (.builtin "object.__class__")))
    (y4 : PySem.W.specialIn K (.builtin "object.__class__") "__get__" = some (some (.builtin "getset_descriptor.__get__"))) (y5 : PySem.W.takesIn K (.builtin "object.__class__") = some true) (y6 : PySem.W.mroIn K C (.type "object") = some true)
    (z1 : PySem.W.hasDictIn K CH = true) (z2 : PySem.W.typeIn K (.ref CH) = some (.type "type")) (z3 : PySem.W.subIn K (.ref C) (.ref CH) = some true) :
    ∃ C CH, OwnExc K mg "Unfit" C ∧ mg "HeldError" = some (.ref CH) ∧ PySem.W.kitOne K (.ref C) (.ref CH) = some true :=
  ⟨C, CH, ⟨PySem.W.mg_of X G a1, x1, x2, x3, x4, x5, x6, ⟨y1, y2, x3, x5, y3, y4, y5, y6⟩⟩, PySem.W.mg_of X G a2, kit_ref z1 z2 z3⟩
end L2.Hx

open PySem PySem.W PyProof.Rows in
set_option maxRecDepth 100000 in
set_option maxHeartbeats 0 in
theorem PySem.Challenge.cw_heldapart_k56_whole_long_arrows_opened_holds : PySem.Challenge.rw_heldapart_k56_whole_long_arrows_opened.Holds := by
  w_on; o_law; k_head; (case hw => w_witness2)
  k_fill
  refine L2.Hx.da_walk (l := PySem.Challenge.rw_heldapart_k56_whole_long_arrows_opened) rfl rfl rfl (fun w h Y => PySem.W.kIn_of Y) ?F
  case F =>
    intro w mg h KX G
    have b_ValueError : mg "ValueError" = none := by
      refine PySem.W.mg_none_of KX G ?_
      k_is
    have b_dict : mg "dict" = none := by
      refine PySem.W.mg_none_of KX G ?_
      k_is
    have b_enumerate : mg "enumerate" = none := by
      refine PySem.W.mg_none_of KX G ?_
      k_is
    have b_int : mg "int" = none := by
      refine PySem.W.mg_none_of KX G ?_
      k_is
    have b_isinstance : mg "isinstance" = none := by
      refine PySem.W.mg_none_of KX G ?_
      k_is
    have b_len : mg "len" = none := by
      refine PySem.W.mg_none_of KX G ?_
      k_is
    have b_list : mg "list" = none := by
      refine PySem.W.mg_none_of KX G ?_
      k_is
    have b_max : mg "max" = none := by
      refine PySem.W.mg_none_of KX G ?_
      k_is
    have b_range : mg "range" = none := by
      refine PySem.W.mg_none_of KX G ?_
      k_is
    have b_repr : mg "repr" = none := by
      refine PySem.W.mg_none_of KX G ?_
      k_is
    have b_set : mg "set" = none := by
      refine PySem.W.mg_none_of KX G ?_
      k_is
    have b_sorted : mg "sorted" = none := by
      refine PySem.W.mg_none_of KX G ?_
      k_is
    have b_tuple : mg "tuple" = none := by
      refine PySem.W.mg_none_of KX G ?_
      k_is
    have b_zip : mg "zip" = none := by
      refine PySem.W.mg_none_of KX G ?_
      k_is
    have e_Unfit : ∃ C CH, L2.Hx.OwnExc (L2.KOf KX) mg "Unfit" C ∧ mg "HeldError" = some (.ref CH) ∧ PySem.W.kitOne (L2.KOf KX) (.ref C) (.ref CH) = some true := by
      dsimp only [L2.KOf]
      refine' L2.Hx.exc_of KX G ?a1 ?a2 ?x1 ?x2 ?x3 ?x4 ?x5 ?x6 ?y1 ?y2 ?y3 ?y4 ?y5 ?y6 ?z1 ?z2 ?z3
      (case a1 => k_is)
      (case a2 => k_is)
      (case x1 => k_exc)
      (case x2 => k_is)
      (case x3 => k_is)
      (case x4 => k_is)
      (case x5 => k_is)
      (case x6 => first | rfl | k_is)
      (case y1 => k_is)
      (case y2 => k_is)
      (case y3 => k_is)
      (case y4 => k_is)
      (case y5 => k_is)
      (case y6 => k_is)
      (case z1 => k_is)
      (case z2 => k_is)
      (case z3 => k_is)
    have d_leads_of : ∃ f fd, L2.Hx.Src (L2.KOf KX) mg "leads_of" L2.Hx.s_leads_of ["arrows"] f fd := by
      dsimp only [L2.KOf]
      refine' L2.Hx.src_of KX G ?e1_15 ?e2_15 ?e3_15 ?e4_15 (fun _ _ _ _ _ _ us hl => match us, hl with | [_], _ => rfl)
      (case e1_15 => k_is)
      (case e2_15 => k_is)
      (case e3_15 => k_is)
      (case e4_15 => k_is)
    have d_settled : ∃ f fd, L2.Hx.Src (L2.KOf KX) mg "settled" L2.Hx.s_settled ["lots", "leads"] f fd := by
      dsimp only [L2.KOf]
      refine' L2.Hx.src_of KX G ?e1_16 ?e2_16 ?e3_16 ?e4_16 (fun _ _ _ _ _ _ us hl => match us, hl with | [_, _], _ => rfl)
      (case e1_16 => k_is)
      (case e2_16 => k_is)
      (case e3_16 => k_is)
      (case e4_16 => k_is)
    have d_opened : ∃ f fd, L2.Hx.Src (L2.KOf KX) mg "opened" L2.Hx.s_opened ["names", "case", "begin"] f fd := by
      dsimp only [L2.KOf]
      refine' L2.Hx.src_of KX G ?e1_17 ?e2_17 ?e3_17 ?e4_17 (fun _ _ _ _ _ _ us hl => match us, hl with | [_, _, _], _ => rfl)
      (case e1_17 => k_is)
      (case e2_17 => k_is)
      (case e3_17 => k_is)
      (case e4_17 => k_is)
    have d_opened_ways : ∃ f fd, L2.Hx.Src (L2.KOf KX) mg "opened_ways" L2.Hx.s_opened_ways ["case", "begin"] f fd := by
      dsimp only [L2.KOf]
      refine' L2.Hx.src_of KX G ?e1_18 ?e2_18 ?e3_18 ?e4_18 (fun _ _ _ _ _ _ us hl => match us, hl with | [_, _], _ => rfl)
      (case e1_18 => k_is)
      (case e2_18 => k_is)
      (case e3_18 => k_is)
      (case e4_18 => k_is)
    have d_l_deck : ∃ f fd, L2.Hx.Src (L2.KOf KX) mg "_law_deck" L2.Hx.s_l_deck ["script"] f fd := by
      dsimp only [L2.KOf]
      refine' L2.Hx.src_of KX G ?e1_19 ?e2_19 ?e3_19 ?e4_19 (fun _ _ _ _ _ _ us hl => match us, hl with | [_], _ => rfl)
      (case e1_19 => k_is)
      (case e2_19 => k_is)
      (case e3_19 => k_is)
      (case e4_19 => k_is)
    have d_l_draw : ∃ f fd, L2.Hx.Src (L2.KOf KX) mg "_law_draw" L2.Hx.s_l_draw ["deck", "many"] f fd := by
      dsimp only [L2.KOf]
      refine' L2.Hx.src_of KX G ?e1_20 ?e2_20 ?e3_20 ?e4_20 (fun _ _ _ _ _ _ us hl => match us, hl with | [_, _], _ => rfl)
      (case e1_20 => k_is)
      (case e2_20 => k_is)
      (case e3_20 => k_is)
      (case e4_20 => k_is)
    have d_l_pick : ∃ f fd, L2.Hx.Src (L2.KOf KX) mg "_law_pick" L2.Hx.s_l_pick ["deck", "items"] f fd := by
      dsimp only [L2.KOf]
      refine' L2.Hx.src_of KX G ?e1_21 ?e2_21 ?e3_21 ?e4_21 (fun _ _ _ _ _ _ us hl => match us, hl with | [_, _], _ => rfl)
      (case e1_21 => k_is)
      (case e2_21 => k_is)
      (case e3_21 => k_is)
      (case e4_21 => k_is)
    have d_l_mixed : ∃ f fd, L2.Hx.Src (L2.KOf KX) mg "_law_mixed" L2.Hx.s_l_mixed ["deck", "items"] f fd := by
      dsimp only [L2.KOf]
      refine' L2.Hx.src_of KX G ?e1_22 ?e2_22 ?e3_22 ?e4_22 (fun _ _ _ _ _ _ us hl => match us, hl with | [_, _], _ => rfl)
      (case e1_22 => k_is)
      (case e2_22 => k_is)
      (case e3_22 => k_is)
      (case e4_22 => k_is)
    have d_l_names : ∃ f fd, L2.Hx.Src (L2.KOf KX) mg "_law_names" L2.Hx.s_l_names ["deck", "most"] f fd := by
      dsimp only [L2.KOf]
      refine' L2.Hx.src_of KX G ?e1_23 ?e2_23 ?e3_23 ?e4_23 (fun _ _ _ _ _ _ us hl => match us, hl with | [_, _], _ => rfl)
      (case e1_23 => k_is)
      (case e2_23 => k_is)
      (case e3_23 => k_is)
      (case e4_23 => k_is)
    have d_l_home : ∃ f fd, L2.Hx.Src (L2.KOf KX) mg "_law_home" L2.Hx.s_l_home ["case"] f fd := by
      dsimp only [L2.KOf]
      refine' L2.Hx.src_of KX G ?e1_24 ?e2_24 ?e3_24 ?e4_24 (fun _ _ _ _ _ _ us hl => match us, hl with | [_], _ => rfl)
      (case e1_24 => k_is)
      (case e2_24 => k_is)
      (case e3_24 => k_is)
      (case e4_24 => k_is)
    have d_l_ways : ∃ f fd, L2.Hx.Src (L2.KOf KX) mg "_law_ways" L2.Hx.s_l_ways ["case"] f fd := by
      dsimp only [L2.KOf]
      refine' L2.Hx.src_of KX G ?e1_25 ?e2_25 ?e3_25 ?e4_25 (fun _ _ _ _ _ _ us hl => match us, hl with | [_], _ => rfl)
      (case e1_25 => k_is)
      (case e2_25 => k_is)
      (case e3_25 => k_is)
      (case e4_25 => k_is)
    have d_l_numbered : ∃ f fd, L2.Hx.Src (L2.KOf KX) mg "_law_numbered" L2.Hx.s_l_numbered ["home", "ways"] f fd := by
      dsimp only [L2.KOf]
      refine' L2.Hx.src_of KX G ?e1_26 ?e2_26 ?e3_26 ?e4_26 (fun _ _ _ _ _ _ us hl => match us, hl with | [_, _], _ => rfl)
      (case e1_26 => k_is)
      (case e2_26 => k_is)
      (case e3_26 => k_is)
      (case e4_26 => k_is)
    have d_l_any_case : ∃ f fd, L2.Hx.Src (L2.KOf KX) mg "_law_any_case" L2.Hx.s_l_any_case ["deck", "names", "nameless"] f fd := by
      dsimp only [L2.KOf]
      refine' L2.Hx.src_of KX G ?e1_27 ?e2_27 ?e3_27 ?e4_27 (fun _ _ _ _ _ _ us hl => match us, hl with | [_, _, _], _ => rfl)
      (case e1_27 => k_is)
      (case e2_27 => k_is)
      (case e3_27 => k_is)
      (case e4_27 => k_is)
    have d_l_one_case : ∃ f fd, L2.Hx.Src (L2.KOf KX) mg "_law_one_case" L2.Hx.s_l_one_case ["deck", "most"] f fd := by
      dsimp only [L2.KOf]
      refine' L2.Hx.src_of KX G ?e1_28 ?e2_28 ?e3_28 ?e4_28 (fun _ _ _ _ _ _ us hl => match us, hl with | [_, _], _ => rfl)
      (case e1_28 => k_is)
      (case e2_28 => k_is)
      (case e3_28 => k_is)
      (case e4_28 => k_is)
    have d_l_heap : ∃ f fd, L2.Hx.Src (L2.KOf KX) mg "_law_heap" L2.Hx.s_l_heap ["deck", "case", "most"] f fd := by
      dsimp only [L2.KOf]
      refine' L2.Hx.src_of KX G ?e1_29 ?e2_29 ?e3_29 ?e4_29 (fun _ _ _ _ _ _ us hl => match us, hl with | [_, _, _], _ => rfl)
      (case e1_29 => k_is)
      (case e2_29 => k_is)
      (case e3_29 => k_is)
      (case e4_29 => k_is)
    have d_l_fits : ∃ f fd, L2.Hx.Src (L2.KOf KX) mg "_law_fits" L2.Hx.s_l_fits ["ways", "known", "cells", "amid"] f fd := by
      dsimp only [L2.KOf]
      refine' L2.Hx.src_of KX G ?e1_30 ?e2_30 ?e3_30 ?e4_30 (fun _ _ _ _ _ _ us hl => match us, hl with | [_, _, _, _], _ => rfl)
      (case e1_30 => k_is)
      (case e2_30 => k_is)
      (case e3_30 => k_is)
      (case e4_30 => k_is)
    have d_l_tells : ∃ f fd, L2.Hx.Src (L2.KOf KX) mg "_law_tells" L2.Hx.s_l_tells ["case", "store", "heap"] f fd := by
      dsimp only [L2.KOf]
      refine' L2.Hx.src_of KX G ?e1_31 ?e2_31 ?e3_31 ?e4_31 (fun _ _ _ _ _ _ us hl => match us, hl with | [_, _, _], _ => rfl)
      (case e1_31 => k_is)
      (case e2_31 => k_is)
      (case e3_31 => k_is)
      (case e4_31 => k_is)
    have d_l_ends : ∃ f fd, L2.Hx.Src (L2.KOf KX) mg "_law_ends" L2.Hx.s_l_ends ["home", "ways", "begin"] f fd := by
      dsimp only [L2.KOf]
      refine' L2.Hx.src_of KX G ?e1_32 ?e2_32 ?e3_32 ?e4_32 (fun _ _ _ _ _ _ us hl => match us, hl with | [_, _, _], _ => rfl)
      (case e1_32 => k_is)
      (case e2_32 => k_is)
      (case e3_32 => k_is)
      (case e4_32 => k_is)
    have d_l_heard : ∃ f fd, L2.Hx.Src (L2.KOf KX) mg "_law_heard" L2.Hx.s_l_heard ["names", "case", "begin", "is_named"] f fd := by
      dsimp only [L2.KOf]
      refine' L2.Hx.src_of KX G ?e1_33 ?e2_33 ?e3_33 ?e4_33 (fun _ _ _ _ _ _ us hl => match us, hl with | [_, _, _, _], _ => rfl)
      (case e1_33 => k_is)
      (case e2_33 => k_is)
      (case e3_33 => k_is)
      (case e4_33 => k_is)
    have d_l_is_right : ∃ f fd, L2.Hx.Src (L2.KOf KX) mg "_law_is_right" L2.Hx.s_l_is_right ["deck", "names", "case", "begin", "is_named"] f fd := by
      dsimp only [L2.KOf]
      refine' L2.Hx.src_of KX G ?e1_34 ?e2_34 ?e3_34 ?e4_34 (fun _ _ _ _ _ _ us hl => match us, hl with | [_, _, _, _, _], _ => rfl)
      (case e1_34 => k_is)
      (case e2_34 => k_is)
      (case e3_34 => k_is)
      (case e4_34 => k_is)
    have d_law : ∃ f fd, L2.Hx.Src (L2.KOf KX) mg "law" L2.Hx.s_law ["script"] f fd := by
      dsimp only [L2.KOf]
      refine' L2.Hx.src_of KX G ?e1_35 ?e2_35 ?e3_35 ?e4_35 (fun _ _ _ _ _ _ us hl => match us, hl with | [_], _ => rfl)
      (case e1_35 => k_is)
      (case e2_35 => k_is)
      (case e3_35 => k_is)
      (case e4_35 => k_is)
    exact ⟨b_ValueError, b_dict, b_enumerate, b_int, b_isinstance, b_len, b_list, b_max, b_range, b_repr, b_set, b_sorted, b_tuple, b_zip, e_Unfit, d_leads_of, d_settled, d_opened, d_opened_ways, d_l_deck, d_l_draw, d_l_pick, d_l_mixed, d_l_names, d_l_home, d_l_ways, d_l_numbered, d_l_any_case, d_l_one_case, d_l_heap, d_l_fits, d_l_tells, d_l_ends, d_l_heard, d_l_is_right, d_law⟩

