package rules

import (
	"webfinger/acct"
	"webfinger/ascii"
	"webfinger/binding"
	"webfinger/body"
	"webfinger/cache"
	"webfinger/deref"
	"webfinger/did"
	"webfinger/diddoc"
	"webfinger/didfetch"
	"webfinger/didweb"
	"webfinger/fetch"
	"webfinger/finger"
	"webfinger/fresh"
	"webfinger/head"
	"webfinger/host"
	"webfinger/ident"
	"webfinger/jrd"
	"webfinger/jsondoc"
	"webfinger/jsonwrite"
	"webfinger/mail"
	"webfinger/media"
	"webfinger/number"
	"webfinger/percent"
	"webfinger/redirect"
	"webfinger/script"
	"webfinger/session"
	"webfinger/template"
	"webfinger/token"
	"webfinger/uri"
	"webfinger/utf8text"
	"webfinger/weblink"
	"webfinger/weburl"
	"webfinger/witness"
	"webfinger/world"
)

// functions has every function that the chapters list.
var functions = map[string]any{
	"ascii.IsAlpha": ascii.IsAlpha, "ascii.IsDigit": ascii.IsDigit, "ascii.IsHex": ascii.IsHex, "ascii.IsUnreserved": ascii.IsUnreserved, "ascii.IsSubDelim": ascii.IsSubDelim, "ascii.IsPchar": ascii.IsPchar, "ascii.IsToken": ascii.IsToken, "ascii.Lower": ascii.Lower, "ascii.Equal": ascii.Equal, "ascii.Trim": ascii.Trim, "ascii.Digits": ascii.Digits,
	"utf8text.Decode": utf8text.Decode, "utf8text.Encode": utf8text.Encode, "utf8text.Valid": utf8text.Valid, "utf8text.Count": utf8text.Count,
	"percent.Decode": percent.Decode, "percent.Encode": percent.Encode, "percent.Normalize": percent.Normalize,
	"number.Parse": number.Parse, "number.Strict": number.Strict, "number.Hex": number.Hex, "number.Format": number.Format, "number.Add": number.Add, "number.Sub": number.Sub,
	"host.Host": host.Host, "host.IsIPv4": host.IsIPv4, "host.Port": host.Port, "host.Parse": host.Parse, "host.Format": host.Format,
	"uri.Split": uri.Split, "uri.Join": uri.Join, "uri.RemoveDots": uri.RemoveDots, "uri.Resolve": uri.Resolve,
	"weburl.Parse": weburl.Parse, "weburl.Format": weburl.Format, "weburl.Valid": weburl.Valid, "weburl.Target": weburl.Target, "weburl.Origin": weburl.Origin, "weburl.Relative": weburl.Relative,
	"acct.Parse": acct.Parse, "acct.Format": acct.Format,
	"mail.Parse": mail.Parse, "mail.Local": mail.Local, "mail.Format": mail.Format,
	"did.ParseDID": did.ParseDID, "did.Parse": did.Parse, "did.FormatDID": did.FormatDID, "did.Format": did.Format, "did.Resolve": did.Resolve,
	"didweb.Authority": didweb.Authority, "didweb.ToURL": didweb.ToURL, "didweb.FromURL": didweb.FromURL, "didweb.Canonical": didweb.Canonical,
	"ident.Parse": ident.Parse, "ident.Valid": ident.Valid, "ident.Authority": ident.Authority, "ident.Same": ident.Same,
	"token.Next": token.Next, "token.Quote": token.Quote, "token.Number": token.Number,
	"jsondoc.Parse": jsondoc.Parse, "jsondoc.Get": jsondoc.Get, "jsondoc.Equal": jsondoc.Equal,
	"jsonwrite.Valid": jsonwrite.Valid, "jsonwrite.Canonical": jsonwrite.Canonical, "jsonwrite.Write": jsonwrite.Write,
	"jrd.Decode": jrd.Decode, "jrd.Encode": jrd.Encode, "jrd.Find": jrd.Find,
	"diddoc.Decode": diddoc.Decode, "diddoc.Encode": diddoc.Encode, "diddoc.Select": diddoc.Select,
	"head.Parse": head.Parse, "head.Values": head.Values, "head.Get": head.Get, "head.Format": head.Format,
	"body.Read": body.Read, "body.Chunked": body.Chunked, "body.Encode": body.Encode,
	"media.Parse": media.Parse, "media.IsJRD": media.IsJRD, "media.IsDID": media.IsDID, "media.Format": media.Format,
	"fresh.Directives": fresh.Directives, "fresh.Of": fresh.Of, "fresh.Least": fresh.Least,
	"weblink.Parse": weblink.Parse, "weblink.Find": weblink.Find, "weblink.Format": weblink.Format,
	"template.Expand": template.Expand, "template.Valid": template.Valid,
	"world.Valid": world.Valid, "world.Ask": world.Ask, "world.Request": world.Request, "world.Without": world.Without,
	"redirect.IsRedirect": redirect.IsRedirect, "redirect.Next": redirect.Next,
	"fetch.Start": fetch.Start, "fetch.Step": fetch.Step, "fetch.Run": fetch.Run,
	"finger.Query": finger.Query, "finger.HostMeta": finger.HostMeta, "finger.Home": finger.Home, "finger.Names": finger.Names, "finger.Read": finger.Read, "finger.Lookup": finger.Lookup,
	"didfetch.Document": didfetch.Document, "didfetch.Read": didfetch.Read, "didfetch.Names": didfetch.Names, "didfetch.Lookup": didfetch.Lookup,
	"deref.Params": deref.Params, "deref.Service": deref.Service, "deref.Run": deref.Run,
	"binding.Forward": binding.Forward, "binding.Resolve": binding.Resolve,
	"cache.New": cache.New, "cache.Sound": cache.Sound, "cache.Get": cache.Get, "cache.Put": cache.Put, "cache.Expire": cache.Expire,
	"session.New": session.New, "session.Do": session.Do, "session.Run": session.Run,
	"witness.Chains": witness.Chains, "witness.Delegates": witness.Delegates, "witness.Allowed": witness.Allowed, "witness.Proves": witness.Proves,
	"script.Parse": script.Parse, "script.Format": script.Format, "script.Report": script.Report, "script.Run": script.Run,
}

// keptWithError has the results that are there also with an error: fields, or results by their number.
var keptWithError = map[string]string{
	"jsondoc.Parse": "1", "script.Parse": "1", "script.Run": "1",
	"fetch.Run": "Trace", "finger.Lookup": "Trace", "didfetch.Document": "Trace", "didfetch.Lookup": "Trace", "deref.Run": "Trace", "binding.Forward": "Trace",
}
